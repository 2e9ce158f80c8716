import PyProof.Rows.All
import Wide.All
import OpenK.AllK
import Wide.FinOn
import Lean
import PyProof.EqAt
import PyProof.EqKinds
import PyProof.TupleCall
import PyProof.ZipIter
import PyProof.NeKinds
import PyProof.Rows.CallKwBuiltin
import KE.KDictSum
import KE.KSortTup
import KE.KRevIter
import PyProof.Rows.Range3
import PyProof.Rows.FactsT2
import PyProof.DictTable
import PyProof.NsDelKeeps
import PyProof.Rows.SortRuns
import PyProof.ListRange
import KE.KLam
import KE.KNestM
import KE.KIntText
import PyProof.StrLawsTight
import PyProof.StrLawsIn
import PyProof.StrLawsAffix
import PyProof.StrLawsChain
import PyProof.StrWalks
import PyProof.ConsumeWalk
import PyProof.SliceStr2
import PyProof.StrLawsIdx
import PyProof.StrOps2
import PyProof.AutoSeq1
import PyProof.ListMulRoad
import KE.KSortKey
import PyProof.DictTruth
import PyProof.Rows.SetFrom
import PyProof.SetRoads
import PySem.Challenge.RW_toldsums_k27_points_that_hit
set_option Elab.async false
set_option linter.all false
set_option maxRecDepth 100000
set_option maxHeartbeats 4000000
/-! THE HAND LAYER, for ints, bools, texts, own classes, LISTS and tuples (index, slices, in, append, pop ..), calls, loops. Paste it whole ahead of your own text; what your proof does not reach may be deleted. -/
namespace L2
open PySem PySem.Spec PyProof.Rows

/-- a key: an int or a str -/
abbrev Key := Sum Int Str
def keyIs : Key → Value → Bool
  | .inl k, v => Value.isInt k v
  | .inr x, v => Value.isStrOf x v
def keyH (w : World) : Key → Int
  | .inl k => hashInt k
  | .inr x => hashStr w x
theorem keyIs_shape : ∀ {k : Key} {v : Value}, keyIs k v = true → (∃ i t, k = Sum.inl i ∧ v = Value.int i t) ∨ (∃ x t, k = Sum.inr x ∧ v = Value.str x t)
  | .inl i, v, h => by
    obtain ⟨t, e⟩ := Value.isInt_shape (k := i) (v := v) h
    exact .inl ⟨i, t, rfl, e⟩
  | .inr x, v, h => by
    obtain ⟨t, e⟩ := Value.isStrOf_shape (x := x) (v := v) h
    exact .inr ⟨x, t, rfl, e⟩
theorem key_ll (a b : Int) : decide ((Sum.inl a : Key) = Sum.inl b) = (a == b) := by
  by_cases e : a = b
  · subst e; simp
  · have h : ¬ (Sum.inl a : Key) = Sum.inl b := fun q => e (Sum.inl.inj q)
    rw [decide_eq_false h]
    exact (beq_eq_false_iff_ne.mpr e).symm
theorem key_rr (a b : Str) : decide ((Sum.inr a : Key) = Sum.inr b) = decide (a = b) := by
  by_cases e : a = b
  · subst e; simp
  · have h : ¬ (Sum.inr a : Key) = Sum.inr b := fun q => e (Sum.inr.inj q)
    rw [decide_eq_false h, decide_eq_false e]
theorem key_lr (a : Int) (b : Str) : decide ((Sum.inl a : Key) = Sum.inr b) = false := decide_eq_false (fun q => nomatch q)
theorem key_rl (a : Str) (b : Int) : decide ((Sum.inr a : Key) = Sum.inl b) = false := decide_eq_false (fun q => nomatch q)

def mixKind (prog : Program) (w : World) : PySem.KeyKind prog w Key where
  is := keyIs
  hash := keyH w
  inj := fun v a b ha hb => by
    rcases keyIs_shape ha with ⟨i, t, rfl, rfl⟩ | ⟨x, t, rfl, rfl⟩
    · rcases keyIs_shape hb with ⟨j, u, rfl, e⟩ | ⟨y, u, rfl, e⟩
      · injection e with e1 _; rw [e1]
      · exact nomatch e
    · rcases keyIs_shape hb with ⟨j, u, rfl, e⟩ | ⟨y, u, rfl, e⟩
      · exact nomatch e
      · injection e with e1 _; rw [e1]
  byValue := fun k v h => by
    rcases keyIs_shape h with ⟨i, t, rfl, rfl⟩ | ⟨x, t, rfl, rfl⟩ <;> rfl
  pyHash := fun hv h => by
    rcases keyIs_shape hv with ⟨i, t, rfl, rfl⟩ | ⟨x, t, rfl, rfl⟩
    · exact wpAny_pyHash_int h
    · exact wpAny_pyHash_str h
  eqBool := fun hu hv h => by
    rcases keyIs_shape hu with ⟨i, t, rfl, rfl⟩ | ⟨x, t, rfl, rfl⟩
    · rcases keyIs_shape hv with ⟨j, u, rfl, rfl⟩ | ⟨y, u, rfl, rfl⟩
      · rw [key_ll] at h; exact wpAny_eqBool_int h
      · rw [key_lr] at h; exact SeqAt.EqAt.int_str i t y u _ _ _ _ h
    · rcases keyIs_shape hv with ⟨j, u, rfl, rfl⟩ | ⟨y, u, rfl, rfl⟩
      · rw [key_rl] at h; exact SeqAt.EqAt.str_int x t j u _ _ _ _ h
      · rw [key_rr] at h; exact wpAny_eqBool_str h
  «strs» := fun k x t v h => by
    rcases keyIs_shape h with ⟨i, u, rfl, e⟩ | ⟨y, u, rfl, e⟩
    · exact nomatch e
    · injection e with e1 _
      subst e1
      cases v <;> rfl

end L2

namespace L2
open PySem PySem.Spec PyProof.Rows

/-- a value, without the heap -/
inductive V where
  | non | bl (b : Bool) | int (i : Int) | str (x : Str) | byt (b : Array UInt8) | flt (b : UInt64) | ref (a : Addr) | ty (n : String)
  deriving DecidableEq

def RelV : V → Value → Prop
  | .non, u => u = Value.none
  | .bl b, u => u = Value.bool b
  | .int i, u => ∃ t, u = Value.int i t
  | .str x, u => ∃ t, u = Value.str x t
  | .byt b, u => ∃ t, u = Value.bytes b t
  | .flt b, u => ∃ t, u = Value.float b t
  | .ref a, u => u = Value.ref a
  | .ty n, u => u = Value.type n

abbrev Vals : List V → List Value → Prop := Paired RelV
theorem Vals.length {xs : List V} {us : List Value} (r : Vals xs us) : xs.length = us.length := Paired.length r
theorem Vals.get : ∀ {xs : List V} {us : List Value} {i : Nat} {x : V}, Vals xs us → xs[i]? = some x → ∃ u, us[i]? = some u ∧ RelV x u
  | _, _, _, _, .nil, e => by simp at e
  | _, _, 0, _, .cons r _, e => by simp at e; subst e; exact ⟨_, rfl, r⟩
  | _, _, i + 1, x, .cons _ t, e => by
    obtain ⟨u, h1, h2⟩ := Vals.get (i := i) (x := x) t (by simpa using e)
    exact ⟨u, by simpa using h1, h2⟩
theorem Vals.set {x : V} {u : Value} (r : RelV x u) : ∀ {xs : List V} {us : List Value} (i : Nat), Vals xs us → Vals (xs.set i x) (us.set i u)
  | _, _, _, .nil => .nil
  | _, _, 0, .cons _ t => .cons r t
  | _, _, i + 1, .cons q t => .cons q (Vals.set r i t)
theorem Vals.append : ∀ {xs ys : List V} {us ws : List Value}, Vals xs us → Vals ys ws → Vals (xs ++ ys) (us ++ ws)
  | _, _, _, _, .nil, s => s
  | _, _, _, _, .cons r t, s => .cons r (Vals.append t s)
theorem Vals.take : ∀ {xs : List V} {us : List Value} (n : Nat), Vals xs us → Vals (xs.take n) (us.take n)
  | _, _, 0, _ => .nil
  | _, _, _ + 1, .nil => .nil
  | _, _, n + 1, .cons r t => .cons r (Vals.take n t)
theorem Vals.drop : ∀ {xs : List V} {us : List Value} (n : Nat), Vals xs us → Vals (xs.drop n) (us.drop n)
  | _, _, 0, r => r
  | _, _, _ + 1, .nil => .nil
  | _, _, n + 1, .cons _ t => Vals.drop n t
def RelO : Option V → Option Value → Prop
  | some v, some u => RelV v u
  | none, none => True
  | _, _ => False
def KV {κ : Type} : List (κ × V) → List (κ × Value) → Prop := Paired fun (p : κ × V) (q : κ × Value) => p.1 = q.1 ∧ RelV p.2 q.2

/-- a key of a dict (00_mix): an int or a text -/
def kV : Key → V
  | .inl i => .int i
  | .inr x => .str x

/-- what stands at a tracked address -/
inductive HO where
  /-- a list -/
  | lst (xs : List V)
  /-- a tuple (never changes) -/
  | tup (xs : List V)
  /-- a dict whose keys are ints and texts; one whose keys are tuples of ints and texts (the empty one is both) -/
  | dK (kvs : List (Key × V)) | dT (kvs : List (List Key × V))
  /-- a set of ints: its members, its size -/
  | set (S : Int → Bool) (n : Nat)
  /-- an instance of the class at C, its dict at dx, its attributes -/
  | ins (C dx : Addr) (fs : List (Str × V))
  /-- the dict of the instance at x -/
  | own (x : Addr)
  /-- the dict of an exception -/
  | xd (fs : List (Str × V))
  /-- a bound method, f of x -/
  | met (f x : Addr)
  /-- a range object lo, lo + 1, .. below hi -/
  | rng (lo hi : Int)
  /-- a thing that is known to the object (the script; a dict while a loop walks it): read, never written while it is so -/
  | frz (o : Obj) (u : HO)
  /-- a code object's table -/
  | tbl (ps : Array Value)
  /-- any other thing, by what is true of its one object (a def of one's own: SetO a S n := HO.ext fun h => ..) -/
  | ext (φ : Heap → Prop)

abbrev Hp := Addr → Option HO
def upd (H : Hp) (a : Addr) (o : HO) : Hp := fun b => if b = a then some o else H b
theorem upd_same {H : Hp} {a : Addr} {o : HO} : upd H a o a = some o := by unfold upd; rw [if_pos rfl]
theorem upd_ne {H : Hp} {a b : Addr} {o : HO} (h : b ≠ a) : upd H a o b = H b := by unfold upd; rw [if_neg h]
/-- two objects of different content stand apart -/
theorem ne_of {H : Hp} {a b : Addr} {o u : HO} (h : H a = some o) (h' : H b = some u) (d : o ≠ u) : a ≠ b := by
  intro e; subst e; rw [h] at h'; exact d (Option.some.inj h')
theorem ne_of_none {H : Hp} {a b : Addr} {o : HO} (h : H a = some o) (h' : H b = none) : a ≠ b := by
  intro e; subst e; rw [h] at h'; cases h'

section
variable (P : Program) (w : World)
def ObjOk (H : Hp) (h : Heap) (a : Addr) : HO → Prop
  | .lst xs => xs.length ≤ sizeLine ∧ ∃ (its : List Value) (n : Nat), Vals xs its ∧ h.get? a = some { cls := .type "list", data := .seq its.toArray n }
  | .tup xs => xs.length ≤ sizeLine ∧ ∃ its : List Value, Vals xs its ∧ IsTup h a its.toArray
  | .dK kvs => kvs.length ≤ sizeLine ∧ (a == sysModules) = false ∧ ∃ vs, KV kvs vs ∧ h.DictOf (mixKind P w) a vs
  | .dT kvs => kvs.length ≤ sizeLine ∧ (a == sysModules) = false ∧ ∃ xs : List (List Key × Addr × Value),
      Paired (fun (p : List Key × V) (q : List Key × Addr × Value) => p.1 = q.1 ∧ H q.2.1 = some (.tup (p.1.map kV)) ∧ RelV p.2 q.2.2) kvs xs ∧
      ∃ o es ep, h.get? a = some o ∧ o.ExactDict ∧ o.data = .dict es ep ∧ es.toList = xs.map (entryOfKey (tupleKind (mixKind P w))) ∧ (xs.map (·.1)).Nodup
  | .set S n => h.SetOf (intKind P w) a S n
  | .ins C dx fs => H dx = some (.own a) ∧ fs.length ≤ 1000 ∧ dx ≠ a ∧ h.get? a = some (PySem.W.instObj C dx) ∧
      ∃ mA, h.Ns1 dx mA ∧ (∀ f, RelO (fs.lookup f) (mA f)) ∧ PySem.Within mA (fs.map (·.1))
  | .own _ => ∃ o, h.get? a = some o
  | .xd fs => ∃ mA, h.Ns1 a mA ∧ ∀ f, RelO (fs.lookup f) (mA f)
  | .rng lo hi => ∃ t u v, h.get? a = some { cls := .type "range", data := .fields #[.int lo t, .int hi u, .int 1 v] }
  | .frz o u => h.get? a = some o ∧ ObjOk H h a u
  | .tbl ps => h.get? a = some { cls := .none, data := .fields ps }
  | .met f x => h.get? a = some (PySem.W.methodObj (.ref f) (.ref x))
  | .ext φ => φ h ∧ (∃ o, h.get? a = some o) ∧ ∀ h1 h2 : Heap, φ h1 → (∀ o, h1.get? a = some o → h2.get? a = some o) → φ h2
/-- the abstract heap is held -/
def HOk (H : Hp) (h : Heap) : Prop := ∀ a o, H a = some o → ObjOk P w H h a o
end

section
variable {P : Program} {w : World} {H H' : Hp} {h h' : Heap} {a : Addr} {o : HO}
theorem ObjOk.lt (x : ObjOk P w H h a o) : a < h.objs.size := by
  cases o with
  | lst xs => obtain ⟨_, _, _, _, e⟩ := x; exact Heap.lt_size e
  | tup xs => obtain ⟨_, _, _, p⟩ := x; exact p.lt
  | dK kvs => obtain ⟨_, _, _, _, o, _, _, e, _⟩ := x; exact Heap.lt_size e
  | dT kvs => obtain ⟨_, _, _, _, o, _, _, e, _⟩ := x; exact Heap.lt_size e
  | set S n => obtain ⟨o, _, _, _, e, _⟩ := x; exact Heap.lt_size e
  | ins C dx fs => obtain ⟨_, _, _, e, _⟩ := x; exact Heap.lt_size e
  | own y => obtain ⟨_, e⟩ := x; exact Heap.lt_size e
  | xd fs => obtain ⟨_, ⟨_, _, _, e, _⟩, _⟩ := x; exact Heap.lt_size e
  | rng lo hi => obtain ⟨_, _, _, e⟩ := x; exact Heap.lt_size e
  | frz ob u => obtain ⟨e, _⟩ := x; exact Heap.lt_size e
  | tbl ps => exact Heap.lt_size (show h.get? a = some _ from x)
  | met f y => exact Heap.lt_size (show h.get? a = some _ from x)
  | ext φ => obtain ⟨_, ⟨_, e⟩, _⟩ := x; exact Heap.lt_size e
theorem Paired.mapP {α β : Type} {F G : α → β → Prop} : ∀ {l₁ : List α} {l₂ : List β}, Paired F l₁ l₂ → (∀ a b, F a b → G a b) → Paired G l₁ l₂
  | _, _, .nil, _ => .nil
  | _, _, .cons r t, f => .cons (f _ _ r) (Paired.mapP t f)
theorem Paired.imp' {α β : Type} {F G : α → β → Prop} (f : ∀ a b, F a b → G a b) {l₁ : List α} {l₂ : List β} (r : Paired F l₁ l₂) : Paired G l₁ l₂ := Paired.mapP r f
/-- what an object's description leans on: its own object, its own dict, the tuples -/
theorem ObjOk.stay (x : ObjOk P w H h a o) (k : ∀ b u, (b = a ∨ H b = some (.own a)) → h.get? b = some u → h'.get? b = some u)
    (ho : ∀ b, H b = some (.own a) → H' b = some (.own a)) (ht : ∀ b xs, H b = some (.tup xs) → H' b = some (.tup xs)) : ObjOk P w H' h' a o := by
  induction o with
  | lst xs => obtain ⟨z, its, n, r, e⟩ := x; exact ⟨z, its, n, r, k _ _ (.inl rfl) e⟩
  | tup xs => obtain ⟨z, its, r, ob, e, c⟩ := x; exact ⟨z, its, r, ob, k _ _ (.inl rfl) e, c⟩
  | dK kvs => obtain ⟨z, y, vs, r, ob, es, ep, e, c⟩ := x; exact ⟨z, y, vs, r, ob, es, ep, k _ _ (.inl rfl) e, c⟩
  | dT kvs =>
    obtain ⟨z, y, xs, r, ob, es, ep, e, c⟩ := x
    exact ⟨z, y, xs, Paired.mapP r fun p q z => ⟨z.1, ht _ _ z.2.1, z.2.2⟩, ob, es, ep, k _ _ (.inl rfl) e, c⟩
  | set S n => obtain ⟨ob, es, ep, t, e, c⟩ := x; exact ⟨ob, es, ep, t, k _ _ (.inl rfl) e, c⟩
  | ins C dx fs =>
    obtain ⟨d, z, ne, e, mA, ⟨od, es, ep, e2, c⟩, r⟩ := x
    exact ⟨ho _ d, z, ne, k _ _ (.inl rfl) e, mA, ⟨od, es, ep, k _ _ (.inr d) e2, c⟩, r⟩
  | own y => obtain ⟨ob, e⟩ := x; exact ⟨ob, k _ _ (.inl rfl) e⟩
  | xd fs => obtain ⟨mA, ⟨od, es, ep, e, c⟩, r⟩ := x; exact ⟨mA, ⟨od, es, ep, k _ _ (.inl rfl) e, c⟩, r⟩
  | rng lo hi => obtain ⟨t, u, v, e⟩ := x; exact ⟨t, u, v, k _ _ (.inl rfl) e⟩
  | frz ob u ih => obtain ⟨e, q⟩ := x; exact ⟨k _ _ (.inl rfl) e, ih q⟩
  | tbl ps =>
    have e : h.get? a = some { cls := .none, data := .fields ps } := x
    show h'.get? a = some { cls := .none, data := .fields ps }
    exact k a _ (.inl rfl) e
  | met f y =>
    have e : h.get? a = some (PySem.W.methodObj (.ref f) (.ref y)) := x
    show h'.get? a = some (PySem.W.methodObj (.ref f) (.ref y))
    exact k a _ (.inl rfl) e
  | ext φ => obtain ⟨p, ⟨o, e⟩, st⟩ := x; exact ⟨st _ _ p fun o q => k _ _ (.inl rfl) q, ⟨o, k _ _ (.inl rfl) e⟩, st⟩
theorem HOk.lt (x : HOk P w H h) (e : H a = some o) : a < h.objs.size := (x a o e).lt
theorem HOk.fresh (x : HOk P w H h) (e : h.objs.size ≤ a) : H a = none := by
  cases q : H a with
  | none => rfl
  | some u => exact absurd (Nat.lt_of_lt_of_le (x.lt q) e) (Nat.lt_irrefl _)
/-- every object of the heap is kept -/
theorem HOk.kept (x : HOk P w H h) (k : ∀ b u, h.get? b = some u → h'.get? b = some u) : HOk P w H h' := fun a o e =>
  (x a o e).stay (fun b u _ q => k b u q) (fun _ q => q) fun _ _ q => q
/-- a new object is laid and tracked -/
theorem HOk.laid (x : HOk P w H h) (k : ∀ b u, h.get? b = some u → h'.get? b = some u) (hp : h.objs.size ≤ a) (new : ObjOk P w (upd H a o) h' a o) : HOk P w (upd H a o) h' := fun b u e => by
  have hn := x.fresh hp
  by_cases hb : b = a
  · subst hb; rw [upd_same] at e; cases e; exact new
  · rw [upd_ne hb] at e
    exact (x b u e).stay (fun c v _ q => k c v q) (fun c q => by rw [upd_ne (ne_of_none q hn)]; exact q) fun c xs q => by rw [upd_ne (ne_of_none q hn)]; exact q
end

/-- what may be read as u: it is u, or a known u -/
def Rd (H : Hp) (a : Addr) (u : HO) : Prop := H a = some u ∨ ∃ o, H a = some (.frz o u)
theorem Rd.of {H : Hp} {a : Addr} {u : HO} (h : H a = some u) : Rd H a u := .inl h
theorem Rd.ok {P : Program} {w : World} {H : Hp} {h : Heap} {a : Addr} {u : HO} (r : Rd H a u) (x : HOk P w H h) : ObjOk P w H h a u := by
  rcases r with r | ⟨o, r⟩
  · exact x a u r
  · obtain ⟨_, q⟩ := x a _ r
    exact q
/-- what may be written -/
def Mut : Option HO → Prop
  | some (.lst _) => True
  | some (.dK _) => True
  | some (.dT _) => True
  | some (.set _ _) => True
  | some (.ins _ _ _) => True
  | some (.ext _) => True
  | _ => False
section
variable {P : Program} {w : World} {H : Hp} {h h' : Heap} {x e : Addr} {o' : HO}
/-- the object at e is changed: x itself, or the dict of the instance x -/
theorem HOk.write (ok : HOk P w H h) (mu : Mut (H x)) (he : e = x ∨ H e = some (.own x)) (k : ∀ b u, b ≠ e → h.get? b = some u → h'.get? b = some u) (heo : ∃ u, h'.get? e = some u)
    (new : ObjOk P w (upd H x o') h' x o') : HOk P w (upd H x o') h' := fun b u q => by
  have nown : ∀ c y, H c = some (.own y) → c ≠ x := fun c y r z => by subst z; rw [r] at mu; exact mu
  have ntup : ∀ c xs, H c = some (.tup xs) → c ≠ x := fun c xs r z => by subst z; rw [r] at mu; exact mu
  by_cases hb : b = x
  · subst hb; rw [upd_same] at q; cases q; exact new
  · rw [upd_ne hb] at q
    by_cases hbe : b = e
    · have q' : H b = some (.own x) := by
        rcases he with z | z
        · exact absurd (hbe.trans z) hb
        · rw [hbe]; exact z
      rw [q] at q'; cases q'
      obtain ⟨v, hv⟩ := heo
      exact ⟨v, by rw [hbe]; exact hv⟩
    · refine (ok b u q).stay (fun c v hc r => k c v ?_ r) (fun c r => by rw [upd_ne (nown c b r)]; exact r) fun c xs r => by rw [upd_ne (ntup c xs r)]; exact r
      rcases hc with rfl | hc
      · exact hbe
      · rintro rfl
        rcases he with z | z
        · exact nown c b hc z
        · rw [hc] at z; cases z; exact hb rfl
end

/-! ### kept unless tracked; of the frames at fs (the callers') the slots may change (an exception that passes writes there); of the records at ex (iterators) nothing is said -/
structure Un (fs ex : List Addr) (H H' : Hp) (h h' : Heap) : Prop where
  keep : ∀ b o, h.get? b = some o → H b = none → b ∉ fs → b ∉ ex → h'.get? b = some o
  slot : ∀ b o, h.get? b = some o → H b = none → b ∈ fs → b ∉ ex → ∃ sl, h'.get? b = some { o with slots := sl }
  free : ∀ b o, h.get? b = some o → H b = none → b ∉ ex → H' b = none
  there : ∀ b o, h.get? b = some o → b ∉ ex → ∃ o', h'.get? b = some o'
  tups : ∀ b xs, H b = some (.tup xs) → H' b = some (.tup xs)
  frzs : ∀ b o u, H b = some (.frz o u) → H' b = some (.frz o u)
  tbls : ∀ b ps, H b = some (.tbl ps) → ∃ more, H' b = some (.tbl (ps ++ more))
section
variable {fs fs' ex ex' : List Addr} {H H1 H2 : Hp} {h h1 h2 h' : Heap} {a x e : Addr} {o : HO}
theorem Un.any (u : Un fs ex H H1 h h1) {b : Addr} {ob : Obj} (q : h.get? b = some ob) (n : H b = none) (hx : b ∉ ex) : ∃ sl, h1.get? b = some { ob with slots := sl } := by
  by_cases hb : b ∈ fs
  · exact u.slot b ob q n hb hx
  · exact ⟨ob.slots, u.keep b ob q n hb hx⟩
theorem Un.trans (a : Un fs ex H H1 h h1) (b : Un fs ex H1 H2 h1 h2) : Un fs ex H H2 h h2 where
  keep := fun c ob q n hc hx => b.keep c ob (a.keep c ob q n hc hx) (a.free c ob q n hx) hc hx
  slot := fun c ob q n hc hx => by
    obtain ⟨sl, e1⟩ := a.slot c ob q n hc hx
    obtain ⟨sl', e2⟩ := b.slot c _ e1 (a.free c ob q n hx) hc hx
    exact ⟨sl', e2⟩
  free := fun c ob q n hx => by
    obtain ⟨o', e1⟩ := a.there c ob q hx
    exact b.free c o' e1 (a.free c ob q n hx) hx
  there := fun c ob q hx => by
    obtain ⟨o', e1⟩ := a.there c ob q hx
    exact b.there c o' e1 hx
  tups := fun c xs q => b.tups c xs (a.tups c xs q)
  frzs := fun c ob xs q => b.frzs c ob xs (a.frzs c ob xs q)
  tbls := fun c ps q => by
    obtain ⟨m1, e1⟩ := a.tbls c ps q
    obtain ⟨m2, e2⟩ := b.tbls c _ e1
    exact ⟨m1 ++ m2, by rw [e2, Array.append_assoc]⟩
theorem Un.kept (k : ∀ b u, h.get? b = some u → h'.get? b = some u) : Un fs ex H H h h' :=
  ⟨fun b ob q _ _ _ => k b ob q, fun b ob q _ _ _ => ⟨ob.slots, k b ob q⟩, fun _ _ _ n _ => n, fun b ob q _ => ⟨ob, k b ob q⟩, fun _ _ q => q, fun _ _ _ q => q, fun _ ps q => ⟨#[], by rw [q]; simp⟩⟩
theorem Un.refl : Un fs ex H H h h := Un.kept fun _ _ q => q
theorem Un.laid (k : ∀ b u, h.get? b = some u → h'.get? b = some u) (hp : h.objs.size ≤ a) (hn : H a = none) : Un fs ex H (upd H a o) h h' where
  keep := fun b u q _ _ _ => k b u q
  slot := fun b u q _ _ _ => ⟨u.slots, k b u q⟩
  free := fun b u q n _ => by rw [upd_ne (Nat.ne_of_lt (Nat.lt_of_lt_of_le (Heap.lt_size q) hp))]; exact n
  there := fun b u q _ => ⟨u, k b u q⟩
  tups := fun b xs q => by rw [upd_ne (ne_of_none q hn)]; exact q
  frzs := fun b u xs q => by rw [upd_ne (ne_of_none q hn)]; exact q
  tbls := fun b ps q => ⟨#[], by rw [upd_ne (ne_of_none q hn), q]; simp⟩
theorem Un.write (mu : Mut (H x)) (he : e = x ∨ H e = some (.own x)) (k : ∀ b u, b ≠ e → h.get? b = some u → h'.get? b = some u) (heo : ∃ u, h'.get? e = some u) : Un fs ex H (upd H x o) h h' := by
  have hx : ∀ b, H b = none → b ≠ x := fun b n z => by subst z; rw [n] at mu; exact mu
  have hb : ∀ b, H b = none → b ≠ e := fun b n z => by
    subst z
    rcases he with r | r
    · exact hx b n r
    · rw [n] at r; cases r
  have hm : ∀ b u, H b = some u → ¬ Mut (some u) → b ≠ x := fun b u q nm z => by subst z; rw [q] at mu; exact nm mu
  refine ⟨fun b u q n _ _ => k b u (hb b n) q, fun b u q n _ _ => ⟨u.slots, k b u (hb b n) q⟩, fun b u q n _ => by rw [upd_ne (hx b n)]; exact n, fun b u q _ => ?_,
    fun b xs q => by rw [upd_ne (hm b _ q fun z => z)]; exact q, fun b u xs q => by rw [upd_ne (hm b _ q fun z => z)]; exact q, fun b ps q => ⟨#[], by rw [upd_ne (hm b _ q fun z => z), q]; simp⟩⟩
  by_cases hbe : b = e
  · subst hbe; exact heo
  · exact ⟨u, k b u hbe q⟩
theorem Un.mono (u : Un fs ex H H1 h h1) (hs : ∀ b ∈ fs, b ∈ fs') (hx : ∀ b ∈ ex, b ∈ ex') : Un fs' ex' H H1 h h1 :=
  ⟨fun b ob q n hb he => u.keep b ob q n (fun z => hb (hs b z)) fun z => he (hx b z), fun _ _ q n _ he => u.any q n fun z => he (hx _ z), fun b ob q n he => u.free b ob q n fun z => he (hx b z), fun b ob q he => u.there b ob q fun z => he (hx b z), u.tups, u.frzs, u.tbls⟩
end

/-! ### the heap without what is tracked -/
def trk (h : Heap) (H : Hp) : List Addr := (List.range h.objs.size).filter fun a => (H a).isSome
def hidT (h : Heap) (H : Hp) : Heap := PySem.W.hideAll h (trk h H)
theorem hidT_size (h : Heap) (H : Hp) : (hidT h H).objs.size = h.objs.size := PySem.W.hideAll_size _ _
theorem hidT_get {h : Heap} {H : Hp} {b : Addr} {o : Obj} (e : h.get? b = some o) (n : H b = none) : (hidT h H).get? b = some o :=
  PySem.W.hideAll_get _ e fun hm => by
    have q : (H b).isSome = true := (List.mem_filter.mp hm).2
    rw [n] at q; simp at q
theorem of_hidT {h : Heap} {H : Hp} {b : Addr} {o : Obj} (e : (hidT h H).get? b = some o) : h.get? b = some o ∧ H b = none := by
  have e' : h.get? b = some o := PySem.W.of_hideAll (trk h H) e
  refine ⟨e', ?_⟩
  cases q : H b with
  | none => rfl
  | some x =>
    have hm : b ∈ trk h H := List.mem_filter.mpr ⟨List.mem_range.mpr (Heap.lt_size e'), by simp [q]⟩
    have z : (hidT h H).get? b = none := PySem.W.hideAll_none (trk h H) hm
    rw [z] at e; cases e

/-! ### OpenK's ledger, filled with every new object but one -/
def allNews (g h : Heap) (L : Addr) : List (Addr × Obj) := (List.range h.objs.size).filterMap fun a => if a = L ∨ (g.get? a).isSome = true then none else (h.get? a).map fun o => (a, o)
def rest (g h : Heap) (L d : Addr) : List (Addr × Obj) := (allNews g h L).filter fun p => decide (p.1 ≠ d)
end L2

namespace L2
open PySem PySem.Spec PyProof.Rows

/-- the module's facts, over the base: the heap at the law's entry without what is tracked there -/
structure Mod (K : PySem.W.Frag) (mg : Str → Option Value) (base : Heap) : Prop where
  kin : K.In base
  glob : base.Ns mainGlobals mg
  blt : ∃ mb, base.Ns builtinsNs mb ∧ ∀ x : Str, x ≠ "__name__" → mb x = bootBuiltins x
  nolimit : base.NoLimit

/-- the context: a def's body (or a comprehension's block) running. base: fixed through the whole law; s₀, H₀: the entry; outer: the frames whose slots others may change (a def's callers); stack: all frames that run;
   ex: iterators that were made ahead of the entry and are walked here (a comprehension's); fn: the names whose cells were made at the entry (a def: all; a comprehension's block: its own); calm: not within an except suite; pn: pins that every state bears; xe: what is wanted of an exception that leaves the code -/
structure Cx where
  prog : Program
  w : World
  K : PySem.W.Frag
  mg : Str → Option Value
  base : Heap
  A : Around
  N : List Str
  s₀ : Shared
  H₀ : Hp
  env : Env
  outer : List Env
  stack : List Env
  ex : List Addr
  fn : Str → Bool
  calm : Bool
  pn : List (Addr × Obj)
  xe : Value → Shared → Prop
/-- the callers' frames -/
def frs (l : List Env) : List Addr := l.filterMap (·.frame)
abbrev Cx.fs (X : Cx) : List Addr := frs X.outer

def Vis (sc : Scope) (x : Str) : Prop := sc.names.lookup x = some .local ∨ sc.names.lookup x = some .cell ∨ sc.names.lookup x = some .free
def Loc (sc : Scope) (x : Str) : Prop := sc.names.lookup x = some .local ∨ sc.names.lookup x = some .cell
def Look (env : Env) (h : Heap) (m : Str → Option Value) (x : Str) (u : Value) : Prop :=
  (env.kindOf x = some .local ∧ m x = some u) ∨ ((env.kindOf x = some .cell ∨ env.kindOf x = some .free) ∧ ∃ c, env.cells.lookup x = some c ∧ h.IsCell c (some u))

structure Cx.Ok (X : Cx) : Prop where
  mod : Mod X.K X.mg X.base
  kind : X.env.scope.kind = .function
  glob : X.env.globals = mainGlobals
  blt : X.env.builtins = builtinsNs
  above : X.s₀.heap.objs.size ≤ X.env.locals
  inj : ∀ x y c, X.env.cells.lookup x = some c → X.env.cells.lookup y = some c → x = y
  has : ∀ x, (X.env.kindOf x = some .cell ∨ X.env.kindOf x = some .free) → ∃ c, X.env.cells.lookup x = some c
  cab : ∀ x c, X.fn x = true → X.env.cells.lookup x = some c → X.s₀.heap.objs.size ≤ c
  hd : X.calm = true → X.A.handled = none
  frames : X.A.frames = some X.stack
  stk : X.stack = X.outer ∨ (X.stack = X.env :: X.outer ∧ X.env.frame = some X.env.locals)
  exf : ∀ b ∈ X.ex, b ≠ X.env.locals ∧ ∀ x c, X.env.cells.lookup x = some c → c ≠ b
  bs : ∀ b o, X.base.get? b = some o → X.s₀.heap.get? b = some o ∧ X.H₀ b = none
  bsz : X.base.objs.size ≤ X.s₀.heap.objs.size
  noex : ∀ b o, X.base.get? b = some o → b ∉ X.ex
  exfs : ∀ b ∈ X.ex, b ∉ X.fs
  funs : X.s₀.heap.FunFrames X.base X.outer
  frf : ∀ b ∈ X.fs, X.H₀ b = none

structure Inv (X : Cx) (pins : List (Addr × Obj)) (σ : List (Option V)) (H : Hp) (s : Shared) : Prop where
  ok : X.Ok
  os : s.os = X.s₀.os
  bare : AllBare s.gens
  base : Un X.fs X.ex X.H₀ H X.s₀.heap s.heap
  loc : ∃ m, s.heap.Ns X.env.locals m ∧ ∀ (i : Nat) (x : Str) (v : V), X.N[i]? = some x → σ[i]? = some (some v) → Vis X.env.scope x → ∃ u, RelV v u ∧ Look X.env s.heap m x u
  cell : ∀ x c, X.env.cells.lookup x = some c → ∃ v, s.heap.IsCell c v
  free : H X.env.locals = none
  freeC : ∀ x c, X.env.cells.lookup x = some c → H c = none
  pin : ∀ p ∈ X.pn ++ pins, s.heap.get? p.1 = some p.2 ∧ H p.1 = none ∧ p.1 ≠ X.env.locals ∧ p.1 ∉ X.fs ∧ ∀ v, p.2.data ≠ .cell v
  hok : HOk X.prog X.w H s.heap
  len : σ.length = X.N.length

section
variable {X : Cx} {pins : List (Addr × Obj)} {σ : List (Option V)} {H H' : Hp} {s : Shared} {h' : Heap}

theorem Cx.Ok.nofr (ok : X.Ok) {b : Addr} {o : Obj} (e : X.base.get? b = some o) : b ∉ X.fs := fun hb => by
  have := (ok.funs.mem hb).1
  rw [e] at this; cases this
theorem Inv.bs (I : Inv X pins σ H s) : ∀ b o, X.base.get? b = some o → s.heap.get? b = some o ∧ H b = none := fun b o e =>
  ⟨I.base.keep b o (I.ok.bs b o e).1 (I.ok.bs b o e).2 (I.ok.nofr e) (I.ok.noex b o e), I.base.free b o (I.ok.bs b o e).1 (I.ok.bs b o e).2 (I.ok.noex b o e)⟩
theorem Inv.bk (I : Inv X pins σ H s) : ∀ b o, X.base.get? b = some o → s.heap.get? b = some o := fun b o e => (I.bs b o e).1
theorem Inv.mod (I : Inv X pins σ H s) : Mod X.K X.mg X.base := I.ok.mod
theorem Inv.kIn (I : Inv X pins σ H s) : X.K.In s.heap := I.ok.mod.kin.keeps I.bk
theorem Inv.nolimit (I : Inv X pins σ H s) : s.heap.NoLimit := I.ok.mod.nolimit.keeps I.bk
/-- the frame over the base: for OpenK's rules (K.In X.base is I.mod.kin) -/
theorem Inv.fr (I : Inv X pins σ H s) : ∃ m, Fr X.base X.env.locals s.heap m :=
  let ⟨m, hn, _⟩ := I.loc
  ⟨m, hn, I.bk, Nat.le_trans I.ok.bsz I.ok.above⟩
theorem Inv.lt (I : Inv X pins σ H s) : X.env.locals < s.heap.objs.size := let ⟨_, hn, _⟩ := I.loc; hn.lt
theorem Inv.sz (I : Inv X pins σ H s) : X.s₀.heap.objs.size ≤ s.heap.objs.size := Nat.le_trans I.ok.above (Nat.le_of_lt I.lt)
theorem Inv.nofs (I : Inv X pins σ H s) {a : Addr} (h : s.heap.objs.size ≤ a) : a ∉ X.fs := fun hb => by
  obtain ⟨_, o, ho, _⟩ := I.ok.funs.mem hb
  exact absurd (Nat.lt_of_lt_of_le (Heap.lt_size ho) (Nat.le_trans I.sz h)) (Nat.lt_irrefl _)
theorem Inv.cne (I : Inv X pins σ H s) : ∀ x c, X.env.cells.lookup x = some c → c ≠ X.env.locals := fun x c e z => by
  obtain ⟨v, o, ho, hd⟩ := I.cell x c e
  obtain ⟨m, ⟨o', es, ep, ho', hd', _⟩, _⟩ := I.loc
  rw [z, ho'] at ho; cases ho; rw [hd'] at hd; cases hd
theorem Inv.funs (I : Inv X pins σ H s) : s.heap.FunFrames X.base X.outer := by
  have all : ∀ (l : List Env), (∀ b ∈ frs l, b ∈ X.fs) → X.s₀.heap.FunFrames X.base l → s.heap.FunFrames X.base l := by
    intro l
    induction l with
    | nil => intro _ _; trivial
    | cons env r ih =>
      intro hs hl
      obtain ⟨hk, ⟨L, o, hf, hn, ho, hd⟩, hr⟩ := hl
      have hL : L ∈ X.fs := hs L (by unfold frs; rw [List.filterMap_cons, hf]; exact List.mem_cons_self)
      obtain ⟨sl, e⟩ := I.base.slot L o ho (I.ok.frf L hL) hL fun z => I.ok.exfs L z hL
      exact ⟨hk, ⟨L, _, hf, hn, e, hd⟩, ih (fun b hb => hs b (by unfold frs; rw [List.filterMap_cons, hf]; exact List.mem_cons_of_mem _ hb)) hr⟩
  exact all X.outer (fun _ hb => hb) I.ok.funs

/-- the frames that run, for a call -/
theorem Inv.stack (I : Inv X pins σ H s) : s.heap.FunFrames X.base X.stack := by
  rcases I.ok.stk with e | ⟨e, hf⟩
  · rw [e]; exact I.funs
  · rw [e]
    obtain ⟨m, hn, _⟩ := I.loc
    refine .cons (by rw [I.ok.kind]; decide) hf hn ?_ I.funs
    exact Heap.get?_none_of_le (Nat.le_trans I.ok.bsz I.ok.above)
theorem Inv.stkSub (I : Inv X pins σ H s) : ∀ b ∈ frs X.stack, b ∈ X.env.locals :: X.fs := fun b hb => by
  rcases I.ok.stk with e | ⟨e, hf⟩
  · rw [e] at hb; exact List.mem_cons_of_mem _ hb
  · rw [e] at hb
    unfold frs at hb
    rw [List.filterMap_cons, hf] at hb
    exact hb
theorem Inv.stkFree (I : Inv X pins σ H s) : ∀ b ∈ frs X.stack, H b = none := fun b hb => by
  rcases List.mem_cons.mp (I.stkSub b hb) with e | hb
  · rw [e]; exact I.free
  · obtain ⟨_, o, ho, _⟩ := I.ok.funs.mem hb
    exact I.base.free b o ho (I.ok.frf b hb) fun z => I.ok.exfs b z hb

/-- THE STEP: the untracked objects but the frame and the records at ch are kept (the callers' frames up to slots), the frame's map is kept, the new abstract heap is held -/
theorem Inv.step {g' : Array GenState} {t' : Nat} {d' : Drawn} {ch : List Addr} (I : Inv X pins σ H s)
    (hch : ∀ b ∈ ch, (b ∈ X.ex ∨ X.s₀.heap.objs.size ≤ b) ∧ b ≠ X.env.locals ∧ (∀ x c, X.env.cells.lookup x = some c → c ≠ b) ∧ ∀ p ∈ X.pn ++ pins, p.1 ≠ b)
    (keep : ∀ b o, b ≠ X.env.locals → b ∉ X.fs → b ∉ ch → s.heap.get? b = some o → H b = none → h'.get? b = some o)
    (slot : ∀ b o, b ≠ X.env.locals → b ∈ X.fs → b ∉ ch → s.heap.get? b = some o → H b = none → ∃ sl, h'.get? b = some { o with slots := sl }) (free : ∀ b o, b ∉ ch → s.heap.get? b = some o → H b = none → H' b = none)
    (there : ∀ b o, b ∉ ch → s.heap.get? b = some o → ∃ o', h'.get? b = some o')
    (tups : ∀ b xs, H b = some (.tup xs) → H' b = some (.tup xs)) (frzs : ∀ b o u, H b = some (.frz o u) → H' b = some (.frz o u)) (tbls : ∀ b ps, H b = some (.tbl ps) → ∃ more, H' b = some (.tbl (ps ++ more)))
    (ns : ∀ m, s.heap.Ns X.env.locals m → h'.Ns X.env.locals m) (hok : HOk X.prog X.w H' h') (hg : AllBare g') :
    Inv X pins σ H' { s with heap := h', gens := g', drawn := d', toks := t' } := by
  have neL : ∀ b o, X.s₀.heap.get? b = some o → b ≠ X.env.locals := fun b o e => Nat.ne_of_lt (Nat.lt_of_lt_of_le (Heap.lt_size e) I.ok.above)
  have neC : ∀ b o, X.s₀.heap.get? b = some o → b ∉ X.ex → b ∉ ch := fun b o e hx hb => by
    rcases (hch b hb).1 with z | z
    · exact hx z
    · exact absurd (Nat.lt_of_lt_of_le (Heap.lt_size e) z) (Nat.lt_irrefl _)
  have cellK : ∀ x c, X.env.cells.lookup x = some c → ∀ v, s.heap.IsCell c v → h'.IsCell c v := fun x c e v ⟨o, ho, hd⟩ => by
    have nch : c ∉ ch := fun z => (hch c z).2.2.1 x c e rfl
    by_cases hc : c ∈ X.fs
    · obtain ⟨sl, q⟩ := slot c o (I.cne x c e) hc nch ho (I.freeC x c e)
      exact ⟨_, q, hd⟩
    · exact ⟨o, keep c o (I.cne x c e) hc nch ho (I.freeC x c e), hd⟩
  refine ⟨I.ok, I.os, hg, ⟨fun b o e n hb hx => ?_, fun b o e n hb hx => ?_, fun b o e n hx => ?_, fun b o e hx => ?_, fun b xs e => tups b xs (I.base.tups b xs e), fun b o xs e => frzs b o xs (I.base.frzs b o xs e), fun b ps e => ?_⟩, ?_, fun x c e => ?_, ?_, fun x c e => ?_, fun p hp => ?_, hok, I.len⟩
  · exact keep b o (neL b o e) hb (neC b o e hx) (I.base.keep b o e n hb hx) (I.base.free b o e n hx)
  · obtain ⟨sl, e1⟩ := I.base.slot b o e n hb hx
    obtain ⟨sl', e2⟩ := slot b _ (neL b o e) hb (neC b o e hx) e1 (I.base.free b o e n hx)
    exact ⟨sl', e2⟩
  · obtain ⟨o', e1⟩ := I.base.there b o e hx
    exact free b o' (neC b o e hx) e1 (I.base.free b o e n hx)
  · obtain ⟨o', e1⟩ := I.base.there b o e hx
    exact there b o' (neC b o e hx) e1
  · obtain ⟨m1, e1⟩ := I.base.tbls b ps e
    obtain ⟨m2, e2⟩ := tbls b _ e1
    exact ⟨m1 ++ m2, by rw [e2, Array.append_assoc]⟩
  · obtain ⟨m, hn, hl⟩ := I.loc
    refine ⟨m, ns m hn, fun i x v e1 e2 e3 => ?_⟩
    obtain ⟨u, r, l⟩ := hl i x v e1 e2 e3
    refine ⟨u, r, ?_⟩
    rcases l with l | ⟨k, c, e, z⟩
    · exact .inl l
    · exact .inr ⟨k, c, e, cellK x c e _ z⟩
  · obtain ⟨v, z⟩ := I.cell x c e
    exact ⟨v, cellK x c e v z⟩
  · obtain ⟨m, ⟨o, _, _, ho, _⟩, _⟩ := I.loc
    exact free _ o (fun z => (hch _ z).2.1 rfl) ho I.free
  · obtain ⟨v, o, ho, hd⟩ := I.cell x c e
    exact free c o (fun z => (hch c z).2.2.1 x c e rfl) ho (I.freeC x c e)
  · obtain ⟨e, n, ne, nf, d⟩ := I.pin p hp
    have nch : p.1 ∉ ch := fun z => (hch p.1 z).2.2.2 p hp rfl
    exact ⟨keep p.1 p.2 ne nf nch e n, free p.1 p.2 nch e n, ne, nf, d⟩
/-- .. where the frame's own object is kept too -/
theorem Inv.un {t' : Nat} (I : Inv X pins σ H s) (u : Un X.fs [] H H' s.heap h') (hok : HOk X.prog X.w H' h') : Inv X pins σ H' { s with heap := h', toks := t' } := by
  obtain ⟨m, ⟨o, es, ep, ho, r⟩, _⟩ := id I.loc
  obtain ⟨sl, hL⟩ := u.any ho I.free (by simp)
  exact I.step (g' := s.gens) (d' := s.drawn) (ch := []) (fun _ z => nomatch z) (fun b o _ hb _ e n => u.keep b o e n hb (by simp)) (fun b o _ hb _ e n => u.slot b o e n hb (by simp)) (fun b o _ e n => u.free b o e n (by simp)) (fun b o _ e => u.there b o e (by simp)) u.tups u.frzs u.tbls (fun m' hm => by
    obtain ⟨o', es', ep', ho', r'⟩ := hm
    rw [ho] at ho'; cases ho'
    exact ⟨_, es', ep', hL, r'⟩) hok I.bare
/-- behind a call (or a comprehension's block): the slots of this frame may have changed too, the records at ch may have turned -/
theorem Inv.call {g' : Array GenState} {t' : Nat} {d' : Drawn} {ch : List Addr} (I : Inv X pins σ H s) (u : Un (frs X.stack) ch H H' s.heap h') (hok : HOk X.prog X.w H' h') (hg : AllBare g')
    (hch : ∀ b ∈ ch, (b ∈ X.ex ∨ X.s₀.heap.objs.size ≤ b) ∧ b ≠ X.env.locals ∧ (∀ x c, X.env.cells.lookup x = some c → c ≠ b) ∧ ∀ p ∈ X.pn ++ pins, p.1 ≠ b) :
    Inv X pins σ H' { s with heap := h', gens := g', drawn := d', toks := t' } := by
  obtain ⟨m, ⟨o, es, ep, ho, r⟩, _⟩ := id I.loc
  obtain ⟨sl, hL⟩ := u.any ho I.free fun z => (hch _ z).2.1 rfl
  exact I.step (ch := ch) hch (fun b o hL hb hc e n => u.keep b o e n (fun z => (List.mem_cons.mp (I.stkSub b z)).elim hL hb) hc) (fun b o _ _ hc e n => u.any e n hc) (fun b o hc e n => u.free b o e n hc) (fun b o hc e => u.there b o e hc) u.tups u.frzs u.tbls (fun m' hm => by
    obtain ⟨o', es', ep', ho', r'⟩ := hm
    rw [ho] at ho'; cases ho'
    exact ⟨_, es', ep', hL, r'⟩) hok hg
/-- an untracked record of ours (an iterator) has turned -/
theorem Inv.turned {t' : Nat} {it : Addr} (I : Inv X pins σ H s) (k : ∀ b o, b ≠ it → s.heap.get? b = some o → h'.get? b = some o) (hn : H it = none) (hL : it ≠ X.env.locals)
    (h1 : it ∈ X.ex ∨ X.s₀.heap.objs.size ≤ it) (h2 : ∀ x c, X.env.cells.lookup x = some c → c ≠ it) (h3 : ∀ p ∈ X.pn ++ pins, p.1 ≠ it) : Inv X pins σ H { s with heap := h', toks := t' } := by
  have nit : ∀ b u, H b = some u → b ≠ it := fun b u e z => by rw [z, hn] at e; cases e
  refine I.step (g' := s.gens) (d' := s.drawn) (ch := [it]) (fun b hb => ?_) (fun b o _ _ hc e _ => k b o (fun z => hc (by simp [z])) e) (fun b o _ _ hc e _ => ⟨o.slots, k b o (fun z => hc (by simp [z])) e⟩) (fun _ _ _ _ n => n)
    (fun b o hc e => ⟨o, k b o (fun z => hc (by simp [z])) e⟩) (fun _ _ e => e) (fun _ _ _ e => e) (fun b ps e => ⟨#[], by rw [e]; simp⟩) (fun m hm => ?_) (fun b u e => ?_) I.bare
  · have e : b = it := by simpa using hb
    subst e
    exact ⟨h1, hL, h2, h3⟩
  · obtain ⟨o, es, ep, ho, r⟩ := hm
    exact ⟨o, es, ep, k _ o (Ne.symm hL) ho, r⟩
  · refine (I.hok b u e).stay (fun c v hc q => k c v ?_ q) (fun _ q => q) fun _ _ q => q
    rcases hc with z | z
    · rw [z]; exact nit b u e
    · exact nit c _ z
theorem Inv.tok (I : Inv X pins σ H s) (t : Nat) : Inv X pins σ H { s with toks := t } := I.un (h' := s.heap) (t' := t) Un.refl I.hok
/-- all objects kept -/
theorem Inv.kept {t' : Nat} (I : Inv X pins σ H s) (k : ∀ b u, s.heap.get? b = some u → h'.get? b = some u) : Inv X pins σ H { s with heap := h', toks := t' } := I.un (Un.kept k) (I.hok.kept k)
/-- a new object laid and tracked -/
theorem Inv.laid {a : Addr} {o : HO} {t' : Nat} (I : Inv X pins σ H s) (k : ∀ b u, s.heap.get? b = some u → h'.get? b = some u) (hp : s.heap.objs.size ≤ a) (new : ObjOk X.prog X.w (upd H a o) h' a o) :
    Inv X pins σ (upd H a o) { s with heap := h', toks := t' } := I.un (Un.laid k hp (I.hok.fresh hp)) (I.hok.laid k hp new)
/-- an object written -/
theorem Inv.write {x e : Addr} {o : HO} {t' : Nat} (I : Inv X pins σ H s) (mu : Mut (H x)) (he : e = x ∨ H e = some (.own x)) (k : ∀ b u, b ≠ e → s.heap.get? b = some u → h'.get? b = some u) (heo : ∃ u, h'.get? e = some u)
    (new : ObjOk X.prog X.w (upd H x o) h' x o) : Inv X pins σ (upd H x o) { s with heap := h', toks := t' } := I.un (Un.write mu he k heo) (I.hok.write mu he k heo new)
/-- forgetting slots, pins -/
theorem Inv.weak {σ' : List (Option V)} (I : Inv X pins σ H s) (hl : σ'.length = σ.length) (w : ∀ (i : Nat) v, σ'[i]? = some (some v) → σ[i]? = some (some v)) : Inv X pins σ' H s :=
  ⟨I.ok, I.os, I.bare, I.base, let ⟨m, hn, hl'⟩ := I.loc; ⟨m, hn, fun i x v e1 e2 e3 => hl' i x v e1 (w i v e2) e3⟩, I.cell, I.free, I.freeC, I.pin, I.hok, hl.trans I.len⟩
theorem Inv.pins_of {pins' : List (Addr × Obj)} (I : Inv X pins σ H s) (h : ∀ p ∈ pins', s.heap.get? p.1 = some p.2 ∧ H p.1 = none ∧ p.1 ≠ X.env.locals ∧ p.1 ∉ X.fs ∧ ∀ v, p.2.data ≠ .cell v) : Inv X pins' σ H s :=
  ⟨I.ok, I.os, I.bare, I.base, I.loc, I.cell, I.free, I.freeC, fun p hp => (List.mem_append.mp hp).elim (fun z => I.pin p (List.mem_append_left _ z)) (h p), I.hok, I.len⟩

theorem nodup_ix {N : List Str} (hN : N.Nodup) {i j : Nat} {x : Str} (a : N[i]? = some x) (b : N[j]? = some x) : i = j := by
  obtain ⟨h1, e1⟩ := List.getElem?_eq_some_iff.mp a
  obtain ⟨h2, e2⟩ := List.getElem?_eq_some_iff.mp b
  exact (List.getElem_inj hN).mp (e1.trans e2.symm)

/-- a name is stored; what changed -/
theorem store_ok2 {M : Model} {A : Around} {E : Value → Shared → Prop} {i : Nat} {x : Str} {v : V} {u : Value} {Q : Unit → Shared → Prop} (I : Inv X pins σ H s) (hN : X.N.Nodup) (hi : X.N[i]? = some x) (hx : Loc X.env.scope x) (r : RelV v u)
    (h : ∀ s', Inv X pins (σ.set i (some v)) H s' → (∃ a, Heap.SameBut a s.heap s'.heap ∧ (a = X.env.locals ∨ X.env.cells.lookup x = some a)) → Q () s') (hf : X.fn x = true ∨ X.env.scope.names.lookup x = some .local := by first | exact .inl rfl | exact .inr rfl | assumption) : wpAny M A (storeName X.env x u) Q E s := by
  obtain ⟨m, hn, hl⟩ := id I.loc
  have hcls : (X.env.scope.kind == .class || (X.env.scope.kind == .module && X.env.locals != X.env.globals)) = false := by rw [I.ok.kind]; rfl
  have hiσ : i < σ.length := by rw [I.len]; exact (List.getElem?_eq_some_iff.mp hi).1
  have cne := I.cne
  have tracked : ∀ {a : Addr} {h' : Heap}, (∃ o, s.heap.get? a = some o ∧ H a = none) → Heap.SameBut a s.heap h' → HOk X.prog X.w H h' := fun {a h'} ha hs b ob e => by
    obtain ⟨_, _, hfree⟩ := ha
    refine (I.hok b ob e).stay (fun c w' hc q => (hs.2 c ?_).trans q) (fun _ q => q) fun _ _ q => q
    rintro rfl
    rcases hc with rfl | hc
    · rw [hfree] at e; cases e
    · rw [hfree] at hc; cases hc
  rcases hx with hk | hk
  · refine wpAny_storeName_local hk hn (fun h' hn' hs => ?_) hcls
    obtain ⟨oL, _, _, hoL, _⟩ := id hn
    refine h _ ⟨I.ok, I.os, I.bare, ⟨fun b o e n hb hx => ?_, fun b o e n hb hx => ?_, I.base.free, fun b o e hx => ?_, I.base.tups, I.base.frzs, I.base.tbls⟩, ⟨_, hn', fun j y v' e1 e2 e3 => ?_⟩, fun y c e => ?_, I.free, I.freeC, fun p hp => ?_, tracked ⟨oL, hoL, I.free⟩ hs, by simpa using I.len⟩ ⟨_, hs, .inl rfl⟩
    · exact (hs.2 b (Nat.ne_of_lt (Nat.lt_of_lt_of_le (Heap.lt_size e) I.ok.above))).trans (I.base.keep b o e n hb hx)
    · obtain ⟨sl, e1⟩ := I.base.slot b o e n hb hx
      exact ⟨sl, (hs.2 b (Nat.ne_of_lt (Nat.lt_of_lt_of_le (Heap.lt_size e) I.ok.above))).trans e1⟩
    · obtain ⟨o', e1⟩ := I.base.there b o e hx
      exact ⟨o', (hs.2 b (Nat.ne_of_lt (Nat.lt_of_lt_of_le (Heap.lt_size e) I.ok.above))).trans e1⟩
    · by_cases hj : j = i
      · subst hj
        rw [hi] at e1; cases e1
        rw [List.getElem?_set_self hiσ] at e2
        cases e2
        exact ⟨u, r, .inl ⟨hk, by simp⟩⟩
      · rw [List.getElem?_set_ne (Ne.symm hj)] at e2
        obtain ⟨u', r', q⟩ := hl j y v' e1 e2 e3
        refine ⟨u', r', ?_⟩
        rcases q with ⟨k, e⟩ | ⟨k, c, e, z⟩
        · refine .inl ⟨k, ?_⟩
          have : y ≠ x := fun e => hj (nodup_ix hN e1 (e ▸ hi))
          simp [this, e]
        · exact .inr ⟨k, c, e, z.sameBut hs (cne y c e)⟩
    · obtain ⟨w', z⟩ := I.cell y c e
      exact ⟨w', z.sameBut hs (cne y c e)⟩
    · obtain ⟨e, n, ne, nf, d⟩ := I.pin p hp
      exact ⟨(hs.2 p.1 ne).trans e, n, ne, nf, d⟩
  · have hfn : X.fn x = true := by
      rcases hf with z | z
      · exact z
      · rw [z] at hk; cases hk
    obtain ⟨c, hc⟩ := I.ok.has x (.inl hk)
    obtain ⟨w', z⟩ := I.cell x c hc
    refine wpAny_storeName_cell I.ok.kind hk hc z (fun h' hc' hs => ?_)
    obtain ⟨oc, hoc, hocd⟩ := id z
    refine h { s with heap := h' } ⟨I.ok, I.os, I.bare, ⟨fun b o e n hb hx => ?_, fun b o e n hb hx => ?_, I.base.free, fun b o e hx => ?_, I.base.tups, I.base.frzs, I.base.tbls⟩, ⟨m, hn.sameBut hs (Ne.symm (cne x c hc)), fun j y v' e1 e2 e3 => ?_⟩, fun y c' e => ?_, I.free, I.freeC, fun p hp => ?_, tracked ⟨oc, hoc, I.freeC x c hc⟩ hs, by simpa using I.len⟩ ⟨c, hs, .inr hc⟩
    · exact (hs.2 b (Nat.ne_of_lt (Nat.lt_of_lt_of_le (Heap.lt_size e) (I.ok.cab x c hfn hc)))).trans (I.base.keep b o e n hb hx)
    · obtain ⟨sl, e1⟩ := I.base.slot b o e n hb hx
      exact ⟨sl, (hs.2 b (Nat.ne_of_lt (Nat.lt_of_lt_of_le (Heap.lt_size e) (I.ok.cab x c hfn hc)))).trans e1⟩
    · obtain ⟨o', e1⟩ := I.base.there b o e hx
      exact ⟨o', (hs.2 b (Nat.ne_of_lt (Nat.lt_of_lt_of_le (Heap.lt_size e) (I.ok.cab x c hfn hc)))).trans e1⟩
    · by_cases hj : j = i
      · subst hj
        rw [hi] at e1; cases e1
        rw [List.getElem?_set_self hiσ] at e2
        cases e2
        exact ⟨u, r, .inr ⟨.inl hk, c, hc, hc'⟩⟩
      · rw [List.getElem?_set_ne (Ne.symm hj)] at e2
        obtain ⟨u', r', q⟩ := hl j y v' e1 e2 e3
        refine ⟨u', r', ?_⟩
        rcases q with q | ⟨k, c', e, z'⟩
        · exact .inl q
        · refine .inr ⟨k, c', e, z'.sameBut hs ?_⟩
          rintro rfl
          exact hj (nodup_ix hN e1 (I.ok.inj _ _ _ e hc ▸ hi))
    · by_cases hcc : c' = c
      · subst hcc; exact ⟨_, hc'⟩
      · obtain ⟨w2, z2⟩ := I.cell y c' e
        exact ⟨w2, z2.sameBut hs hcc⟩
    · obtain ⟨e, n, ne, nf, d⟩ := I.pin p hp
      refine ⟨(hs.2 p.1 ?_).trans e, n, ne, nf, d⟩
      intro q
      rw [q, hoc] at e
      have q' : oc = p.2 := Option.some.inj e
      exact d w' (by rw [← q']; exact hocd)
theorem store_ok {M : Model} {A : Around} {E : Value → Shared → Prop} {i : Nat} {x : Str} {v : V} {u : Value} {Q : Unit → Shared → Prop} (I : Inv X pins σ H s) (hN : X.N.Nodup) (hi : X.N[i]? = some x) (hx : Loc X.env.scope x) (r : RelV v u)
    (h : ∀ s', Inv X pins (σ.set i (some v)) H s' → Q () s') (hf : X.fn x = true ∨ X.env.scope.names.lookup x = some .local := by first | exact .inl rfl | exact .inr rfl | assumption) : wpAny M A (storeName X.env x u) Q E s :=
  store_ok2 I hN hi hx r (fun s' I' _ => h s' I') hf
/-- behind a call or a block, the state as it is -/
theorem Inv.call' {s' : Shared} {ch : List Addr} (I : Inv X pins σ H s) (ho : s'.os = s.os) (u : Un (frs X.stack) ch H H' s.heap s'.heap) (hok : HOk X.prog X.w H' s'.heap) (hg : AllBare s'.gens)
    (hch : ∀ b ∈ ch, (b ∈ X.ex ∨ X.s₀.heap.objs.size ≤ b) ∧ b ≠ X.env.locals ∧ (∀ x c, X.env.cells.lookup x = some c → c ≠ b) ∧ ∀ p ∈ X.pn ++ pins, p.1 ≠ b) : Inv X pins σ H' s' := by
  obtain ⟨h', g', d', t', o'⟩ := s'
  have e : o' = s.os := ho
  subst e
  exact I.call (g' := g') (t' := t') (d' := d') u hok hg hch
end

/-! ### the judgements -/
/-- an exception: its class, its own dict's address (where it has one), the abstract heap behind it -/
abbrev XK := Value → Option Addr → Hp → Prop
abbrev St := List (Option V)
abbrev VK := V → Hp → Prop
/-- an expression's reading; a test's; an argument list's -/
abbrev TE := St → Hp → VK → Prop
abbrev TT := St → Hp → (Bool → Hp → Prop) → Prop
abbrev TA := St → Hp → (List V → Hp → Prop) → Prop
/-- what is wanted behind a statement -/
structure Ends where
  nx : St → Hp → Prop
  rt : VK
  bk : St → Hp → Prop := fun _ _ => False
  ct : St → Hp → Prop := fun _ _ => False
abbrev TS := Ends → St → Hp → Prop

def EP (X : Cx) (pins : List (Addr × Obj)) (σ : St) (Q : VK) (u : Value) (s' : Shared) : Prop := ∃ v H', Inv X pins σ H' s' ∧ RelV v u ∧ Q v H'
def TP (X : Cx) (pins : List (Addr × Obj)) (σ : St) (Q : Bool → Hp → Prop) (b : Bool) (s' : Shared) : Prop := ∃ H', Inv X pins σ H' s' ∧ Q b H'
def AP (X : Cx) (pins : List (Addr × Obj)) (σ : St) (Q : List V → Hp → Prop) (us : List Value) (s' : Shared) : Prop := ∃ vs H', Inv X pins σ H' s' ∧ Vals vs us ∧ Q vs H'
def SP (X : Cx) (pins : List (Addr × Obj)) (D : Ends) (f : Flow) (s' : Shared) : Prop :=
  match f with
  | .next => ∃ σ' H', Inv X pins σ' H' s' ∧ D.nx σ' H'
  | .brk => ∃ σ' H', Inv X pins σ' H' s' ∧ D.bk σ' H'
  | .cont => ∃ σ' H', Inv X pins σ' H' s' ∧ D.ct σ' H'
  | .ret u => ∃ v σ' H', Inv X pins σ' H' s' ∧ RelV v u ∧ D.rt v H'

def PE (X : Cx) (e : Expr) (t : TE) : Prop :=
  ∀ (pins : List (Addr × Obj)) (s : Shared) (σ : St) (H : Hp) (Q : VK), Inv X pins σ H s → t σ H Q → wpAny (model X.prog X.w) X.A (eval e X.env) (EP X pins σ Q) X.xe s
def PT (X : Cx) (e : Expr) (t : TT) : Prop :=
  ∀ (pins : List (Addr × Obj)) (s : Shared) (σ : St) (H : Hp) (Q : Bool → Hp → Prop), Inv X pins σ H s → t σ H Q → wpAny (model X.prog X.w) X.A (isTrue e X.env (eval e X.env)) (TP X pins σ Q) X.xe s
/-- a test whatever its 'whole' is (and, or) -/
def PW (X : Cx) (e : Expr) (t : TT) : Prop :=
  ∀ (whole : Sem Value) (pins : List (Addr × Obj)) (s : Shared) (σ : St) (H : Hp) (Q : Bool → Hp → Prop), Inv X pins σ H s → t σ H Q → wpAny (model X.prog X.w) X.A (isTrue e X.env whole) (TP X pins σ Q) X.xe s
theorem PW.pt {X : Cx} {e : Expr} {t : TT} (h : PW X e t) : PT X e t := h _
/-- an argument list (no star), from the left -/
def PA (X : Cx) (es : List Expr) (t : TA) : Prop :=
  ∀ (pos : Pos) (pins : List (Addr × Obj)) (s : Shared) (σ : St) (H : Hp) (Q : List V → Hp → Prop), Inv X pins σ H s → t σ H Q → wpAny (model X.prog X.w) X.A (spliced (backTo pos (starEach es X.env))) (AP X pins σ Q) X.xe s
def PS (X : Cx) (st : Stmt) (t : TS) : Prop :=
  ∀ (pins : List (Addr × Obj)) (s : Shared) (σ : St) (H : Hp) (D : Ends), Inv X pins σ H s → t D σ H → wpAny (model X.prog X.w) X.A (exec st X.env) (SP X pins D) X.xe s
def PSs (X : Cx) (st : List Stmt) (t : TS) : Prop :=
  ∀ (pins : List (Addr × Obj)) (s : Shared) (σ : St) (H : Hp) (D : Ends), Inv X pins σ H s → t D σ H → wpAny (model X.prog X.w) X.A (execs st X.env) (SP X pins D) X.xe s
/-- weaken the end -/
theorem thn {α : Type} {t : Sem α} {Q Q' : α → Shared → Prop} {M : Model} {A : Around} {E : Value → Shared → Prop} {s : Shared} (h : wpAny M A t Q E s) (hQ : ∀ a s, Q a s → Q' a s) : wpAny M A t Q' E s := wpAny_mono h hQ fun _ _ x => x
end L2

namespace L2
open PySem PySem.Spec PyProof.Rows
section
variable {X : Cx}

/-! ### names and constants -/
def tVar (i : Nat) : TE := fun σ H Q => ∃ v, σ[i]? = some (some v) ∧ Q v H
def tC (v : V) : TE := fun _ H Q => Q v H
theorem pe_var {i : Nat} {x : Str} {pos : Pos} (hN : X.N[i]? = some x) (hv : Vis X.env.scope x) (hd : (x == ("__debug__" : Str)) = false := by decide) (hcd : (x == ("__classdict__" : Str)) = false := by decide) : PE X (.Name x pos) (tVar i) := by
  intro pins s σ H Q I h
  obtain ⟨v, e, h⟩ := h
  obtain ⟨m, hn, hl⟩ := I.loc
  obtain ⟨u, r, l⟩ := hl i x v hN e hv
  have fin : EP X pins σ Q u s := ⟨v, H, I, r, h⟩
  rcases l with ⟨hk, hm⟩ | ⟨hk, c, hc, hcell⟩
  · exact wpAny_Name (wpAny_loadName_local I.ok.kind hk hn hm fin) hd
  · rcases hk with hk | hk
    · exact wpAny_Name (wpAny_loadName_cell I.ok.kind hk hc hcell fin) hd
    · exact wpAny_Name (wpAny_loadName_free I.ok.kind hk hc hcell fin hcd) hd
theorem pe_int {i j pos} : PE X (.Constant (.int i) j pos) (tC (.int i)) := fun _ _ _ H _ I h => wpAny_Constant_int ⟨.int i, H, I.tok _, ⟨_, rfl⟩, h⟩
theorem pe_bl {b j pos} : PE X (.Constant (.bool b) j pos) (tC (.bl b)) := fun _ _ _ H _ I h => Constant_bool ⟨.bl b, H, I, rfl, h⟩
theorem pe_str {x j pos} : PE X (.Constant (.str x) j pos) (tC (.str x)) := fun _ _ _ H _ I h => Calls.Constant_str ⟨.str x, H, I.tok _, ⟨_, rfl⟩, h⟩

/-- a global name of the def -/
def Gl (X : Cx) (x : Str) : Prop := X.env.kindOf x = some .globalImplicit
theorem ld_glob {E : Value → Shared → Prop} {pins : List (Addr × Obj)} {s : Shared} {σ : St} {H : Hp} {x : Str} {u : Value} {pos : Pos} {Q : Value → Shared → Prop} (I : Inv X pins σ H s) (hg : Gl X x) (hm : X.mg x = some u) (h : Q u s)
    (hd : (x == ("__debug__" : Str)) = false := by decide) : wpAny (model X.prog X.w) X.A (eval (.Name x pos) X.env) Q E s :=
  Calls.Name_function_global I.ok.kind hg (Calls.loadGlobal_global (by rw [I.ok.glob]; exact I.mod.glob.keeps I.bk) hm h) hd
theorem ld_blt {E : Value → Shared → Prop} {pins : List (Addr × Obj)} {s : Shared} {σ : St} {H : Hp} {x : Str} {u : Value} {pos : Pos} {Q : Value → Shared → Prop} (I : Inv X pins σ H s) (hg : Gl X x) (hm : X.mg x = none) (hv : bootBuiltins x = some u) (h : Q u s)
    (hn : x ≠ "__name__" := by decide) (hd : (x == ("__debug__" : Str)) = false := by decide) : wpAny (model X.prog X.w) X.A (eval (.Name x pos) X.env) Q E s := by
  obtain ⟨mb, h1, h2⟩ := I.mod.blt
  exact Calls.Name_function_global I.ok.kind hg (Calls.loadGlobal_builtin (by rw [I.ok.glob]; exact I.mod.glob.keeps I.bk) hm (by rw [I.ok.blt]; exact h1.keeps I.bk) ((h2 x hn).trans hv) h) hd
theorem pe_bltn {x : Str} {v : V} {u : Value} {pos : Pos} (hg : Gl X x) (hm : X.mg x = none) (hv : bootBuiltins x = some u) (r : RelV v u) (hn : x ≠ "__name__" := by decide) (hd : (x == ("__debug__" : Str)) = false := by decide) : PE X (.Name x pos) (tC v) :=
  fun _ _ _ H _ I h => ld_blt I hg hm hv ⟨v, H, I, r, h⟩ hn hd

/-! ### arithmetic -/
variable {a b : Expr} {ta tb : TE} {pos : Pos}
/-! ### comparisons -/
/-- a comparison as a value, as a test -/
def tB (t : TE) : TT := fun σ H Q => t σ H fun x H1 => ∃ c, x = .bl c ∧ Q c H1
/-- an expression whose value is a bool, as a test -/
theorem pt_val {e : Expr} {t : TE} (h : PE X e t) (he : ∀ whole, isTrue e X.env whole = (do let v ← whole; standAt e.pos; holding [v] (truthy v)) := by intro _; rfl) : PT X e (tB t) := by
  intro pins s σ H Q I hw
  refine isTrue_plain (thn (h pins s σ H _ I hw) fun v s1 ⟨x, H1, I1, r1, q1⟩ => ?_) (he _)
  obtain ⟨d, rfl, q⟩ := q1
  cases r1
  exact wpAny_truthy_bool ⟨H1, I1, q⟩

/-! ### and, or, not -/
variable {tA tB' : TT} {rest : List Expr}
def tAnd (t u : TT) : TT := fun σ H Q => t σ H fun c H1 => if c = true then u σ H1 Q else Q false H1
def tOr (t u : TT) : TT := fun σ H Q => t σ H fun c H1 => if c = true then Q true H1 else u σ H1 Q
def tNot (t : TT) : TT := fun σ H Q => t σ H fun c H1 => Q (!c) H1
theorem pw_and1 (ha : PT X a tA) : PW X (.BoolOp .And [a] pos) tA := by
  intro wh pins s σ H Q I h
  refine isTrue_and (thn (ha pins s σ H Q I h) fun c s1 e => ?_)
  cases c with
  | true => exact isTrue_and_nil e
  | false => exact e
theorem pw_or1 (ha : PT X a tA) : PW X (.BoolOp .Or [a] pos) tA := by
  intro wh pins s σ H Q I h
  refine isTrue_or (thn (ha pins s σ H Q I h) fun c s1 e => ?_)
  cases c with
  | false => exact isTrue_or_nil e
  | true => exact e
theorem pw_and (ha : PT X a tA) (hb : PW X (.BoolOp .And (b :: rest) pos) tB') : PW X (.BoolOp .And (a :: b :: rest) pos) (tAnd tA tB') := by
  intro wh pins s σ H Q I h
  refine isTrue_and (thn (ha pins s σ H _ I h) fun c s1 ⟨H1, I1, q1⟩ => ?_)
  cases c with
  | true => exact hb wh pins s1 σ H1 Q I1 q1
  | false => exact ⟨H1, I1, q1⟩
theorem pw_or (ha : PT X a tA) (hb : PW X (.BoolOp .Or (b :: rest) pos) tB') : PW X (.BoolOp .Or (a :: b :: rest) pos) (tOr tA tB') := by
  intro wh pins s σ H Q I h
  refine isTrue_or (thn (ha pins s σ H _ I h) fun c s1 ⟨H1, I1, q1⟩ => ?_)
  cases c with
  | true => exact ⟨H1, I1, q1⟩
  | false => exact hb wh pins s1 σ H1 Q I1 q1
theorem pt_not (ha : PT X a tA) : PT X (.UnaryOp .Not a pos) (tNot tA) := by
  intro pins s σ H Q I h
  exact isTrue_not (ha pins s σ H (fun c H1 => Q (!c) H1) I h)
/-- .. as values (bools) -/
def tAndV (ta tb : TE) : TE := fun σ H Q => ta σ H fun x H1 => ∃ c, x = .bl c ∧ if c = true then tb σ H1 Q else Q (.bl false) H1
theorem pe_one {op} {t : TE} (h : PE X a t) : PE X (.BoolOp op [a] pos) t := fun pins s σ H Q I hw => BoolOp_one (h pins s σ H Q I hw)
theorem pe_and (ha : PE X a ta) (hb : PE X (.BoolOp .And (b :: rest) pos) tb) : PE X (.BoolOp .And (a :: b :: rest) pos) (tAndV ta tb) := by
  intro pins s σ H Q I h
  refine BoolOp_and (thn (ha pins s σ H _ I h) fun v s1 ⟨x, H1, I1, r1, q1⟩ => ?_)
  obtain ⟨c, rfl, q1⟩ := q1
  cases r1
  refine wpAny_truthy_bool ?_
  cases c with
  | true => exact hb pins s1 σ H1 Q I1 q1
  | false => exact ⟨.bl false, H1, I1, rfl, q1⟩
end
end L2

namespace L2
open PySem PySem.Spec PyProof.Rows

/-! ### a list, a tuple that is read: tracked, frozen, or an object of the module -/
def SqL (K : PySem.W.Frag) (H : Hp) (a : Addr) (xs : List V) : Prop :=
  Rd H a (.lst xs) ∨
    ∃ (o : Obj) (its : Array Value) (n : Nat), K.lookup a = some o ∧ o.cls = .type "list" ∧ o.dict = none ∧ o.data = .seq its n ∧ its.size ≤ sizeLine ∧ Vals xs its.toList
def SqT (K : PySem.W.Frag) (H : Hp) (a : Addr) (xs : List V) : Prop :=
  Rd H a (.tup xs) ∨
    ∃ (o : Obj) (its : Array Value) (n : Nat), K.lookup a = some o ∧ o.cls = .type "tuple" ∧ o.data = .seq its n ∧ its.size ≤ sizeLine ∧ Vals xs its.toList
def absV : Value → Option V
  | .none => some .non
  | .bool b => some (.bl b)
  | .int i _ => some (.int i)
  | .str x _ => some (.str x)
  | .bytes b _ => some (.byt b)
  | .float b _ => some (.flt b)
  | .ref a => some (.ref a)
  | .type n => some (.ty n)
  | _ => none
theorem RelV.abs {x : V} {u : Value} (r : RelV x u) : absV u = some x := by
  cases x with
  | non => cases r; rfl
  | bl _ => cases r; rfl
  | int _ => obtain ⟨t, rfl⟩ := r; rfl
  | str _ => obtain ⟨t, rfl⟩ := r; rfl
  | byt _ => obtain ⟨t, rfl⟩ := r; rfl
  | flt _ => obtain ⟨t, rfl⟩ := r; rfl
  | ref _ => cases r; rfl
  | ty _ => cases r; rfl
theorem RelV.inj {x y : V} {u : Value} (r : RelV x u) (q : RelV y u) : x = y := Option.some.inj (r.abs.symm.trans q.abs)
theorem Vals.inj : ∀ {xs ys : List V} {us : List Value}, Vals xs us → Vals ys us → xs = ys
  | _, _, _, .nil, .nil => rfl
  | _, _, _, .cons r t, .cons r' t' => by rw [r.inj r', Vals.inj t t']
section
variable {X : Cx} {pins : List (Addr × Obj)} {σ : St} {H : Hp} {s : Shared} {a : Addr} {xs ys : List V}
theorem SqL.of {K : PySem.W.Frag} (h : H a = some (.lst xs)) : SqL K H a xs := .inl (.inl h)
theorem SqT.of {K : PySem.W.Frag} (h : H a = some (.tup xs)) : SqT K H a xs := .inl (.inl h)
theorem Inv.list (I : Inv X pins σ H s) (h : SqL X.K H a xs) : ∃ its : List Value, Vals xs its ∧ PlainL s.heap a its.toArray ∧ xs.length ≤ sizeLine := by
  rcases h with h | ⟨o, its, n, hk, hc, hd, hs, hz, r⟩
  · obtain ⟨z, its, n, r, e⟩ := h.ok I.hok
    exact ⟨its, r, ⟨_, n, e, rfl, rfl, rfl⟩, z⟩
  · refine ⟨its.toList, r, ⟨o, n, I.kIn a o hk, hc, hd, by simpa using hs⟩, ?_⟩
    have e := r.length
    simp only [Array.length_toList] at e
    omega
theorem Inv.tuple (I : Inv X pins σ H s) (h : SqT X.K H a xs) : ∃ its : List Value, Vals xs its ∧ IsTup s.heap a its.toArray ∧ xs.length ≤ sizeLine := by
  rcases h with h | ⟨o, its, n, hk, hc, hs, hz, r⟩
  · obtain ⟨z, its, r, p⟩ := h.ok I.hok
    exact ⟨its, r, p, z⟩
  · refine ⟨its.toList, r, ⟨o, I.kIn a o hk, hc, n, by simpa using hs⟩, ?_⟩
    have e := r.length
    simp only [Array.length_toList] at e
    omega
theorem Inv.list_inj (I : Inv X pins σ H s) (h : SqL X.K H a xs) (h' : SqL X.K H a ys) : xs = ys := by
  obtain ⟨its, r, ⟨o, n, e, _, _, d⟩, _⟩ := I.list h
  obtain ⟨its', r', ⟨o', n', e', _, _, d'⟩, _⟩ := I.list h'
  rw [e] at e'; cases e'
  rw [d] at d'
  injection d' with d1 _
  have : its = its' := by simpa using congrArg Array.toList d1
  subst this
  exact r.inj r'
theorem Inv.tuple_inj (I : Inv X pins σ H s) (h : SqT X.K H a xs) (h' : SqT X.K H a ys) : xs = ys := by
  obtain ⟨its, r, ⟨o, e, _, n, d⟩, _⟩ := I.tuple h
  obtain ⟨its', r', ⟨o', e', _, n', d'⟩, _⟩ := I.tuple h'
  rw [e] at e'; cases e'
  rw [d] at d'
  injection d' with d1 _
  have : its = its' := by simpa using congrArg Array.toList d1
  subst this
  exact r.inj r'
end

/-! ### another wish about exceptions -/
abbrev Cx.wish (X : Cx) (E : Value → Shared → Prop) : Cx := { X with xe := E }
/-- no exception leaves -/
abbrev Cx.nox (X : Cx) : Cx := X.wish fun _ _ => False
theorem Cx.Ok.wish {X : Cx} (ok : X.Ok) (E : Value → Shared → Prop) : (X.wish E).Ok :=
  ⟨ok.mod, ok.kind, ok.glob, ok.blt, ok.above, ok.inj, ok.has, ok.cab, ok.hd, ok.frames, ok.stk, ok.exf, ok.bs, ok.bsz, ok.noex, ok.exfs, ok.funs, ok.frf⟩
theorem Cx.Ok.unwish {X : Cx} {E : Value → Shared → Prop} (ok : (X.wish E).Ok) : X.Ok :=
  ⟨ok.mod, ok.kind, ok.glob, ok.blt, ok.above, ok.inj, ok.has, ok.cab, ok.hd, ok.frames, ok.stk, ok.exf, ok.bs, ok.bsz, ok.noex, ok.exfs, ok.funs, ok.frf⟩
section
variable {X : Cx} {pins : List (Addr × Obj)} {σ : St} {H : Hp} {s : Shared} {E : Value → Shared → Prop}
theorem Inv.wish (I : Inv X pins σ H s) (E : Value → Shared → Prop) : Inv (X.wish E) pins σ H s := ⟨I.ok.wish E, I.os, I.bare, I.base, I.loc, I.cell, I.free, I.freeC, I.pin, I.hok, I.len⟩
theorem Inv.unwish (I : Inv (X.wish E) pins σ H s) : Inv X pins σ H s := ⟨I.ok.unwish, I.os, I.bare, I.base, I.loc, I.cell, I.free, I.freeC, I.pin, I.hok, I.len⟩
theorem SP.unwish {D : Ends} {f : Flow} {s' : Shared} (h : SP (X.wish E) pins D f s') : SP X pins D f s' := by
  cases f with
  | next => obtain ⟨σ', H', I, q⟩ := h; exact ⟨σ', H', I.unwish, q⟩
  | brk => obtain ⟨σ', H', I, q⟩ := h; exact ⟨σ', H', I.unwish, q⟩
  | cont => obtain ⟨σ', H', I, q⟩ := h; exact ⟨σ', H', I.unwish, q⟩
  | ret u => obtain ⟨v, σ', H', I, r, q⟩ := h; exact ⟨v, σ', H', I.unwish, r, q⟩
theorem PE.nox {e : Expr} {t : TE} (h : PE X.nox e t) : PE X e t := fun pins s σ H Q I hw =>
  wpAny_mono (h pins s σ H Q (I.wish _) hw) (fun _ _ ⟨v, H', I', r, q⟩ => ⟨v, H', I'.unwish, r, q⟩) fun _ _ z => False.elim z
theorem PT.nox {e : Expr} {t : TT} (h : PT X.nox e t) : PT X e t := fun pins s σ H Q I hw =>
  wpAny_mono (h pins s σ H Q (I.wish _) hw) (fun _ _ ⟨H', I', q⟩ => ⟨H', I'.unwish, q⟩) fun _ _ z => False.elim z
theorem PSs.nox {st : List Stmt} {t : TS} (h : PSs X.nox st t) : PSs X st t := fun pins s σ H D I hw =>
  wpAny_mono (h pins s σ H D (I.wish _) hw) (fun _ _ q => q.unwish) fun _ _ z => False.elim z
end

/-! ### blocks and small statements -/
section
variable {X : Cx} {st : Stmt} {rest : List Stmt} {t u : TS} {e : Expr} {te : TE} {pos : Pos}
def tNext : TS := fun D σ H => D.nx σ H
def tSeq (t u : TS) : TS := fun D σ H => t { D with nx := u D } σ H
theorem pss_nil : PSs X [] tNext := fun _ _ σ H _ I h => wpAny_execs_nil ⟨σ, H, I, h⟩
theorem pss_cons (h1 : PS X st t) (h2 : PSs X rest u) : PSs X (st :: rest) (tSeq t u) := by
  intro pins s σ H D I h
  refine wpAny_execs_cons (thn (h1 pins s σ H { D with nx := u D } I h) fun f s1 q => ?_)
  cases f with
  | next =>
    obtain ⟨σ', H', I', q⟩ := q
    exact h2 pins s1 σ' H' D I' q
  | ret v => exact q
  | brk => exact q
  | cont => exact q
theorem pss_one (h1 : PS X st t) : PSs X [st] t := by
  intro pins s σ H D I h
  refine wpAny_execs_cons (thn (h1 pins s σ H D I h) fun f s1 q => ?_)
  cases f with
  | next => exact wpAny_execs_nil q
  | ret v => exact q
  | brk => exact q
  | cont => exact q
/-- in a def's body nothing is shown -/
theorem Inv.quiet {pins : List (Addr × Obj)} {σ : St} {H : Hp} {s : Shared} (I : Inv X pins σ H s) : interactive X.env = false := by simp [interactive, I.ok.kind]
/-- an expression whose value is dropped -/
def tDrop (te : TE) : TS := fun D σ H => te σ H fun _ H1 => D.nx σ H1
theorem ps_expr (he : PE X e te) (hs : swapsWith e none pos.line X.env = pure false := by rfl) : PS X (.Expr e pos) (tDrop te) := by
  intro pins s σ H D I h
  exact wpAny_Expr_any (thn (he pins s σ H _ I h) fun v s1 ⟨x, H1, I1, r1, q1⟩ => ⟨σ, H1, I1, q1⟩) I.quiet hs
def tRet (te : TE) : TS := fun D σ H => te σ H D.rt
theorem ps_ret (he : PE X e te) : PS X (.Return (some e) pos) (tRet te) := by
  intro pins s σ H D I h
  exact wpAny_Return_some (thn (he pins s σ H _ I h) fun v s1 ⟨x, H1, I1, r1, q1⟩ => ⟨x, σ, H1, I1, r1, q1⟩)
def tIfS (c : TT) (t u : TS) : TS := fun D σ H => c σ H fun b H1 => if b = true then t D σ H1 else u D σ H1
theorem ps_if {c : Expr} {a b : List Stmt} {tc : TT} (hc : PT X c tc) (ha : PSs X a t) (hb : PSs X b u) : PS X (.If c a b pos) (tIfS tc t u) := by
  intro pins s σ H D I h
  refine wpAny_If (thn (hc pins s σ H _ I h) fun d s1 ⟨H1, I1, q1⟩ => ?_)
  cases d with
  | true => exact ha pins s1 σ H1 D I1 q1
  | false => exact hb pins s1 σ H1 D I1 q1
end

/-! ### targets -/
abbrev TG := V → St → Hp → (St → Hp → Prop) → Prop
abbrev TGs := List V → St → Hp → (St → Hp → Prop) → Prop
def PG (X : Cx) (target : Expr) (t : TG) : Prop :=
  ∀ (pins : List (Addr × Obj)) (s : Shared) (σ : St) (H : Hp) (v : V) (u : Value) (Q : St → Hp → Prop), Inv X pins σ H s → RelV v u → t v σ H Q →
    wpAny (model X.prog X.w) X.A (assign target X.env u) (fun _ s' => ∃ σ' H', Inv X pins σ' H' s' ∧ Q σ' H') X.xe s
/-- several targets, one after another -/
def PGs (X : Cx) (ts : List Expr) (t : TGs) : Prop :=
  ∀ (pins : List (Addr × Obj)) (s : Shared) (σ : St) (H : Hp) (vs : List V) (us : List Value) (Q : St → Hp → Prop), Inv X pins σ H s → Vals vs us → t vs σ H Q →
    wpAny (model X.prog X.w) X.A (assignInOrder ((assignEach ts X.env).map (·.2)) us) (fun _ s' => ∃ σ' H', Inv X pins σ' H' s' ∧ Q σ' H') X.xe s
section
variable {X : Cx} {pos : Pos}
def gName (i : Nat) : TG := fun v σ H Q => Q (σ.set i (some v)) H
theorem pg_name {i : Nat} {x : Str} (hN : X.N.Nodup) (hi : X.N[i]? = some x) (hx : Loc X.env.scope x) (hf : X.fn x = true ∨ X.env.scope.names.lookup x = some .local := by first | exact .inl rfl | exact .inr rfl | assumption) : PG X (.Name x pos) (gName i) := by
  intro pins s σ H v u Q I r h
  exact wpAny_assign_Name (store_ok I hN hi hx r (fun s' I' => ⟨_, H, I', h⟩) hf)
def gNil : TGs := fun vs σ H Q => vs = [] ∧ Q σ H
def gCons (t : TG) (u : TGs) : TGs := fun vs σ H Q => ∃ v r, vs = v :: r ∧ t v σ H fun σ' H' => u r σ' H' Q
theorem pgs_nil : PGs X [] gNil := by
  intro pins s σ H vs us Q I r h
  obtain ⟨e, h⟩ := h
  subst e
  cases r
  exact assignInOrder_nil ⟨σ, H, I, h⟩
theorem pgs_cons {e : Expr} {es : List Expr} {t : TG} {u : TGs} (h1 : PG X e t) (h2 : PGs X es u)
    (hs : (assignEach (e :: es) X.env).map (·.2) = assign e X.env :: (assignEach es X.env).map (·.2) := by rfl) : PGs X (e :: es) (gCons t u) := by
  intro pins s σ H vs us Q I r h
  obtain ⟨v, vr, e1, h⟩ := h
  subst e1
  cases r with
  | cons r rr =>
    rw [hs]
    refine assignInOrder_cons (thn (h1 pins s σ H _ _ _ I r h) fun _ s1 ⟨σ1, H1, I1, q1⟩ => ?_)
    exact h2 pins s1 σ1 H1 _ _ Q I1 rr q1
/-- (a, b, ..) = a tuple of that length -/
def gTup (K : PySem.W.Frag) (n : Nat) (t : TGs) : TG := fun v σ H Q => ∃ a xs, v = .ref a ∧ SqT K H a xs ∧ xs.length = n ∧ t xs σ H Q
theorem pg_tup {es : List Expr} {k : Nat} {t : TGs} {n : Nat} (hc : X.calm = true) (h : PGs X es t)
    (hn : (assignEach es X.env).length = n := by rfl) (hst : (assignEach es X.env).findIdx? (·.1) = none := by rfl) : PG X (.Tuple es k pos) (gTup X.K n t) := by
  intro pins s σ H v u Q I r hw
  obtain ⟨a, xs, e1, hq, hl, hw⟩ := hw
  subst e1
  cases r
  obtain ⟨its, rv, ht, hz⟩ := I.tuple hq
  refine assign_Tuple_tuple (I.ok.hd hc) ht (by simp [hn, ← hl, rv.length]) hst fun h' hx => ?_
  have I1 : Inv X pins σ H { s with heap := h' } := I.kept (t' := s.toks) fun b o e => hx b o (Nat.ne_of_lt (Heap.lt_size e)) e
  exact h pins _ σ H xs _ Q I1 (by simpa using rv) hw
/-- target = value -/
def tAsg (te : TE) (g : TG) : TS := fun D σ H => te σ H fun x H1 => g x σ H1 D.nx
theorem ps_asg {tg e : Expr} {te : TE} {g : TG} (he : PE X e te) (hg : PG X tg g) (hs : swapsWithSole [tg] e pos.line X.env = pure false := by rfl) (hw : swappedStores [tg] e X.env = pure none := by rfl)
    (h1 : (assignEach [tg] X.env).map (·.2) = [assign tg X.env] := by rfl) : PS X (.Assign [tg] e pos) (tAsg te g) := by
  intro pins s σ H D I h
  refine wpAny_Assign_stores (thn (he pins s σ H _ I h) fun v s1 ⟨x, H1, I1, r1, q1⟩ => ?_) hs hw
  rw [h1]
  exact thn (hg pins s1 σ H1 x v _ I1 r1 q1) fun _ s2 q => q
/-- name = value -/
theorem ps_set {i : Nat} {x : Str} {e : Expr} {te : TE} {pos' : Pos} (hN : X.N.Nodup) (hi : X.N[i]? = some x) (hx : Loc X.env.scope x) (he : PE X e te) (hs : swapsWith e (some (.Name x pos')) pos.line X.env = pure false := by rfl) (hf : X.fn x = true ∨ X.env.scope.names.lookup x = some .local := by first | exact .inl rfl | exact .inr rfl | assumption) :
    PS X (.Assign [.Name x pos'] e pos) (tAsg te (gName i)) := by
  intro pins s σ H D I h
  refine wpAny_Assign_Name (thn (he pins s σ H _ I h) fun v s1 ⟨y, H1, I1, r1, q1⟩ => ?_) hs
  exact store_ok I1 hN hi hx r1 (fun s2 I2 => ⟨_, H1, I2, q1⟩) hf
end

/-! ### while -/
section
variable {X : Cx} {pos : Pos}
end

/-! ### what a loop or a comprehension walks -/
/-- at turn i: it yields x (the heap may grow), or it stops -/
structure It where
  go : Nat → Hp → Prop
  yld : Nat → Hp → V → Hp → Prop
  stop : Nat → Hp → Prop
/-- the iterator's own objects may turn: they are not the frame's, not pinned, younger than the entry (or a comprehension's own) -/
def FpOk (X : Cx) (pins : List (Addr × Obj)) (H : Hp) (b : Addr) : Prop :=
  H b = none ∧ b ≠ X.env.locals ∧ b ∉ X.fs ∧ (b ∈ X.ex ∨ X.s₀.heap.objs.size ≤ b) ∧ (∀ x c, X.env.cells.lookup x = some c → c ≠ b) ∧ ∀ p ∈ X.pn ++ pins, p.1 ≠ b
theorem Inv.fpOk {X : Cx} {pins : List (Addr × Obj)} {σ : St} {H H' : Hp} {s : Shared} {b : Addr} (I : Inv X pins σ H s) (hb : s.heap.objs.size ≤ b) (hn : H' b = none) : FpOk X pins H' b := by
  refine ⟨hn, Nat.ne_of_gt (Nat.lt_of_lt_of_le I.lt hb), I.nofs hb, .inr (Nat.le_trans I.sz hb), fun x c e z => ?_, fun p hp z => ?_⟩
  · obtain ⟨v, q⟩ := I.cell x c e
    exact absurd (Nat.lt_of_lt_of_le q.lt (by rw [z]; exact hb)) (Nat.lt_irrefl _)
  · exact absurd (Nat.lt_of_lt_of_le (Heap.lt_size (I.pin p hp).1) (by rw [z]; exact hb)) (Nat.lt_irrefl _)
structure Turn (P : Program) (w : World) (K : PySem.W.Frag) (tg : Expr) (J : It) (fp : List Addr) (it : Addr) (tn : Nat → Heap → Prop) : Prop where
  mem : it ∈ fp
  obj : ∀ i h, tn i h → ∀ b ∈ fp, ∃ o, h.get? b = some o ∧ ∀ v, o.data ≠ .cell v
  keep : ∀ i h h', tn i h → (∀ b ∈ fp, ∀ o, h.get? b = some o → h'.get? b = some o) → tn i h'
  item : ∀ (X : Cx), X.prog = P → X.w = w → X.K = K → X.calm = true → ∀ (i : Nat) (pins : List (Addr × Obj)) (s : Shared) (σ : St) (H : Hp) (E : Value → Shared → Prop), Inv X pins σ H s → (∀ b ∈ fp, FpOk X pins H b) → tn i s.heap → J.go i H →
    wpAny (model P w) X.A (pyNext (.ref it)) (fun r s1 => ∃ u, r = some u ∧
      wpAny (model P w) X.A (letOwnedTupleGo tg (.ref it) u) (fun _ s2 => ∃ x H', Inv X pins σ H' s2 ∧ RelV x u ∧ J.yld i H x H' ∧ tn (i + 1) s2.heap ∧ ∀ b ∈ fp, H' b = none) E s1) E s
  done : ∀ (X : Cx), X.prog = P → X.w = w → X.K = K → X.calm = true → ∀ (i : Nat) (pins : List (Addr × Obj)) (s : Shared) (σ : St) (H : Hp) (E : Value → Shared → Prop), Inv X pins σ H s → (∀ b ∈ fp, FpOk X pins H b) → tn i s.heap → J.stop i H →
    wpAny (model P w) X.A (pyNext (.ref it)) (fun r s1 => r = none ∧ Inv X pins σ H s1) E s
  self : ∀ (A : Around) (i : Nat) (s : Shared) (Q : Value → Shared → Prop) (E : Value → Shared → Prop), tn i s.heap → Q (.ref it) s → wpAny (model P w) A (pyIter (.ref it)) Q E s
abbrev TI := St → Hp → (It → Hp → Prop) → Prop
/-- an iterator has come -/
def PIE (X : Cx) (pins : List (Addr × Obj)) (σ : St) (tg : Expr) (R : It → Hp → Prop) (itv : Value) (s2 : Shared) : Prop :=
  ∃ (it : Addr) (fp : List Addr) (tn : Nat → Heap → Prop) (J : It) (H' : Hp), itv = .ref it ∧ Inv X pins σ H' s2 ∧ Turn X.prog X.w X.K tg J fp it tn ∧ tn 0 s2.heap ∧ (∀ b ∈ fp, FpOk X pins H' b) ∧ R J H'
def PI (X : Cx) (tg iter : Expr) (wi : TI) : Prop :=
  ∀ (pins : List (Addr × Obj)) (s : Shared) (σ : St) (H : Hp) (R : It → Hp → Prop), Inv X pins σ H s → wi σ H R →
    wpAny (model X.prog X.w) X.A (eval iter X.env) (fun v s1 => wpAny (model X.prog X.w) X.A (pyIter v) (PIE X pins σ tg R) X.xe s1) X.xe s

/-- the step ahead of the store is nothing for an iterator that keeps no tuple -/
theorem go_of {M : Model} {A : Around} {E : Value → Shared → Prop} {s : Shared} {tg : Expr} {it : Addr} {u : Value} {o : Obj} {n : String} {vs : Array Value} {Q : Unit → Shared → Prop} (ho : s.heap.get? it = some o) (hc : o.cls = .type n) (hd : o.data = .fields vs)
    (hn : ["enumerate", "zip", "dict_itemiterator", "dict_reverseitemiterator", "odict_iterator", "itertools.zip_longest", "itertools.pairwise"].contains n = false) (hQ : Q () s) : wpAny M A (letOwnedTupleGo tg (.ref it) u) Q E s := by
  unfold letOwnedTupleGo
  cases tg <;> first
    | exact wpAny_pure hQ
    | (cases u <;> first
        | exact wpAny_pure hQ
        | (refine wpAny_bind (wpAny_load ho ?_)
           rw [hc, hd]
           show wpAny M A (if (["enumerate", "zip", "dict_itemiterator", "dict_reverseitemiterator", "odict_iterator", "itertools.zip_longest", "itertools.pairwise"].contains n && vs[0]? == some (rawInt _)) = true then _ else _) Q E s
           rw [if_neg (by intro h; rw [hn, Bool.false_and] at h; cases h)]
           exact wpAny_pure hQ))

/-- the list at a, as it stands at each turn (a loop may append to it) -/
def Itl (K : PySem.W.Frag) (a : Addr) : It :=
  ⟨fun i H => ∃ xs x, SqL K H a xs ∧ xs[i]? = some x, fun i H x H' => H' = H ∧ ∀ xs, SqL K H a xs → xs[i]? = some x, fun i H => ∃ xs, SqL K H a xs ∧ xs.length ≤ i⟩
def Itt (K : PySem.W.Frag) (a : Addr) : It :=
  ⟨fun i H => ∃ xs x, SqT K H a xs ∧ xs[i]? = some x, fun i H x H' => H' = H ∧ ∀ xs, SqT K H a xs → xs[i]? = some x, fun i H => ∃ xs, SqT K H a xs ∧ xs.length ≤ i⟩
/-- lo, lo + 1, .. (n of them) -/
def Itr (lo : Int) (n : Nat) : It := ⟨fun i _ => i < n, fun i H x H' => H' = H ∧ x = .int (lo + i), fun i _ => n ≤ i⟩
theorem turn_list {P : Program} {w : World} {K : PySem.W.Frag} {tg : Expr} (a it : Addr) : Turn P w K tg (Itl K a) [it] it (fun i h => h.IsListIter it a i) where
  mem := by simp
  obj := fun i h st b hb => by
    have e : b = it := by simpa using hb
    subst e
    obtain ⟨o, e, c, d⟩ := st
    exact ⟨o, e, fun v z => by rw [d] at z; cases z⟩
  keep := fun i h h' st k => st.at fun o e => k it (by simp) o e
  item := by
    intro X hP hw hK hc i pins s σ H E I hf st hg
    subst hP hw hK
    obtain ⟨xs, x, hq, hx⟩ := hg
    obtain ⟨its, rv, p, hz⟩ := I.list hq
    obtain ⟨u, hu, ru⟩ := rv.get hx
    obtain ⟨f0, f1, f2, f3, f4, f5⟩ := hf it (by simp)
    refine wpAny_pyNext_list_item st p.isList (x := u) (by simpa using hu) fun h' st' sb => ?_
    have I1 : Inv X pins σ H { s with heap := h' } := I.turned (t' := s.toks) (fun b o hb e => (sb.2 b hb).trans e) f0 f1 f3 f4 f5
    obtain ⟨o, e, c, d⟩ := id st'
    exact ⟨u, rfl, go_of (s := { s with heap := h' }) e c d (by decide) ⟨x, H, I1, ru, ⟨rfl, fun ys hy => by rw [I.list_inj hy hq]; exact hx⟩, st', fun b hb => (hf b hb).1⟩⟩
  done := by
    intro X hP hw hK hc i pins s σ H E I hf st hg
    subst hP hw hK
    obtain ⟨xs, hq, hx⟩ := hg
    obtain ⟨its, rv, p, hz⟩ := I.list hq
    obtain ⟨f0, f1, f2, f3, f4, f5⟩ := hf it (by simp)
    have hl := rv.length
    exact wpAny_pyNext_list_end (I.ok.hd hc) st p.isList (by simp; omega) fun h' eb => ⟨rfl, I.turned (t' := s.toks) (fun b o hb e => eb b o hb e) f0 f1 f3 f4 f5⟩
  self := fun _ _ _ _ _ st h => wpAny_pyIter_listiter st h
theorem turn_tuple {P : Program} {w : World} {K : PySem.W.Frag} {tg : Expr} (a it : Addr) : Turn P w K tg (Itt K a) [it] it (fun i h => h.IsTupleIter it a i) where
  mem := by simp
  obj := fun i h st b hb => by
    have e : b = it := by simpa using hb
    subst e
    obtain ⟨o, e, c, d⟩ := st
    exact ⟨o, e, fun v z => by rw [d] at z; cases z⟩
  keep := fun i h h' st k => st.at fun o e => k it (by simp) o e
  item := by
    intro X hP hw hK hc i pins s σ H E I hf st hg
    subst hP hw hK
    obtain ⟨xs, x, hq, hx⟩ := hg
    obtain ⟨its, rv, p, hz⟩ := I.tuple hq
    obtain ⟨u, hu, ru⟩ := rv.get hx
    obtain ⟨f0, f1, f2, f3, f4, f5⟩ := hf it (by simp)
    refine wpAny_pyNext_tuple_item st (show s.heap.IsTuple a its.toArray from p) (x := u) (by simpa using hu) fun h' st' sb => ?_
    have I1 : Inv X pins σ H { s with heap := h' } := I.turned (t' := s.toks) (fun b o hb e => (sb.2 b hb).trans e) f0 f1 f3 f4 f5
    obtain ⟨o, e, c, d⟩ := id st'
    exact ⟨u, rfl, go_of (s := { s with heap := h' }) e c d (by decide) ⟨x, H, I1, ru, ⟨rfl, fun ys hy => by rw [I.tuple_inj hy hq]; exact hx⟩, st', fun b hb => (hf b hb).1⟩⟩
  done := by
    intro X hP hw hK hc i pins s σ H E I hf st hg
    subst hP hw hK
    obtain ⟨xs, hq, hx⟩ := hg
    obtain ⟨its, rv, p, hz⟩ := I.tuple hq
    obtain ⟨f0, f1, f2, f3, f4, f5⟩ := hf it (by simp)
    have hl := rv.length
    exact wpAny_pyNext_tuple_end (I.ok.hd hc) st (show s.heap.IsTuple a its.toArray from p) (by simp; omega) fun h' eb => ⟨rfl, I.turned (t' := s.toks) (fun b o hb e => eb b o hb e) f0 f1 f3 f4 f5⟩
  self := fun _ _ _ _ _ st h => wpAny_pyIter_tupleiter st h
theorem turn_range {P : Program} {w : World} {K : PySem.W.Frag} {tg : Expr} (it : Addr) (lo : Int) (n : Nat) : Turn P w K tg (Itr lo n) [it] it (fun i h => IsRangeIter h it (lo + (i : Nat) * 1) ((n : Int) - (i : Nat)) 1) where
  mem := by simp
  obj := fun i h st b hb => by
    have e : b = it := by simpa using hb
    subst e
    exact ⟨_, st, fun v z => by
      have z' : Data.fields _ = Data.cell v := z
      cases z'⟩
  keep := fun i h h' st k => k it (by simp) _ st
  item := by
    intro X hP hw hK hc i pins s σ H E I hf st hg
    subst hP hw hK
    obtain ⟨f0, f1, f2, f3, f4, f5⟩ := hf it (by simp)
    have W := Walks.range (prog := X.prog) (w := X.w) (I.ok.hd hc) it lo 1 n
    refine W.item i s _ _ hg st fun v h' tk hv st' kk => ?_
    obtain ⟨t, rfl⟩ := hv
    have I1 : Inv X pins σ H { s with heap := h', toks := tk } := I.turned (fun b o hb e => kk b o (by simpa using hb) e) f0 f1 f3 f4 f5
    refine ⟨_, rfl, go_of (s := { s with heap := h', toks := tk }) (n := "range_iterator") st' rfl rfl (by decide) ⟨.int (lo + i), H, I1, ⟨t, ?_⟩, ⟨rfl, rfl⟩, st', fun b hb => (hf b hb).1⟩⟩
    rw [Int.mul_one]
  done := by
    intro X hP hw hK hc i pins s σ H E I hf st hg
    subst hP hw hK
    obtain ⟨f0, f1, f2, f3, f4, f5⟩ := hf it (by simp)
    exact wpAny_pyNext_range_end (I.ok.hd hc) st (by have : n ≤ i := hg; omega) fun h' eb => ⟨rfl, I.turned (t' := s.toks) (fun b o hb e => eb b o hb e) f0 f1 f3 f4 f5⟩
  self := fun _ _ _ _ _ st h => wpAny_pyIter_rangeiter st h
end L2

namespace L2
open PySem PySem.Spec PyProof.Rows
section
variable {X : Cx} {tg : Expr}
def iList (K : PySem.W.Frag) (tl : TE) : TI := fun σ H R => tl σ H fun x H1 => ∃ a, x = .ref a ∧ (∃ xs, SqL K H1 a xs) ∧ R (Itl K a) H1
def iTup (K : PySem.W.Frag) (tl : TE) : TI := fun σ H R => tl σ H fun x H1 => ∃ a, x = .ref a ∧ (∃ xs, SqT K H1 a xs) ∧ R (Itt K a) H1
theorem pi_list {l : Expr} {tl : TE} (hl : PE X l tl) : PI X tg l (iList X.K tl) := by
  intro pins s σ H R I h
  refine thn (hl pins s σ H _ I h) fun v s1 ⟨x, H1, I1, r1, q1⟩ => ?_
  obtain ⟨a, e, ⟨xs, hq⟩, q⟩ := q1
  subst e
  cases r1
  obtain ⟨its, rv, p, hz⟩ := I1.list hq
  refine wpAny_pyIter_list p.isList ?_
  refine ⟨s1.heap.objs.size, [s1.heap.objs.size], _, _, H1, rfl, I1.kept (t' := s1.toks) fun b o e => Heap.get?_push_of_some _ e, turn_list a _, ⟨_, Heap.get?_push_size _ rfl, rfl, rfl⟩, fun b hb => ?_, q⟩
  have e : b = s1.heap.objs.size := by simpa using hb
  subst e
  exact I1.fpOk (Nat.le_refl _) (I1.hok.fresh (Nat.le_refl _))
theorem pi_tup {l : Expr} {tl : TE} (hl : PE X l tl) : PI X tg l (iTup X.K tl) := by
  intro pins s σ H R I h
  refine thn (hl pins s σ H _ I h) fun v s1 ⟨x, H1, I1, r1, q1⟩ => ?_
  obtain ⟨a, e, ⟨xs, hq⟩, q⟩ := q1
  subst e
  cases r1
  obtain ⟨its, rv, p, hz⟩ := I1.tuple hq
  refine wpAny_pyIter_tuple (show s1.heap.IsTuple a its.toArray from p) ?_
  refine ⟨s1.heap.objs.size, [s1.heap.objs.size], _, _, H1, rfl, I1.kept (t' := s1.toks) fun b o e => Heap.get?_push_of_some _ e, turn_tuple a _, ⟨_, Heap.get?_push_size _ rfl, rfl, rfl⟩, fun b hb => ?_, q⟩
  have e : b = s1.heap.objs.size := by simpa using hb
  subst e
  exact I1.fpOk (Nat.le_refl _) (I1.hok.fresh (Nat.le_refl _))
/-- a range object just made, walked -/
theorem range_it {pins : List (Addr × Obj)} {σ : St} {H : Hp} {s : Shared} {R : It → Hp → Prop} {E : Value → Shared → Prop} {lo hi : Int} {t u v : Tok} {tk : Nat} (I : Inv X pins σ H s) (h1 : -(2 ^ 62) ≤ lo) (h2 : lo < 2 ^ 62) (h3 : -(2 ^ 62) ≤ hi) (h4 : hi < 2 ^ 62)
    (q : R (Itr lo (hi - lo).toNat) H) : wpAny (model X.prog X.w) X.A (pyIter (.ref s.heap.objs.size)) (PIE X pins σ tg R) E { s with heap := s.heap.push { cls := .type "range", data := .fields #[.int lo t, .int hi u, .int 1 v] }, toks := tk } := by
  refine wpAny_pyIter_range (IsRange.new ..) (small_one h1 h2 h3 h4) ?_
  have I1 : Inv X pins σ H { s with heap := s.heap.push { cls := .type "range", data := .fields #[.int lo t, .int hi u, .int 1 v] }, toks := tk } := I.kept fun b o e => Heap.get?_push_of_some _ e
  refine ⟨(s.heap.push { cls := .type "range", data := .fields #[.int lo t, .int hi u, .int 1 v] }).objs.size, [(s.heap.push { cls := .type "range", data := .fields #[.int lo t, .int hi u, .int 1 v] }).objs.size], _, _, H, rfl,
    I1.kept (t' := tk) fun b o e => Heap.get?_push_of_some _ e, turn_range _ lo (hi - lo).toNat, ?_, fun b hb => ?_, q⟩
  · have e1 : lo + ((0 : Nat) : Int) * 1 = lo := by simp
    have e2 : (((hi - lo).toNat : Nat) : Int) - ((0 : Nat) : Int) = Builtin.Range.rangeSize lo hi 1 := by rw [rangeSize_one]; split <;> omega
    show IsRangeIter _ _ (lo + ((0 : Nat) : Int) * 1) ((((hi - lo).toNat : Nat) : Int) - ((0 : Nat) : Int)) 1
    rw [e1, e2]
    exact Heap.get?_push_size _ rfl
  · have e : b = (s.heap.push { cls := .type "range", data := .fields #[.int lo t, .int hi u, .int 1 v] }).objs.size := by simpa using hb
    subst e
    exact I1.fpOk (Nat.le_refl _) (I1.hok.fresh (Nat.le_refl _))
def iRng1 (ta : TA) : TI := fun σ H R => ta σ H fun vs H1 => ∃ j : Int, vs = [.int j] ∧ -(2 ^ 62) ≤ j ∧ j < 2 ^ 62 ∧ R (Itr 0 j.toNat) H1
def iRng2 (ta : TA) : TI := fun σ H R => ta σ H fun vs H1 => ∃ i j : Int, vs = [.int i, .int j] ∧ (-(2 ^ 62) ≤ i ∧ i < 2 ^ 62 ∧ -(2 ^ 62) ≤ j ∧ j < 2 ^ 62) ∧ R (Itr i (j - i).toNat) H1
theorem pi_range1 {a : Expr} {ta : TA} {p pos : Pos} (hg : Gl X "range") (hm : X.mg "range" = none) (ha : PA X [a] ta) (hs : starEach [a] X.env = [(false, eval a X.env)] := by rfl) : PI X tg (.Call (.Name "range" p) [a] [] pos) (iRng1 ta) := by
  intro pins s σ H R I h
  refine Call_ (ld_blt I hg hm boot_range (PyProof.Rows.callWith_type1 (thn (ha pos pins s σ H _ I h) fun us s1 ⟨vs, H1, I1, r1, q1⟩ => ?_) hs rfl))
  obtain ⟨j, e, q1, q2, q⟩ := q1
  subst e
  cases r1 with
  | cons r rr =>
    cases rr
    obtain ⟨t, rfl⟩ := r
    exact call_range_1 (range_it I1 (by omega) (by omega) q1 q2 (by simpa using q))
theorem pi_range2 {a b : Expr} {ta : TA} {p pos : Pos} (hg : Gl X "range") (hm : X.mg "range" = none) (ha : PA X [a, b] ta) (hs : starEach [a, b] X.env = [(false, eval a X.env), (false, eval b X.env)] := by rfl) (hs2 : starEach [b] X.env = [(false, eval b X.env)] := by rfl) :
    PI X tg (.Call (.Name "range" p) [a, b] [] pos) (iRng2 ta) := by
  intro pins s σ H R I h
  refine Call_ (ld_blt I hg hm boot_range (PyProof.Rows.callWith_type1 (thn (ha pos pins s σ H _ I h) fun us s1 ⟨vs, H1, I1, r1, q1⟩ => ?_) (by rw [hs, hs2]) (by rw [hs2]; rfl)))
  obtain ⟨i, j, e, ⟨q1, q2, q3, q4⟩, q⟩ := q1
  subst e
  cases r1 with
  | cons r rr =>
    cases rr with
    | cons r' rr =>
      cases rr
      obtain ⟨t, rfl⟩ := r
      obtain ⟨t', rfl⟩ := r'
      exact call_range_2 (range_it I1 q1 q2 q3 q4 q)

/-! ### for -/
/-- W: the invariant by the turn and a measure; N: what the body is to reach -/
def tFor (wi : TI) (g : TG) (tb : TS) : TS := fun D σ H => wi σ H fun J H1 => ∃ W : Nat → Nat → St → Hp → Prop, (∃ m, W 0 m σ H1) ∧ ∀ i m σ H, W i m σ H →
  (J.stop i H ∧ D.nx σ H) ∨ (J.go i H ∧ ∃ N : St → Hp → Prop, (∀ σ' H', N σ' H' → ∃ m', m' < m ∧ W (i + 1) m' σ' H') ∧ ∀ x H', J.yld i H x H' → g x σ H' fun σ2 H2 => tb { D with nx := N, ct := N, bk := D.nx } σ2 H2)
/-- the records at fp as they stand -/
def pinsAt (fp : List Addr) (h : Heap) : List (Addr × Obj) := fp.filterMap fun b => (h.get? b).map fun o => (b, o)
theorem mem_pinsAt {fp : List Addr} {h : Heap} {b : Addr} {o : Obj} (hb : b ∈ fp) (e : h.get? b = some o) : (b, o) ∈ pinsAt fp h := List.mem_filterMap.mpr ⟨b, hb, by rw [e]; rfl⟩
theorem of_pinsAt {fp : List Addr} {h : Heap} {p : Addr × Obj} (hp : p ∈ pinsAt fp h) : p.1 ∈ fp ∧ h.get? p.1 = some p.2 := by
  obtain ⟨b, hb, e⟩ := List.mem_filterMap.mp hp
  cases q : h.get? b with
  | none => rw [q] at e; cases e
  | some o =>
    rw [q] at e
    have e' : (b, o) = p := Option.some.inj e
    subst e'
    exact ⟨hb, q⟩
theorem Inv.pinned {pins : List (Addr × Obj)} {σ : St} {H : Hp} {s : Shared} {fp : List Addr} (I : Inv X pins σ H s) (hf : ∀ b ∈ fp, FpOk X pins H b) (ho : ∀ b ∈ fp, ∃ o, s.heap.get? b = some o ∧ ∀ v, o.data ≠ .cell v) : Inv X (pins ++ pinsAt fp s.heap) σ H s :=
  I.pins_of fun p hp => (List.mem_append.mp hp).elim (fun z => I.pin p (List.mem_append_right _ z)) fun z => by
    obtain ⟨hb, e⟩ := of_pinsAt z
    obtain ⟨f0, f1, f2, _⟩ := hf p.1 hb
    obtain ⟨o, e', d⟩ := ho p.1 hb
    rw [e] at e'; cases e'
    exact ⟨e, f0, f1, f2, d⟩
theorem Inv.unpinned {pins pl : List (Addr × Obj)} {σ : St} {H : Hp} {s : Shared} (I : Inv X (pins ++ pl) σ H s) : Inv X pins σ H s := I.pins_of fun p hp => I.pin p (List.mem_append_right _ (List.mem_append_left _ hp))
theorem ps_for {iter : Expr} {body : List Stmt} {wi : TI} {g : TG} {tb : TS} {pos : Pos} (hp : PassesOwn (model X.prog X.w) X.A X.env X.xe) (hc : X.calm = true) (hi : PI X tg iter wi) (hg : PG X tg g) (hb : PSs X body tb)
    (hs : ∀ x, foldedSetIterable iter X.env x = pure x := by intro _; rfl) : PS X (.For tg iter body [] pos) (tFor wi g tb) := by
  intro pins s σ H D I h
  refine wpAny_For (thn (hi pins s σ H _ I h) fun v s1 h1 => thn h1 fun itv s2 h2 => ?_) hs
  obtain ⟨it, fp, tn, J, H2, e, I2, T, st2, f2, W, ⟨m0, w0⟩, turn⟩ := h2
  subst e
  -- what stays true of the iterator's objects through the loop
  have stat : ∀ {H' : Hp}, (∀ b ∈ fp, H' b = none) → ∀ b ∈ fp, FpOk X pins H' b := fun hn b hb => ⟨hn b hb, (f2 b hb).2⟩
  refine codeAny_forLoop_any (fun n s' => ∃ i σ' H', Inv X pins σ' H' s' ∧ tn i s'.heap ∧ (∀ b ∈ fp, H' b = none) ∧ W i n σ' H') ?_ m0 ⟨0, σ, H2, I2, st2, fun b hb => (f2 b hb).1, w0⟩
  rintro n s3 ⟨i, σ3, H3, I3, st3, fr3, w3⟩
  rcases turn i n σ3 H3 w3 with ⟨stop, qn⟩ | ⟨go, N, hN, step⟩
  · refine wpAny_passesOwn hp (thn (T.done X rfl rfl rfl hc i pins s3 σ3 H3 X.xe I3 (stat fr3) st3 stop) fun r s4 ⟨hr, I4⟩ => ?_)
    subst hr
    exact wpAny_execs_nil ⟨σ3, H3, I4, qn⟩
  · refine wpAny_passesOwn hp (thn (T.item X rfl rfl rfl hc i pins s3 σ3 H3 X.xe I3 (stat fr3) st3 go) fun r s4 ⟨u, hr, h4⟩ => ?_)
    subst hr
    refine wpAny_passesOwn hp (thn h4 fun _ s5 ⟨x, H5, I5, r5, y5, st5, fr5⟩ => ?_)
    have I5' := I5.pinned (stat fr5) (T.obj _ _ st5)
    refine wpAny_passesOwn hp (thn (hg _ s5 σ3 H5 x u _ I5' r5 (step x H5 y5)) fun _ s6 ⟨σ6, H6, I6, q6⟩ => ?_)
    refine wpAny_passesOwn hp (thn (hb _ s6 σ6 H6 _ I6 q6) fun f s7 q7 => ?_)
    have again : ∀ {σ7 : St} {H7 : Hp}, Inv X (pins ++ pinsAt fp s5.heap) σ7 H7 s7 → N σ7 H7 → ∃ m, m < n ∧ ∃ i σ' H', Inv X pins σ' H' s7 ∧ tn i s7.heap ∧ (∀ b ∈ fp, H' b = none) ∧ W i m σ' H' := fun {σ7 H7} I7 n7 => by
      obtain ⟨m', hm, w7⟩ := hN σ7 H7 n7
      refine ⟨m', hm, i + 1, σ7, H7, I7.unpinned, T.keep _ _ _ st5 fun b hb o e => (I7.pin (b, o) (List.mem_append_right _ (List.mem_append_right _ (mem_pinsAt hb e)))).1, fun b hb => ?_, w7⟩
      obtain ⟨o, e, d⟩ := T.obj _ _ st5 b hb
      exact (I7.pin (b, o) (List.mem_append_right _ (List.mem_append_right _ (mem_pinsAt hb e)))).2.1
    cases f with
    | next => obtain ⟨σ7, H7, I7, n7⟩ := q7; exact again I7 n7
    | cont => obtain ⟨σ7, H7, I7, n7⟩ := q7; exact again I7 n7
    | brk => obtain ⟨σ7, H7, I7, q7⟩ := q7; exact ⟨σ7, H7, I7.unpinned, q7⟩
    | ret v => obtain ⟨x7, σ7, H7, I7, r7, q7⟩ := q7; exact ⟨x7, σ7, H7, I7.unpinned, r7, q7⟩
end

/-! ### the forms one uses -/
/-- over a list that the body leaves as it is -/
theorem for_list {K : PySem.W.Frag} {a : Addr} {xs : List V} {g : TG} {tb : TS} {D : Ends} {σ : St} {H : Hp} (Pv : Nat → St → Hp → Prop) (h0 : Pv 0 σ H) (hl : ∀ i σ H, i ≤ xs.length → Pv i σ H → SqL K H a xs)
    (hs : ∀ i x σ H, xs[i]? = some x → Pv i σ H → g x σ H fun σ2 H2 => tb { D with nx := Pv (i + 1), ct := Pv (i + 1), bk := D.nx } σ2 H2) (hd : ∀ σ H, Pv xs.length σ H → D.nx σ H) :
    ∃ W : Nat → Nat → St → Hp → Prop, (∃ m, W 0 m σ H) ∧ ∀ i m σ H, W i m σ H →
      ((Itl K a).stop i H ∧ D.nx σ H) ∨ ((Itl K a).go i H ∧ ∃ N : St → Hp → Prop, (∀ σ' H', N σ' H' → ∃ m', m' < m ∧ W (i + 1) m' σ' H') ∧ ∀ x H', (Itl K a).yld i H x H' → g x σ H' fun σ2 H2 => tb { D with nx := N, ct := N, bk := D.nx } σ2 H2) := by
  refine ⟨fun i m σ H => m = xs.length - i ∧ i ≤ xs.length ∧ Pv i σ H, ⟨xs.length, by simp, Nat.zero_le _, h0⟩, ?_⟩
  rintro i m σ H ⟨rfl, hi, p⟩
  have q := hl i σ H hi p
  by_cases hlt : i < xs.length
  · refine .inr ⟨⟨xs, xs[i], q, by simp [hlt]⟩, Pv (i + 1), fun σ' H' p' => ⟨xs.length - (i + 1), by omega, rfl, hlt, p'⟩, fun x H' y => ?_⟩
    obtain ⟨e, y⟩ := y
    subst e
    exact hs i x σ _ (y xs q) p
  · have e : i = xs.length := by omega
    subst e
    exact .inl ⟨⟨xs, q, Nat.le_refl _⟩, hd σ H p⟩
theorem for_tup {K : PySem.W.Frag} {a : Addr} {xs : List V} {g : TG} {tb : TS} {D : Ends} {σ : St} {H : Hp} (Pv : Nat → St → Hp → Prop) (h0 : Pv 0 σ H) (hl : ∀ i σ H, i ≤ xs.length → Pv i σ H → SqT K H a xs)
    (hs : ∀ i x σ H, xs[i]? = some x → Pv i σ H → g x σ H fun σ2 H2 => tb { D with nx := Pv (i + 1), ct := Pv (i + 1), bk := D.nx } σ2 H2) (hd : ∀ σ H, Pv xs.length σ H → D.nx σ H) :
    ∃ W : Nat → Nat → St → Hp → Prop, (∃ m, W 0 m σ H) ∧ ∀ i m σ H, W i m σ H →
      ((Itt K a).stop i H ∧ D.nx σ H) ∨ ((Itt K a).go i H ∧ ∃ N : St → Hp → Prop, (∀ σ' H', N σ' H' → ∃ m', m' < m ∧ W (i + 1) m' σ' H') ∧ ∀ x H', (Itt K a).yld i H x H' → g x σ H' fun σ2 H2 => tb { D with nx := N, ct := N, bk := D.nx } σ2 H2) := by
  refine ⟨fun i m σ H => m = xs.length - i ∧ i ≤ xs.length ∧ Pv i σ H, ⟨xs.length, by simp, Nat.zero_le _, h0⟩, ?_⟩
  rintro i m σ H ⟨rfl, hi, p⟩
  have q := hl i σ H hi p
  by_cases hlt : i < xs.length
  · refine .inr ⟨⟨xs, xs[i], q, by simp [hlt]⟩, Pv (i + 1), fun σ' H' p' => ⟨xs.length - (i + 1), by omega, rfl, hlt, p'⟩, fun x H' y => ?_⟩
    obtain ⟨e, y⟩ := y
    subst e
    exact hs i x σ _ (y xs q) p
  · have e : i = xs.length := by omega
    subst e
    exact .inl ⟨⟨xs, q, Nat.le_refl _⟩, hd σ H p⟩
theorem for_range {lo : Int} {n : Nat} {g : TG} {tb : TS} {D : Ends} {σ : St} {H : Hp} (Pv : Nat → St → Hp → Prop) (h0 : Pv 0 σ H)
    (hs : ∀ i σ H, i < n → Pv i σ H → g (.int (lo + i)) σ H fun σ2 H2 => tb { D with nx := Pv (i + 1), ct := Pv (i + 1), bk := D.nx } σ2 H2) (hd : ∀ σ H, Pv n σ H → D.nx σ H) :
    ∃ W : Nat → Nat → St → Hp → Prop, (∃ m, W 0 m σ H) ∧ ∀ i m σ H, W i m σ H →
      ((Itr lo n).stop i H ∧ D.nx σ H) ∨ ((Itr lo n).go i H ∧ ∃ N : St → Hp → Prop, (∀ σ' H', N σ' H' → ∃ m', m' < m ∧ W (i + 1) m' σ' H') ∧ ∀ x H', (Itr lo n).yld i H x H' → g x σ H' fun σ2 H2 => tb { D with nx := N, ct := N, bk := D.nx } σ2 H2) := by
  refine ⟨fun i m σ H => m = n - i ∧ i ≤ n ∧ Pv i σ H, ⟨n, by simp, Nat.zero_le _, h0⟩, ?_⟩
  rintro i m σ H ⟨rfl, hi, p⟩
  by_cases hlt : i < n
  · refine .inr ⟨hlt, Pv (i + 1), fun σ' H' p' => ⟨n - (i + 1), by omega, rfl, hlt, p'⟩, fun x H' y => ?_⟩
    obtain ⟨e, y⟩ := y
    subst e y
    exact hs i σ _ hlt p
  · have e : i = n := by omega
    subst e
    exact .inl ⟨Nat.le_refl _, hd σ H p⟩
end L2

namespace L2
open PySem PySem.Spec PyProof.Rows

abbrev R2 := V → V → Hp → VK → Prop
/-- a two-place operation on values: f is binaryOp op, inplaceOp op or compareOp op -/
def OpR (X : Cx) (f : Value → Value → Sem Value) (r : R2) : Prop :=
  ∀ (pins : List (Addr × Obj)) (s : Shared) (σ : St) (H : Hp) (x y : V) (v u : Value) (Q : VK), Inv X pins σ H s → RelV x v → RelV y u → r x y H Q →
    wpAny (model X.prog X.w) X.A (f v u) (EP X pins σ Q) X.xe s
/-- a one-place operation -/
def UnR (X : Cx) (f : Value → Sem Value) (r : V → Hp → VK → Prop) : Prop :=
  ∀ (pins : List (Addr × Obj)) (s : Shared) (σ : St) (H : Hp) (x : V) (v : Value) (Q : VK), Inv X pins σ H s → RelV x v → r x H Q →
    wpAny (model X.prog X.w) X.A (f v) (EP X pins σ Q) X.xe s
/-- a call of a value that is known (a builtin, a type) with values -/
def CallR (X : Cx) (f : Value) (r : List V → Hp → VK → Prop) : Prop :=
  ∀ (pins : List (Addr × Obj)) (s : Shared) (σ : St) (H : Hp) (xs : List V) (us : List Value) (Q : VK), Inv X pins σ H s → Vals xs us → r xs H Q →
    wpAny (model X.prog X.w) X.A (call f us) (EP X pins σ Q) X.xe s
/-- a value's truth -/
def TruR (X : Cx) (r : V → Hp → (Bool → Hp → Prop) → Prop) : Prop :=
  ∀ (pins : List (Addr × Obj)) (s : Shared) (σ : St) (H : Hp) (x : V) (v : Value) (Q : Bool → Hp → Prop), Inv X pins σ H s → RelV x v → r x H Q →
    wpAny (model X.prog X.w) X.A (truthy v) (TP X pins σ Q) X.xe s

def tOp (r : R2) (ta tb : TE) : TE := fun σ H Q => ta σ H fun x H1 => tb σ H1 fun y H2 => r x y H2 Q
def tUn (r : V → Hp → VK → Prop) (ta : TE) : TE := fun σ H Q => ta σ H fun x H1 => r x H1 Q
/-- ints in, under C, and a value out -/
def rI (C : Int → Int → Prop) (g : Int → Int → V) : R2 := fun x y H Q => ∃ i j, x = .int i ∧ y = .int j ∧ C i j ∧ Q (g i j) H
def rI0 (g : Int → Int → V) : R2 := fun x y H Q => ∃ i j, x = .int i ∧ y = .int j ∧ Q (g i j) H
def rU (g : Int → V) : V → Hp → VK → Prop := fun x H Q => ∃ i, x = .int i ∧ Q (g i) H

section
variable {X : Cx} {a b c : Expr} {ta tb tc : TE} {pos : Pos}

theorem binT (ha : PE X a ta) (hb : PE X b tb) {pins : List (Addr × Obj)} {s : Shared} {σ : St} {H : Hp} {R : V → V → Hp → Prop} (I : Inv X pins σ H s)
    (h : ta σ H fun x H1 => tb σ H1 fun y H2 => R x y H2) {Q : Value → Shared → Prop} {f : Value → Value → Sem Value}
    (hf : ∀ v u s2 x y H2, Inv X pins σ H2 s2 → RelV x v → RelV y u → R x y H2 → wpAny (model X.prog X.w) X.A (f v u) Q X.xe s2) :
    wpAny (model X.prog X.w) X.A (eval a X.env) (fun v s₁ => wpAny (model X.prog X.w) X.A (eval b X.env) (fun u s₂ => wpAny (model X.prog X.w) X.A (f v u) Q X.xe s₂) X.xe s₁) X.xe s := by
  refine thn (ha pins s σ H _ I h) fun v s1 ⟨x, H1, I1, r1, q1⟩ => ?_
  refine thn (hb pins s1 σ H1 _ I1 q1) fun u s2 ⟨y, H2, I2, r2, q2⟩ => ?_
  exact hf v u s2 x y H2 I2 r1 r2 q2

theorem pe_op {op : Operator} {r : R2} (ho : OpR X (binaryOp op) r) (ha : PE X a ta) (hb : PE X b tb) : PE X (.BinOp a op b pos) (tOp r ta tb) := by
  intro pins s σ H Q I h
  exact wpAny_BinOp (binT ha hb I h fun v u s2 x y H2 I2 rx ry q => ho pins s2 σ H2 x y v u Q I2 rx ry q)
theorem pe_un {op : UnaryOp} {r : V → Hp → VK → Prop} (ho : UnR X (unaryOp op) r) (ha : PE X a ta) : PE X (.UnaryOp op a pos) (tUn r ta) := by
  intro pins s σ H Q I h
  exact UnaryOp_ (thn (ha pins s σ H _ I h) fun v s1 ⟨x, H1, I1, r1, q1⟩ => ho pins s1 σ H1 x v Q I1 r1 q1)
/-! ### ints -/
theorem opI {f : Value → Value → Sem Value} {C : Int → Int → Prop} {g : Int → Int → Int}
    (rule : ∀ (i j : Int) (t u : Tok) (s : Shared) (Q : Value → Shared → Prop) (E : Value → Shared → Prop), C i j → Q (.int (g i j) s.toks) { s with toks := s.toks + 1 } → wpAny (model X.prog X.w) X.A (f (.int i t) (.int j u)) Q E s) :
    OpR X f (rI C fun i j => .int (g i j)) := by
  intro pins s σ H x y v u Q I rx ry h
  obtain ⟨i, j, rfl, rfl, hc, q⟩ := h
  obtain ⟨t, rfl⟩ := rx
  obtain ⟨t', rfl⟩ := ry
  exact rule i j t t' s _ _ hc ⟨.int (g i j), H, I.tok _, ⟨_, rfl⟩, q⟩
theorem opI0 {f : Value → Value → Sem Value} {g : Int → Int → Int}
    (rule : ∀ (i j : Int) (t u : Tok) (s : Shared) (Q : Value → Shared → Prop) (E : Value → Shared → Prop), Q (.int (g i j) s.toks) { s with toks := s.toks + 1 } → wpAny (model X.prog X.w) X.A (f (.int i t) (.int j u)) Q E s) :
    OpR X f (rI0 fun i j => .int (g i j)) := by
  intro pins s σ H x y v u Q I rx ry h
  obtain ⟨i, j, rfl, rfl, q⟩ := h
  obtain ⟨t, rfl⟩ := rx
  obtain ⟨t', rfl⟩ := ry
  exact rule i j t t' s _ _ ⟨.int (g i j), H, I.tok _, ⟨_, rfl⟩, q⟩
theorem opB0 {f : Value → Value → Sem Value} {g : Int → Int → Bool}
    (rule : ∀ (i j : Int) (t u : Tok) (s : Shared) (Q : Value → Shared → Prop) (E : Value → Shared → Prop), Q (.bool (g i j)) s → wpAny (model X.prog X.w) X.A (f (.int i t) (.int j u)) Q E s) :
    OpR X f (rI0 fun i j => .bl (g i j)) := by
  intro pins s σ H x y v u Q I rx ry h
  obtain ⟨i, j, rfl, rfl, q⟩ := h
  obtain ⟨t, rfl⟩ := rx
  obtain ⟨t', rfl⟩ := ry
  exact rule i j t t' s _ _ ⟨.bl (g i j), H, I, rfl, q⟩

def CDiv (i j : Int) : Prop := 0 < j ∧ j < 1073741824
def CPow (i j : Int) : Prop := 0 ≤ j ∧ j ≤ 1000000 ∧ i.natAbs < 2 ^ 64
def CMul (i j : Int) : Prop := (-(2 ^ 64) < i ∧ i < 2 ^ 64) ∨ (-(2 ^ 64) < j ∧ j < 2 ^ 64)
theorem CMul.ok {i j : Int} (h : CMul i j) : IntMulOk i j := by
  rcases h with ⟨h1, h2⟩ | ⟨h1, h2⟩
  · exact .of_left (intBits_le_64 h1 h2)
  · exact .of_right (intBits_le_64 h1 h2)
theorem op_add : OpR X (binaryOp .Add) (rI0 fun i j => .int (i + j)) := opI0 fun _ _ _ _ _ _ _ q => add_int q
theorem op_sub : OpR X (binaryOp .Sub) (rI0 fun i j => .int (i - j)) := opI0 fun _ _ _ _ _ _ _ q => sub_int q
theorem op_mul : OpR X (binaryOp .Mult) (rI CMul fun i j => .int (i * j)) := opI fun _ _ _ _ _ _ _ hc q => mul_int q hc.ok
/-- // by a positive divisor -/
theorem op_fdiv : OpR X (binaryOp .FloorDiv) (rI CDiv fun i j => .int (i / j)) := opI fun i j _ _ _ _ _ hc q => by
  have h1 : (0 : Int) < j := hc.1
  have h2 : j < 1073741824 := hc.2
  exact floordiv_int (by omega) (by rw [Int.fdiv_eq_ediv_of_nonneg i (by omega)]; exact q) (.inl (PyProof.noPylong_small (by omega)))
/-- % by a positive divisor of any size -/
theorem op_mod : OpR X (binaryOp .Mod) (rI (fun _ j => 0 < j) fun i j => .int (i % j)) := opI fun i j _ _ _ _ _ hc q => by
  have h1 : (0 : Int) < j := hc
  exact mod_int' (by omega) (by rw [Int.fmod_eq_emod_of_nonneg i (by omega)]; exact q)
theorem op_pow : OpR X (binaryOp .Pow) (rI CPow fun i j => .int (i ^ j.toNat)) := opI fun _ _ _ _ _ _ _ hc q => pow_int_small hc.1 hc.2.1 hc.2.2 q
theorem unI {f : Value → Sem Value} {g : Int → Int}
    (rule : ∀ (i : Int) (t : Tok) (s : Shared) (Q : Value → Shared → Prop) (E : Value → Shared → Prop), Q (.int (g i) s.toks) { s with toks := s.toks + 1 } → wpAny (model X.prog X.w) X.A (f (.int i t)) Q E s) :
    UnR X f (rU fun i => .int (g i)) := by
  intro pins s σ H x v Q I rx h
  obtain ⟨i, rfl, q⟩ := h
  obtain ⟨t, rfl⟩ := rx
  exact rule i t s _ _ ⟨.int (g i), H, I.tok _, ⟨_, rfl⟩, q⟩
theorem un_neg : UnR X (unaryOp .USub) (rU fun i => .int (-i)) := unI fun _ _ _ _ _ q => neg_int q
/-! ### bools among ints: n += (a < b) -/
end

/-! ### comparisons -/
/-- the scalars that == tells apart as data does -/
def scal : V → V → Bool
  | .non, .non => true | .non, .int _ => true | .int _, .non => true | .non, .bl _ => true | .bl _, .non => true | .non, .str _ => true | .str _, .non => true
  | .int _, .int _ => true | .bl _, .bl _ => true | .str _, .str _ => true | .byt _, .byt _ => true
  | .int _, .str _ => true | .str _, .int _ => true | .bl _, .str _ => true | .str _, .bl _ => true
  | _, _ => false
def rEq : R2 := fun x y H Q => scal x y = true ∧ Q (.bl (decide (x = y))) H
def rNe : R2 := fun x y H Q => scal x y = true ∧ Q (.bl (!decide (x = y))) H

theorem dec_int {i j : Int} : decide (V.int i = V.int j) = (i == j) := by
  rw [Bool.eq_iff_iff]
  simp
theorem dec_bl {i j : Bool} : decide (V.bl i = V.bl j) = (i == j) := by
  rw [Bool.eq_iff_iff]
  simp
theorem dec_str {i j : Str} : decide (V.str i = V.str j) = (i == j) := by
  rw [Bool.eq_iff_iff]
  simp
theorem dec_byt {i j : Array UInt8} : decide (V.byt i = V.byt j) = (i.toList == j.toList) := by
  rw [Bool.eq_iff_iff]
  cases i
  cases j
  simp

section
variable {X : Cx} {a b c : Expr} {ta tb tc : TE} {pos : Pos}
theorem fin_bl {pins : List (Addr × Obj)} {σ : St} {H : Hp} {s : Shared} {Q : VK} {k k' : Bool} (I : Inv X pins σ H s) (q : Q (.bl k) H) (e : k = k') : EP X pins σ Q (.bool k') s := by
  subst e
  exact ⟨.bl k, H, I, rfl, q⟩
theorem op_eq : OpR X (compareOp .Eq) rEq := by
  intro pins s σ H x y v u Q I rx ry h
  obtain ⟨hs, q⟩ := h
  cases x with
  | non =>
    cases rx
    cases y with
    | non => cases ry; exact PySem.EqNone.eq_none_none (fin_bl I q (by simp))
    | bl j => cases ry; exact PySem.EqNone.eq_none_bool (fin_bl I q (by simp))
    | int j => obtain ⟨t', rfl⟩ := ry; exact PySem.EqNone.eq_none_int (fin_bl I q (by simp))
    | str j => obtain ⟨t', rfl⟩ := ry; exact PySem.EqNone.eq_none_str (fin_bl I q (by simp))
    | _ => exact absurd (show false = true from hs) Bool.false_ne_true
  | bl i =>
    cases rx
    cases y with
    | non => cases ry; exact PySem.EqNone.eq_bool_none (fin_bl I q (by simp))
    | bl j => cases ry; exact eq_bool (fin_bl I q dec_bl)
    | str j => obtain ⟨t', rfl⟩ := ry; exact PySem.EqMixed.eq_bool_str (fin_bl I q (by simp))
    | _ => exact absurd (show false = true from hs) Bool.false_ne_true
  | int i =>
    obtain ⟨t, rfl⟩ := rx
    cases y with
    | non => cases ry; exact PySem.EqNone.eq_int_none (fin_bl I q (by simp))
    | int j => obtain ⟨t', rfl⟩ := ry; exact eq_int (fin_bl I q dec_int)
    | str j => obtain ⟨t', rfl⟩ := ry; exact PySem.EqMixed.eq_int_str (fin_bl I q (by simp))
    | _ => exact absurd (show false = true from hs) Bool.false_ne_true
  | str i =>
    obtain ⟨t, rfl⟩ := rx
    cases y with
    | non => cases ry; exact PySem.EqNone.eq_str_none (fin_bl I q (by simp))
    | bl j => cases ry; exact PySem.EqMixed.eq_str_bool (fin_bl I q (by simp))
    | int j => obtain ⟨t', rfl⟩ := ry; exact PySem.EqMixed.eq_str_int (fin_bl I q (by simp))
    | str j => obtain ⟨t', rfl⟩ := ry; exact eq_str (fin_bl I q dec_str)
    | _ => exact absurd (show false = true from hs) Bool.false_ne_true
  | byt i =>
    obtain ⟨t, rfl⟩ := rx
    cases y with
    | byt j => obtain ⟨t', rfl⟩ := ry; exact PySem.W.eq_bytes (fin_bl I q dec_byt)
    | _ => exact absurd (show false = true from hs) Bool.false_ne_true
  | _ => cases y <;> exact absurd (show false = true from hs) Bool.false_ne_true
theorem op_ne : OpR X (compareOp .NotEq) rNe := by
  intro pins s σ H x y v u Q I rx ry h
  obtain ⟨hs, q⟩ := h
  cases x with
  | non =>
    cases rx
    cases y with
    | non => cases ry; exact PySem.EqNone.ne_none_none (fin_bl I q (by simp))
    | bl j => cases ry; exact PySem.EqNone.ne_none_bool (fin_bl I q (by simp))
    | int j => obtain ⟨t', rfl⟩ := ry; exact PySem.EqNone.ne_none_int (fin_bl I q (by simp))
    | str j => obtain ⟨t', rfl⟩ := ry; exact PySem.EqNone.ne_none_str (fin_bl I q (by simp))
    | _ => exact absurd (show false = true from hs) Bool.false_ne_true
  | bl i =>
    cases rx
    cases y with
    | non => cases ry; exact PySem.EqNone.ne_bool_none (fin_bl I q (by simp))
    | bl j => cases ry; exact ne_bool (fin_bl I q (congrArg not dec_bl))
    | str j => obtain ⟨t', rfl⟩ := ry; exact PySem.EqMixed.ne_bool_str (fin_bl I q (by simp))
    | _ => exact absurd (show false = true from hs) Bool.false_ne_true
  | int i =>
    obtain ⟨t, rfl⟩ := rx
    cases y with
    | non => cases ry; exact PySem.EqNone.ne_int_none (fin_bl I q (by simp))
    | int j => obtain ⟨t', rfl⟩ := ry; exact ne_int (fin_bl I q (congrArg not dec_int))
    | str j => obtain ⟨t', rfl⟩ := ry; exact PySem.EqMixed.ne_int_str (fin_bl I q (by simp))
    | _ => exact absurd (show false = true from hs) Bool.false_ne_true
  | str i =>
    obtain ⟨t, rfl⟩ := rx
    cases y with
    | non => cases ry; exact PySem.EqNone.ne_str_none (fin_bl I q (by simp))
    | bl j => cases ry; exact PySem.EqMixed.ne_str_bool (fin_bl I q (by simp))
    | int j => obtain ⟨t', rfl⟩ := ry; exact PySem.EqMixed.ne_str_int (fin_bl I q (by simp))
    | str j => obtain ⟨t', rfl⟩ := ry; exact ne_str (fin_bl I q (congrArg not dec_str))
    | _ => exact absurd (show false = true from hs) Bool.false_ne_true
  | byt i =>
    obtain ⟨t, rfl⟩ := rx
    cases y with
    | byt j => obtain ⟨t', rfl⟩ := ry; exact PySem.W.ne_bytes (fin_bl I q (congrArg not dec_byt))
    | _ => exact absurd (show false = true from hs) Bool.false_ne_true
  | _ => cases y <;> exact absurd (show false = true from hs) Bool.false_ne_true

theorem op_lt : OpR X (compareOp .Lt) (rI0 fun i j => .bl (decide (i < j))) := opB0 fun _ _ _ _ _ _ _ q => lt_int q
theorem op_le : OpR X (compareOp .LtE) (rI0 fun i j => .bl (decide (i ≤ j))) := opB0 fun _ _ _ _ _ _ _ q => le_int q
theorem op_gt : OpR X (compareOp .Gt) (rI0 fun i j => .bl (decide (j < i))) := opB0 fun _ _ _ _ _ _ _ q => gt_int q
theorem op_ge : OpR X (compareOp .GtE) (rI0 fun i j => .bl (decide (j ≤ i))) := opB0 fun _ _ _ _ _ _ _ q => ge_int q
/-- two rules for one operation: by cases -/
theorem OpR.or {f : Value → Value → Sem Value} {r r' : R2} (h : OpR X f r) (h' : OpR X f r') : OpR X f (fun x y H Q => r x y H Q ∨ r' x y H Q) := by
  intro pins s σ H x y v u Q I rx ry q
  rcases q with q | q
  · exact h pins s σ H x y v u Q I rx ry q
  · exact h' pins s σ H x y v u Q I rx ry q

theorem nomark (b : Expr) {op : CmpOp} (h : op ≠ .In := by decide) (h2 : op ≠ .NotIn := by decide) : behindInMarks op b = false := by
  have e1 : (op == CmpOp.In) = false := by cases op <;> first | rfl | exact absurd rfl h
  have e2 : (op == CmpOp.NotIn) = false := by cases op <;> first | rfl | exact absurd rfl h2
  cases b <;> simp [behindInMarks, e1, e2]
/-- a comparison as a value; hm: nomark b, or (for in, not in) by with_unfolding_all rfl -/
theorem pe_cmpR {op : CmpOp} {r : R2} (ho : OpR X (compareOp op) r) (ha : PE X a ta) (hb : PE X b tb) (hm : behindInMarks op b = false) : PE X (.Compare a [op] [b] pos) (tOp r ta tb) := by
  intro pins s σ H Q I h
  exact wpAny_Compare1 (binT ha hb I h fun v u s2 x y H2 I2 rx ry q => ho pins s2 σ H2 x y v u Q I2 rx ry q) hm
/-- a reading of a value as a test -/
def tTest (t : TE) : TT := fun σ H Q => t σ H fun x H' => ∃ k, x = .bl k ∧ Q k H'
theorem pt_cmpR {op : CmpOp} {r : R2} (ho : OpR X (compareOp op) r) (ha : PE X a ta) (hb : PE X b tb) (hm : behindInMarks op b = false) : PT X (.Compare a [op] [b] pos) (tTest (tOp r ta tb)) := by
  intro pins s σ H Q I h
  refine wpAny_isTrue_Compare1 (thn (ha pins s σ H _ I h) fun v s1 ⟨x, H1, I1, r1, q1⟩ => thn (hb pins s1 σ H1 _ I1 q1) fun u s2 ⟨y, H2, I2, r2, q2⟩ =>
    thn (ho pins s2 σ H2 x y v u _ I2 r1 r2 q2) fun c s3 ⟨z, H3, I3, r3, k, e, q3⟩ => ?_) hm
  subst e
  cases r3
  exact wpAny_truthy_bool ⟨H3, I3, q3⟩
/-- a op1 b op2 c -/
def tChain (r r' : R2) (ta tb tc : TE) : TE := fun σ H Q => ta σ H fun x H1 => tb σ H1 fun y H2 => r x y H2 fun z H3 => ∃ k, z = .bl k ∧
  (if k = true then tc σ H3 fun w' H4 => r' y w' H4 Q else Q (.bl false) H3)
theorem pe_chain {op op' : CmpOp} {r r' : R2} (ho : OpR X (compareOp op) r) (ho' : OpR X (compareOp op') r') (ha : PE X a ta) (hb : PE X b tb) (hc : PE X c tc)
    (hm : lastMarks [op, op'] [b, c] = false := by with_unfolding_all rfl) : PE X (.Compare a [op, op'] [b, c] pos) (tChain r r' ta tb tc) := by
  intro pins s σ H Q I h
  refine Compare_chain (thn (ha pins s σ H _ I h) fun v s1 ⟨x, H1, I1, r1, q1⟩ => chain_link (thn (hb pins s1 σ H1 _ I1 q1) fun u s2 ⟨y, H2, I2, r2, q2⟩ =>
    thn (ho pins s2 σ H2 x y v u _ I2 r1 r2 q2) fun d s3 ⟨z, H3, I3, r3, k, e, q3⟩ => ?_)) hm
  subst e
  cases r3
  refine wpAny_truthy_bool ?_
  cases k with
  | false => exact ite_ff ⟨.bl false, H3, I3, rfl, q3⟩
  | true => exact ite_tt (chain_last (thn (hc pins s3 σ H3 _ I3 q3) fun w' s4 ⟨z', H4, I4, r4, q4⟩ => ho' pins s4 σ H4 y z' u w' Q I4 r2 r4 q4))
/-! ### truth -/
/-- a value's truth by the abstract heap -/
def TruV (K : PySem.W.Frag) (x : V) (H : Hp) (k : Bool) : Prop :=
  match x with
  | .non => k = false
  | .bl b => k = b
  | .int i => k = (i != 0)
  | .str y => y.length ≤ sizeLine ∧ k = ((y.length : Int) != 0)
  | .byt y => y.size ≤ sizeLine ∧ k = ((y.size : Int) != 0)
  | .ref p => (∃ xs, SqL K H p xs ∧ k = !xs.isEmpty) ∨ (∃ xs, SqT K H p xs ∧ k = !xs.isEmpty) ∨ ∃ kvs, H p = some (.dK kvs) ∧ k = !kvs.isEmpty
  | _ => False
theorem isEmpty_kv {κ : Type} {kvs : List (κ × V)} {vs : List (κ × Value)} (r : KV kvs vs) : (!vs.isEmpty) = !kvs.isEmpty := by
  cases r <;> rfl
theorem isEmpty_of {xs : List V} {its : List Value} (r : Vals xs its) : (!its.toArray.isEmpty) = !xs.isEmpty := by
  cases r <;> simp
theorem line63 : (sizeLine : Nat) < 2 ^ 63 := by rw [sizeLine_eq]; decide
theorem tru_ok : TruR X (fun x H Q => ∃ k, TruV X.K x H k ∧ Q k H) := by
  intro pins s σ H x v Q I rx h
  obtain ⟨k, e, q⟩ := h
  have hl := line63
  have hs : sizeLine = 16777216 := sizeLine_eq
  cases x with
  | non =>
    cases rx
    have e' : k = false := e
    subst e'
    exact truthy_none ⟨H, I, q⟩
  | bl b =>
    cases rx
    have e' : k = b := e
    subst e'
    exact wpAny_truthy_bool ⟨H, I, q⟩
  | int i =>
    obtain ⟨t, rfl⟩ := rx
    have e' : k = (i != 0) := e
    subst e'
    exact PySem.P.truthy_int ⟨H, I, q⟩
  | str y =>
    obtain ⟨t, rfl⟩ := rx
    obtain ⟨hy, e'⟩ : y.length ≤ sizeLine ∧ k = ((y.length : Int) != 0) := e
    subst e'
    exact PySem.P.truthy_str (by omega) ⟨H, I.tok _, q⟩
  | byt y =>
    obtain ⟨t, rfl⟩ := rx
    obtain ⟨hy, e'⟩ : y.size ≤ sizeLine ∧ k = ((y.size : Int) != 0) := e
    subst e'
    exact PySem.W.truthy_bytes (by omega) ⟨H, I.tok _, q⟩
  | ref p =>
    cases rx
    have e' : (∃ xs, SqL X.K H p xs ∧ k = !xs.isEmpty) ∨ (∃ xs, SqT X.K H p xs ∧ k = !xs.isEmpty) ∨ ∃ kvs, H p = some (.dK kvs) ∧ k = !kvs.isEmpty := e
    rcases e' with ⟨xs, hx, e'⟩ | ⟨xs, hx, e'⟩ | ⟨kvs, hx, e'⟩
    · subst e'
      obtain ⟨its, r, pl, hz⟩ := I.list hx
      have hlen := r.length
      exact wpAny_truthy_list pl.isList (by simp only [List.size_toArray]; omega) ⟨H, I.tok _, by rw [isEmpty_of r]; exact q⟩
    · subst e'
      obtain ⟨its, r, pl, hz⟩ := I.tuple hx
      have hlen := r.length
      exact truthy_tuple pl (by simp only [List.size_toArray]; omega) ⟨H, I.tok _, by rw [isEmpty_of r]; exact q⟩
    · subst e'
      obtain ⟨hz, hS, vs, r, m⟩ : kvs.length ≤ sizeLine ∧ (p == sysModules) = false ∧ ∃ vs, KV kvs vs ∧ s.heap.DictOf (mixKind X.prog X.w) p vs := I.hok p _ hx
      have hlen : kvs.length = vs.length := Paired.length r
      exact wpAny_truthy_dict hS m (by omega) ⟨H, I.tok _, by rw [isEmpty_kv r]; exact q⟩
  | _ => exact (show False from e).elim
/-! ### strs and bytes -/
/-! ### scalar builtins, by CallR -/
theorem vals1 {x : V} {us : List Value} (r : Vals [x] us) : ∃ u, us = [u] ∧ RelV x u := by
  cases r with
  | cons r1 r2 => cases r2; exact ⟨_, rfl, r1⟩
theorem vals2 {x y : V} {us : List Value} (r : Vals [x, y] us) : ∃ u w', us = [u, w'] ∧ RelV x u ∧ RelV y w' := by
  cases r with
  | cons r1 r2 =>
    cases r2 with
    | cons r3 r4 => cases r4; exact ⟨_, _, rfl, r1, r3⟩
theorem call_max2 (hc : X.calm = true) : CallR X (.builtin "max") (fun xs H Q => ∃ i j, xs = [.int i, .int j] ∧ Q (.int (if j > i then j else i)) H) := by
  intro pins s σ H xs us Q I r h
  obtain ⟨i, j, rfl, q⟩ := h
  obtain ⟨u, w', rfl, ⟨t, rfl⟩, ⟨t', rfl⟩⟩ := vals2 r
  refine max_two_ints (I.ok.hd hc) fun h' tk k => ⟨_, H, I.kept k, ?_, q⟩
  by_cases hj : j > i
  · rw [if_pos hj, if_pos hj]; exact ⟨_, rfl⟩
  · rw [if_neg hj, if_neg hj]; exact ⟨_, rfl⟩
theorem call_min2 (hc : X.calm = true) : CallR X (.builtin "min") (fun xs H Q => ∃ i j, xs = [.int i, .int j] ∧ Q (.int (if j < i then j else i)) H) := by
  intro pins s σ H xs us Q I r h
  obtain ⟨i, j, rfl, q⟩ := h
  obtain ⟨u, w', rfl, ⟨t, rfl⟩, ⟨t', rfl⟩⟩ := vals2 r
  refine min_two_ints (I.ok.hd hc) fun h' tk k => ⟨_, H, I.kept k, ?_, q⟩
  by_cases hj : j < i
  · rw [if_pos hj, if_pos hj]; exact ⟨_, rfl⟩
  · rw [if_neg hj, if_neg hj]; exact ⟨_, rfl⟩
theorem call_str_int : CallR X (.type "str") (fun xs H Q => ∃ i, xs = [.int i] ∧ i.natAbs.log2 < 1920 ∧ Q (.str (toString i)) H) := by
  intro pins s σ H xs us Q I r h
  obtain ⟨i, rfl, hz, q⟩ := h
  obtain ⟨u, rfl, t, rfl⟩ := vals1 r
  exact PySem.P.str_of_int hz ⟨.str _, H, I.tok _, ⟨_, rfl⟩, q⟩
end
end L2

namespace L2
open PySem PySem.Spec PyProof.Rows

/-! ### an instance, its attributes a map -/
structure ObjM (h : Heap) (x dx C : Addr) (mA : Str → Option Value) : Prop where
  obj : h.get? x = some (PySem.W.instObj C dx)
  ns : h.Ns1 dx mA
  ne : dx ≠ x

theorem lookIn_ns {h : Heap} {dx : Addr} {mA : Str → Option Value} (n : h.Ns1 dx mA) : ∃ od, h.get? dx = some od ∧ ∀ name, PySem.W.lookIn name od = some (mA name) := by
  obtain ⟨o, es, ep, ho, hd, hk, _, hm⟩ := n
  refine ⟨o, ho, fun name => ?_⟩
  have e := hm name
  unfold nsFind findBy at e
  rw [← Array.find?_toList] at e
  unfold PySem.W.lookIn
  rw [hd]
  dsimp only
  split
  · rename_i y q
    rw [q] at e
    exact congrArg some e
  · rename_i q
    rw [q] at e
    have a : es.toList.any (·.refKey) = false := by
      rw [List.any_eq_false]
      intro y hy
      obtain ⟨z, t, hkey⟩ := hk y (Array.mem_toList_iff.mp hy)
      simp [DictEntry.refKey, hkey]
    have a' : ¬ es.toList.any (·.refKey) = true := by rw [a]; exact Bool.false_ne_true
    rw [if_neg a']
    exact congrArg some e

theorem ObjM.look {h : Heap} {x dx C : Addr} {mA : Str → Option Value} (I : ObjM h x dx C mA) : ∃ od, PySem.W.InstAt h x (PySem.W.instObj C dx) C (some od) ∧ ∀ name, PySem.W.lookIn name od = some (mA name) :=
  let ⟨od, ho, hl⟩ := lookIn_ns I.ns
  ⟨od, ⟨I.obj, rfl, rfl, ho⟩, hl⟩

section
variable {prog : Program} {w : World} {A : Around} {E : Value → Shared → Prop} {s : Shared} {K : PySem.W.Frag} {x dx C f : Addr} {mA : Str → Option Value} {name : Str} {v : Value}

end

/-! ### the attributes as a list of pairs -/
section
variable {P : Program} {w : World} {H H' : Hp} {h h' : Heap} {a C dx : Addr} {fs fs' : List (Str × V)}
theorem ins_get (hok : HOk P w H h) (e : H a = some (.ins C dx fs)) : ∃ mA, ObjM h a dx C mA ∧ (∀ f, RelO (fs.lookup f) (mA f)) ∧ PySem.Within mA (fs.map (·.1)) ∧ fs.length ≤ 1000 ∧ H dx = some (.own a) := by
  obtain ⟨d, z, ne, ob, mA, n, r, q⟩ := (show ObjOk P w H h a (.ins C dx fs) from hok a _ e)
  exact ⟨mA, ⟨ob, n, ne⟩, r, q, z, d⟩
end

/-! ### what of the text a class must have -/
structure Cls (K : PySem.W.Frag) (C : Addr) : Prop where
  pg : PySem.W.plainGet K C Str.empty = true
  hd : PySem.W.hasDictIn K C = true
  po : PySem.W.plainOver K C = true
  sa : PySem.W.findIn K (.ref C) "__setattr__" = some (some (.builtin "object.__setattr__"))
theorem Cls.get {K : PySem.W.Frag} {C : Addr} (c : Cls K C) (f : Str) : PySem.W.plainGet K C f = true := c.pg
/-- a constant of the class -/
structure Con (K : PySem.W.Frag) (C : Addr) (f : Str) (v : V) (u : Value) : Prop where
  at_ : PySem.W.findIn K (.ref C) f = some (some u)
  rel : RelV v u
  get : PySem.W.specialIn K u "__get__" = some none
  cp : PySem.W.copiedNames.contains f = false
/-- a method: a plain def of the class or of one above it -/
structure Meth (K : PySem.W.Frag) (C : Addr) (m : Str) (f : Addr) : Prop where
  at_ : PySem.W.findIn K (.ref C) m = some (some (.ref f))
  fn : PySem.W.isFn K (.ref f) = true
  kp : PySem.W.keepIn K (.ref f) = true

section
variable {X : Cx} {pins : List (Addr × Obj)} {σ : St} {H : Hp} {s : Shared} {a C dx : Addr} {fs : List (Str × V)} {f : Str} {v : V} {A : Around} {E : Value → Shared → Prop}

/-- a new instance, tracked, without attributes -/
theorem Inv.made (I : Inv X pins σ H s) : Inv X pins σ (upd (upd H s.heap.objs.size (.own (s.heap.objs.size + 1))) (s.heap.objs.size + 1) (.ins C s.heap.objs.size []))
    { s with heap := (s.heap.push PySem.W.emptyDict).push (PySem.W.instObj C s.heap.objs.size) } := by
  have e1 : (s.heap.push PySem.W.emptyDict).get? s.heap.objs.size = some PySem.W.emptyDict := Heap.get?_push_size s.heap rfl
  have e2 : ((s.heap.push PySem.W.emptyDict).push (PySem.W.instObj C s.heap.objs.size)).get? (s.heap.objs.size + 1) = some (PySem.W.instObj C s.heap.objs.size) := by
    have := Heap.get?_push_size (s.heap.push PySem.W.emptyDict) (o := PySem.W.instObj C s.heap.objs.size) rfl
    rwa [Heap.size_push] at this
  have e3 : (s.heap.push PySem.W.emptyDict).Ns s.heap.objs.size (fun _ => none) := ⟨PySem.W.emptyDict, #[], _, e1, rfl, (fun e he => absurd he (by simp)), fun _ => rfl⟩
  have I1 := I.laid (a := s.heap.objs.size) (o := .own (s.heap.objs.size + 1)) (h' := s.heap.push PySem.W.emptyDict) (t' := s.toks) (fun b u q => Heap.get?_push_of_some _ q) (Nat.le_refl _) ⟨_, e1⟩
  refine I1.laid (a := s.heap.objs.size + 1) (o := .ins C s.heap.objs.size []) (t' := s.toks) (fun b u q => Heap.get?_push_of_some _ q) (Nat.le_of_eq (Heap.size_push _ _)) ?_
  have ne : s.heap.objs.size ≠ s.heap.objs.size + 1 := Nat.ne_of_lt (Nat.lt_succ_self _)
  refine ⟨by rw [upd_ne ne, upd_same], Nat.zero_le _, ne, e2, fun _ => none, (Heap.Ns1.of_empty e3).at fun o q => Heap.get?_push_of_some _ q, fun _ => True.intro, fun y hy => absurd rfl hy⟩

end

/-! ### readings and rules -/
section
variable {X : Cx} {o e value : Expr} {f : Str} {pos pos' tpos : Pos} {ta tv : TE}
end

/-! ### isinstance -/
section
variable {X : Cx} {pins : List (Addr × Obj)} {σ : St} {H : Hp} {s : Shared} {A : Around} {E : Value → Shared → Prop} {Q : Value → Shared → Prop} {c : Value} {b : Bool}
/-- the type of a value, as the fragment's deciders take it; for an instance its class -/
inductive TyOf (K : PySem.W.Frag) (H : Hp) : V → Value → Prop where
  | non : TyOf K H .non (.type "NoneType")
  | bl (x : Bool) : TyOf K H (.bl x) (.type "bool")
  | int (i : Int) : TyOf K H (.int i) (.type "int")
  | str (x : Str) : TyOf K H (.str x) (.type "str")
  | flt (x : UInt64) : TyOf K H (.flt x) (.type "float")
  | lst {a : Addr} {xs : List V} (e : H a = some (.lst xs)) : TyOf K H (.ref a) (.type "list")
  | frz {a : Addr} {o : Obj} {xs : List V} (e : H a = some (.frz o (.lst xs))) : TyOf K H (.ref a) (.type "list")
  | tup {a : Addr} {xs : List V} (e : H a = some (.tup xs)) : TyOf K H (.ref a) (.type "tuple")
  | dK {a : Addr} {kvs : List (Key × V)} (e : H a = some (.dK kvs)) : TyOf K H (.ref a) (.type "dict")
  | dT {a : Addr} {kvs : List (List Key × V)} (e : H a = some (.dT kvs)) : TyOf K H (.ref a) (.type "dict")
  | ins {a C dx : Addr} {fs : List (Str × V)} (e : H a = some (.ins C dx fs)) (cl : Cls K C) (ha : PySem.W.findIn K (.ref C) "__class__" = some (some (.builtin "object.__class__")))
      (hn : PySem.W.specialIn K (.builtin "object.__class__") "__get__" = some (some (.builtin "getset_descriptor.__get__"))) (htk : PySem.W.takesIn K (.builtin "object.__class__") = some true)
      (hm : PySem.W.mroIn K C (.type "object") = some true) : TyOf K H (.ref a) (.ref C)
/-- isinstance(x, c) for one class c, a built-in or an own one: kitOne's answer -/
theorem isinst_ok {x : V} {u t : Value} (I : Inv X pins σ H s) (rx : RelV x u) (ty : TyOf X.K H x t) (e : PySem.W.kitOne X.K t c = some b) (h : ∀ tk, Q (.bool b) { s with toks := tk }) :
    wpAny (model X.prog X.w) A (call (.builtin "isinstance") [u, c]) Q E s := by
  cases ty with
  | non => cases (show u = Value.none from rx); exact PySem.W.kia_one PySem.W.kitx_none I.kIn True.intro e (fun z => nomatch z) h
  | bl y => cases (show u = Value.bool y from rx); exact PySem.W.kia_one PySem.W.kitx_bool I.kIn True.intro e (fun z => nomatch z) h
  | int i => obtain ⟨t, q⟩ := (show ∃ t, u = Value.int i t from rx); cases q; exact PySem.W.kia_one PySem.W.kitx_int I.kIn True.intro e (fun z => nomatch z) h
  | str y => obtain ⟨t, q⟩ := (show ∃ t, u = Value.str y t from rx); cases q; exact PySem.W.kia_one PySem.W.kitx_str I.kIn True.intro e (fun z => nomatch z) h
  | flt y => obtain ⟨t, q⟩ := (show ∃ t, u = Value.float y t from rx); cases q; exact PySem.W.kia_one PySem.W.kitx_float I.kIn True.intro e (fun z => nomatch z) h
  | @lst a xs ea =>
    cases (show u = Value.ref a from rx)
    obtain ⟨_, _, n, _, h1⟩ := (show ObjOk X.prog X.w H s.heap a (.lst xs) from I.hok a _ ea)
    exact PySem.W.kia_one PySem.W.kitx_list I.kIn ⟨_, h1, rfl⟩ e (fun z => nomatch z) h
  | @frz a ob xs ea =>
    cases (show u = Value.ref a from rx)
    obtain ⟨_, _, _, n, _, h1⟩ := (show ObjOk X.prog X.w H s.heap a (.frz ob (.lst xs)) from I.hok a _ ea)
    exact PySem.W.kia_one PySem.W.kitx_list I.kIn ⟨_, h1, rfl⟩ e (fun z => nomatch z) h
  | @tup a xs ea =>
    cases (show u = Value.ref a from rx)
    obtain ⟨_, _, _, p⟩ := (show ObjOk X.prog X.w H s.heap a (.tup xs) from I.hok a _ ea)
    obtain ⟨o, h1, h2, _⟩ := p
    exact PySem.W.kia_one PySem.W.kitx_tuple I.kIn ⟨o, h1, h2⟩ e (fun z => nomatch z) h
  | @dK a kvs ea =>
    cases (show u = Value.ref a from rx)
    obtain ⟨_, _, vs, _, p⟩ := (show ObjOk X.prog X.w H s.heap a (.dK kvs) from I.hok a _ ea)
    obtain ⟨o, es, ep, h1, h2, _⟩ := p
    exact PySem.W.kia_one PySem.W.kitx_dict I.kIn ⟨o, h1, h2.1⟩ e (fun z => nomatch z) h
  | @dT a kvs ea =>
    cases (show u = Value.ref a from rx)
    obtain ⟨_, _, xs, _, o, es, ep, h1, h2, _⟩ := (show ObjOk X.prog X.w H s.heap a (.dT kvs) from I.hok a _ ea)
    exact PySem.W.kia_one PySem.W.kitx_dict I.kIn ⟨o, h1, h2.1⟩ e (fun z => nomatch z) h
  | @ins a C dx fs ea cl ha hn htk hm =>
    cases (show u = Value.ref a from rx)
    obtain ⟨mA, O, _⟩ := ins_get I.hok ea
    obtain ⟨od, J, _⟩ := O.look
    exact PySem.W.kia_one (PySem.W.kitx_own (cl.get _) cl.hd ha hn htk hm) I.kIn J e (fun z => nomatch z) h
end
end L2

namespace L2
open PySem PySem.Spec PyProof.Rows

/-! ### room -/
structure Room (k : Nat) (A : Around) : Prop where
  hd : A.handled = none
  dp : A.depth + 3 * k + 5 < recursionLimit
  un : A.units + 16 * k + 200 < cLine
theorem Room.mono {j k : Nat} {A : Around} (r : Room k A) (h : j ≤ k) : Room j A := ⟨r.hd, by have := r.dp; omega, by have := r.un; omega⟩
theorem Room.deeper {k : Nat} {A : Around} (r : Room (k + 1) A) (env : Env) : Room k (A.deeper env) :=
  ⟨r.hd, by have := r.dp; show A.depth + 1 + 3 * k + 5 < _; omega, by have := r.un; show A.units + 3 + 16 * k + 200 < _; omega⟩
theorem Room.in1 {k : Nat} {A : Around} (r : Room (k + 1) A) : Room k A.in1 :=
  ⟨r.hd, by have := r.dp; show A.depth + 3 * k + 5 < _; omega, by have := r.un; show A.units + 1 + 16 * k + 200 < _; omega⟩
theorem Room.depth {k : Nat} {A : Around} (r : Room k A) : A.depth < recursionLimit := by have := r.dp; omega
theorem Room.units {k : Nat} {A : Around} (r : Room k A) : A.units + 64 < cLine := by have := r.un; omega
theorem Room.units0 {k : Nat} {A : Around} (r : Room k A) : A.units < cLine := by have := r.un; omega

/-! ### argument lists and displays -/
def tNil : TA := fun _ H Q => Q [] H
def tCons (ta : TE) (tr : TA) : TA := fun σ H Q => ta σ H fun x H1 => tr σ H1 fun xs H2 => Q (x :: xs) H2
section
variable {X : Cx} {e : Expr} {es : List Expr} {te : TE} {t : TA} {pos : Pos}
theorem pa_nil : PA X [] tNil := fun _ _ _ _ H Q I h => Calls.spliced_nil ⟨[], H, I, .nil, h⟩
theorem pa_cons (ha : PE X e te) (hr : PA X es t) (hs : starEach (e :: es) X.env = (false, eval e X.env) :: starEach es X.env := by rfl) : PA X (e :: es) (tCons te t) := by
  intro pos pins s σ H Q I h
  rw [hs]
  show wpAny _ _ (spliced ((false, eval e X.env) :: backTo pos (starEach es X.env))) _ _ s
  refine Calls.spliced_cons (thn (ha pins s σ H _ I h) fun u s1 ⟨x, H1, I1, r1, q1⟩ => ?_)
  exact thn (hr pos pins s1 σ H1 _ I1 q1) fun us s2 ⟨xs, H2, I2, r2, q2⟩ => ⟨x :: xs, H2, I2, .cons r1 r2, q2⟩

/-- a tuple, a list of written items -/
def tTup (t : TA) : TE := fun σ H Q => t σ H fun xs H1 => xs.length ≤ sizeLine ∧ ∀ p, H1 p = none → Q (.ref p) (upd H1 p (.tup xs))
def tLst (t : TA) : TE := fun σ H Q => t σ H fun xs H1 => xs.length ≤ sizeLine ∧ ∀ p, H1 p = none → Q (.ref p) (upd H1 p (.lst xs))
theorem pe_tup {x1} (h : PA X es t) : PE X (.Tuple es x1 pos) (tTup t) := by
  intro pins s σ H Q I hq
  refine wpAny_Tuple_spliced (thn (h pos pins s σ H _ I hq) fun us s1 ⟨xs, H1, I1, r, z, q⟩ => ⟨by rw [← r.length]; exact z, ?_⟩)
  have hf : H1 s1.heap.objs.size = none := I1.hok.fresh (Nat.le_refl _)
  refine ⟨.ref s1.heap.objs.size, upd H1 s1.heap.objs.size (.tup xs), I1.laid (t' := s1.toks) (fun b u e => Heap.get?_push_of_some _ e) (Nat.le_refl _) ?_, rfl, q _ hf⟩
  exact ⟨z, us, r, ⟨_, Heap.get?_push_size _ rfl, rfl, _, rfl⟩⟩
theorem pe_lst (h : PA X es t) : PE X (.List es pos) (tLst t) := by
  intro pins s σ H Q I hq
  refine wpAny_List_spliced (thn (h pos pins s σ H _ I hq) fun us s1 ⟨xs, H1, I1, r, z, q⟩ => ⟨by rw [← r.length]; exact z, ?_⟩)
  have hf : H1 s1.heap.objs.size = none := I1.hok.fresh (Nat.le_refl _)
  refine ⟨.ref s1.heap.objs.size, upd H1 s1.heap.objs.size (.lst xs), I1.laid (t' := s1.toks) (fun b u e => Heap.get?_push_of_some _ e) (Nat.le_refl _) ?_, rfl, q _ hf⟩
  exact ⟨z, us, 0, r, Heap.get?_push_size _ rfl⟩
end

/-! ### what a def promises -/
/-- a def's promise: the bound arguments in the parameters' order, the heap, the wanted end, the wanted exception -/
abbrev Sp := List V → Hp → VK → XK → Prop
/-- how an exception lies behind a call (file 08 gives it): the callers' frames, abstract heap and state ahead of the call, the wish, the exception, the state -/
abbrev CXT := List Env → Hp → Shared → XK → Value → Shared → Prop

/-- the state at a call -/
structure Env0 (P : Program) (w : World) (K : PySem.W.Frag) (mg : Str → Option Value) (base : Heap) (A : Around) (outer : List Env) (s : Shared) (H : Hp) : Prop where
  frames : A.frames = some outer
  mod : Mod K mg base
  bs : ∀ b o, base.get? b = some o → s.heap.get? b = some o ∧ H b = none
  bsz : base.objs.size ≤ s.heap.objs.size
  funs : s.heap.FunFrames base outer
  frf : ∀ b ∈ frs outer, H b = none
  hok : HOk P w H s.heap
  bare : AllBare s.gens
/-- a call's end -/
def CE (outer : List Env) (P : Program) (w : World) (H : Hp) (s : Shared) (Q : VK) (u : Value) (s' : Shared) : Prop :=
  ∃ v H', s'.os = s.os ∧ AllBare s'.gens ∧ Un (frs outer) [] H H' s.heap s'.heap ∧ HOk P w H' s'.heap ∧ RelV v u ∧ Q v H'
def CR (CX : CXT) (outer : List Env) (P : Program) (w : World) (H : Hp) (s : Shared) (Q : VK) (E : XK) (r : Result) (s' : Shared) : Prop :=
  match r with
  | .ok (.ret u) => CE outer P w H s Q u s'
  | .ok _ => False
  | .error e => CX outer H s E e s'
structure FnOk (P : Program) (w : World) (K : PySem.W.Frag) (mg : Str → Option Value) (base : Heap) (CX : CXT) (k : Nat) (f : Addr) (fd : FuncData) (ps : List Str) (sp : Sp) : Prop where
  len : ∀ vs H Q E, sp vs H Q E → vs.length = ps.length
  run : ∀ (A : Around) (outer : List Env) (s : Shared) (H : Hp) (args : Args) (us : List Value) (vs : List V) (Q : VK) (E : XK), Room k A → Env0 P w K mg base A outer s H → BindsTo s fd args (ps.zip us) → Vals vs us → sp vs H Q E →
    codeAny (model P w) A (.call (.ref f) args) (CR CX outer P w H s Q E) s
theorem FnOk.mono {P : Program} {w : World} {K : PySem.W.Frag} {mg : Str → Option Value} {base : Heap} {CX : CXT} {j k : Nat} {f : Addr} {fd : FuncData} {ps : List Str} {sp : Sp} (F : FnOk P w K mg base CX j f fd ps sp) (h : j ≤ k) :
    FnOk P w K mg base CX k f fd ps sp := ⟨F.len, fun A outer s H args us vs Q E hr => F.run A outer s H args us vs Q E (hr.mono h)⟩
/-- a weaker promise -/
theorem FnOk.imp {P : Program} {w : World} {K : PySem.W.Frag} {mg : Str → Option Value} {base : Heap} {CX : CXT} {k : Nat} {f : Addr} {fd : FuncData} {ps : List Str} {sp sp' : Sp} (F : FnOk P w K mg base CX k f fd ps sp)
    (h : ∀ vs H Q E, sp' vs H Q E → sp vs H Q E) : FnOk P w K mg base CX k f fd ps sp' :=
  ⟨fun vs H Q E q => F.len vs H Q E (h _ _ _ _ q), fun A outer s H args us vs Q E hr he hb hv hs => F.run A outer s H args us vs Q E hr he hb hv (h _ _ _ _ hs)⟩

theorem Env0.in1 {P : Program} {w : World} {K : PySem.W.Frag} {mg : Str → Option Value} {base : Heap} {A : Around} {outer : List Env} {s : Shared} {H : Hp} (e : Env0 P w K mg base A outer s H) :
    Env0 P w K mg base A.in1 outer s H := ⟨e.frames, e.mod, e.bs, e.bsz, e.funs, e.frf, e.hok, e.bare⟩

section
variable {X : Cx} {pins : List (Addr × Obj)} {σ : St} {H : Hp} {s s' : Shared}
/-- from a body: what a callee wants -/
theorem Inv.env0 (I : Inv X pins σ H s) : Env0 X.prog X.w X.K X.mg X.base X.A X.stack s H :=
  ⟨I.ok.frames, I.ok.mod, I.bs, Nat.le_trans I.ok.bsz I.sz, I.stack, I.stkFree, I.hok, I.bare⟩
/-- behind a call -/
theorem Inv.after {Q : VK} {u : Value} (I : Inv X pins σ H s) (h : CE X.stack X.prog X.w H s Q u s') : EP X pins σ Q u s' := by
  obtain ⟨v, H', os, bare, un, hok, r, q⟩ := h
  obtain ⟨hh, g, d, t, os'⟩ := s'
  obtain rfl : os' = s.os := os
  exact ⟨v, H', I.call (h' := hh) (g' := g) (d' := d) (t' := t) (ch := []) un hok bare (fun b z => absurd z (by simp)), r, q⟩
end

/-! ### calls -/
/-- f(..): the written arguments, then the defaults dvs; E: what is wanted of an exception -/
def tCall (sp : Sp) (dvs : List V) (E : XK) (t : TA) : TE := fun σ H Q => t σ H fun vs H1 => sp (vs ++ dvs) H1 Q E
/-- how the parameters are bound: us the positional arguments, kw the keywords' values by name, ds the defaults that fill up -/
def Binds (K : PySem.W.Frag) (fd : FuncData) (ps : List Str) (ds : List Value) : Prop :=
  ∀ (s : Shared) (us : List Value), K.In s.heap → (us ++ ds).length = ps.length → BindsTo s fd ⟨us, []⟩ (ps.zip (us ++ ds))
/-- every parameter is given -/
theorem Binds.all {K : PySem.W.Frag} {fd : FuncData} {ps : List Str} (h : ∀ us : List Value, us.length = ps.length → bindArgs fd ⟨us, []⟩ = pure (ps.zip us)) : Binds K fd ps [] := fun s us _ hl => by
  rw [List.append_nil] at hl ⊢
  exact .of_eq (h us hl)

/-- an exception of a callee reaches what this body wants of exceptions -/
def Passes (CX : CXT) (X : Cx) (E : XK) : Prop := ∀ (pins : List (Addr × Obj)) (σ : St) (H : Hp) (s : Shared) (e : Value) (s' : Shared), Inv X pins σ H s → CX X.stack H s E e s' → X.xe e s'

section
variable {X : Cx} {CX : CXT} {k : Nat} {f C : Addr} {fd : FuncData} {ps : List Str} {sp : Sp} {dvs : List V} {ds : List Value} {E : XK} {x m : Str} {p pos apos : Pos} {e o : Expr} {es : List Expr} {ta : TE} {t : TA}

/-- the callee runs -/
theorem run_fn {pins : List (Addr × Obj)} {σ : St} {H : Hp} {s : Shared} {Q : VK} {us : List Value} {vs : List V} (F : FnOk X.prog X.w X.K X.mg X.base CX k f fd ps sp) (hr : Room k X.A) (hb : Binds X.K fd ps ds) (hd : Vals dvs ds) (hx : Passes CX X E)
    (I : Inv X pins σ H s) (r : Vals vs us) (h : sp (vs ++ dvs) H Q E) : wpAny (model X.prog X.w) X.A (call (.ref f) us) (EP X pins σ Q) X.xe s := by
  have r2 : Vals (vs ++ dvs) (us ++ ds) := r.append hd
  have hl : (us ++ ds).length = ps.length := by rw [← r2.length]; exact F.len _ _ _ _ h
  refine wpAny_call (codeAny_mono (F.run X.A X.stack s H ⟨us, []⟩ (us ++ ds) (vs ++ dvs) Q E hr I.env0 (hb s us I.kIn hl) r2 h) fun r s' hq => ?_)
  cases r with
  | error e => exact hx pins σ H s e s' I hq
  | ok fl =>
    cases fl with
    | ret u => exact I.after hq
    | next => exact False.elim hq
    | brk => exact False.elim hq
    | cont => exact False.elim hq

theorem pe_call (F : FnOk X.prog X.w X.K X.mg X.base CX k f fd ps sp) (hr : Room k X.A) (hg : Gl X x) (hm : X.mg x = some (.ref f)) (hk : PySem.W.keepIn X.K (.ref f) = true) (hb : Binds X.K fd ps ds) (hd : Vals dvs ds) (hx : Passes CX X E)
    (ha : PA X (e :: es) t) (hdb : (x == ("__debug__" : Str)) = false := by decide) (he : starEach (e :: es) X.env = (false, eval e X.env) :: starEach es X.env := by rfl) (hpl : (backTo pos (starEach es X.env)).any (·.1) = false := by rfl) :
    PE X (.Call (.Name x p) (e :: es) [] pos) (tCall sp dvs E t) := by
  intro pins s σ H Q I h
  refine wpAny_Call_Name_kw (ld_glob I hg hm ?_ hdb)
  refine PySem.W.callWith_K (h₀ := X.base) I.ok.mod.kin hk (thn (ha pos pins s σ H _ I h) fun us s1 ⟨vs, H1, I1, r, q⟩ => ⟨I1.kIn, ?_⟩) he hpl
  exact run_fn F hr hb hd hx I1 r q
/-- what a class must have to be made -/
structure Mk (K : PySem.W.Frag) (C f : Addr) : Prop where
  makes : PySem.W.makesIn K C = true
  init : PySem.W.findIn K (.ref C) "__init__" = some (some (.ref f))
  fn : PySem.W.isFn K (.ref f) = true
  kp : PySem.W.keepIn K (.ref C) = true

end

/-! ### keywords -/
/-- the values of the keywords, from the left -/
def PK (X : Cx) (kws : List Keyword) (t : TA) : Prop :=
  ∀ (pos : Pos) (pins : List (Addr × Obj)) (s : Shared) (σ : St) (H : Hp) (Q : List V → Hp → Prop), Inv X pins σ H s → t σ H Q → wpAny (model X.prog X.w) X.A (evalAll ((backToKw pos (keywordEach kws X.env)).map (·.2))) (AP X pins σ Q) X.xe s
section
variable {X : Cx} {CX : CXT} {k : Nat} {f C : Addr} {fd : FuncData} {ps ks : List Str} {sp : Sp} {E : XK} {x m : Str} {p pos apos kpos : Pos} {e o : Expr} {es : List Expr} {kws : List Keyword} {te ta : TE} {t tk : TA} {nm : Option Str}
theorem pk_nil : PK X [] tNil := fun _ _ _ _ H Q I h => wpAny_evalAll_nil ⟨[], H, I, .nil, h⟩
theorem pk_cons (ha : PE X e te) (hr : PK X kws t) : PK X (⟨nm, e, kpos⟩ :: kws) (tCons te t) := by
  intro pos pins s σ H Q I h
  show wpAny _ _ (evalAll ((do let v ← eval e X.env; standAt pos; pure v) :: (backToKw pos (keywordEach kws X.env)).map (·.2))) _ _ s
  refine wpAny_evalAll_cons (wpAny_bind (thn (ha pins s σ H _ I h) fun u s1 ⟨x, H1, I1, r1, q1⟩ => wpAny_bind (wpAny_standAt (wpAny_pure ?_))))
  exact thn (hr pos pins s1 σ H1 _ I1 q1) fun us s2 ⟨xs, H2, I2, r2, q2⟩ => ⟨x :: xs, H2, I2, .cons r1 r2, q2⟩

/-- how a call with keywords binds: g puts the positional values us and the keywords' values ws (names ks) in the parameters' order, defaults among them -/
structure KBinds (K : PySem.W.Frag) (fd : FuncData) (ps ks : List Str) (g : List Value → List Value → List Value) (gV : List V → List V → List V) : Prop where
  to : ∀ (s : Shared) (us ws : List Value), K.In s.heap → (g us ws).length = ps.length → BindsTo s fd ⟨us, ks.zip ws⟩ (ps.zip (g us ws))
  rel : ∀ {vs : List V} {us : List Value} {zs : List V} {ws : List Value}, Vals vs us → Vals zs ws → Vals (gV vs zs) (g us ws)
variable {g : List Value → List Value → List Value} {gV : List V → List V → List V}
end

/-! ### a def's body keeps its promise -/
/-- names: the parameters first -/
structure FnScope (N P : List Str) (sc : Scope) : Prop where
  kind : sc.kind = .function
  co : sc.isCoroutine = false
  gen : sc.isGenerator = false
  nd : N.Nodup
  pre : N.take P.length = P
  par : ∀ x ∈ P, sc.names.lookup x = some .local ∨ sc.names.lookup x = some .cell
  nofree : ∀ y ∈ sc.names, y.2 ≠ .free

theorem bindL_out {kindOf : Str → Option NameKind} {x : Str} : ∀ {binds : List (Str × Value)} {m : Str → Option Value}, (∀ v, (x, v) ∉ binds) → bindL kindOf binds m x = m x
  | [], _, _ => rfl
  | (n, v) :: r, m, h => by
    unfold bindL
    rw [bindL_out fun w hw => h w (List.mem_cons_of_mem _ hw)]
    split
    · have : x ≠ n := by rintro rfl; exact h v List.mem_cons_self
      simp [this]
    · rfl
theorem bindC_out {kindOf : Str → Option NameKind} {x : Str} : ∀ {binds : List (Str × Value)} {m : Str → Option Value}, (∀ v, (x, v) ∉ binds) → bindC kindOf binds m x = m x
  | [], _, _ => rfl
  | (n, v) :: r, m, h => by
    unfold bindC
    rw [bindC_out fun w hw => h w (List.mem_cons_of_mem _ hw)]
    split
    · rfl
    · have : x ≠ n := by rintro rfl; exact h v List.mem_cons_self
      simp [this]
theorem bindL_get {kindOf : Str → Option NameKind} {x : Str} {v : Value} : ∀ {P : List Str} {vs : List Value} {i : Nat} {m : Str → Option Value}, P.Nodup → P[i]? = some x → vs[i]? = some v → kindOf x = some .local →
    bindL kindOf (P.zip vs) m x = some v
  | [], _, _, _, _, h, _, _ => by simp at h
  | _ :: _, [], _, _, _, _, h, _ => by simp at h
  | p :: P, w :: vs, 0, m, nd, h1, h2, hk => by
    simp at h1 h2; subst h1; subst h2
    show bindL kindOf ((p, w) :: P.zip vs) m p = _
    unfold bindL
    rw [bindL_out fun v hv => (List.nodup_cons.mp nd).1 (List.of_mem_zip hv).1, if_pos hk]
    simp
  | p :: P, w :: vs, i + 1, m, nd, h1, h2, hk => by
    show bindL kindOf ((p, w) :: P.zip vs) m x = _
    unfold bindL
    exact bindL_get (i := i) (List.nodup_cons.mp nd).2 (by simpa using h1) (by simpa using h2) hk
theorem bindC_get {kindOf : Str → Option NameKind} {x : Str} {v : Value} : ∀ {P : List Str} {vs : List Value} {i : Nat} {m : Str → Option Value}, P.Nodup → P[i]? = some x → vs[i]? = some v → kindOf x ≠ some .local →
    bindC kindOf (P.zip vs) m x = some v
  | [], _, _, _, _, h, _, _ => by simp at h
  | _ :: _, [], _, _, _, _, h, _ => by simp at h
  | p :: P, w :: vs, 0, m, nd, h1, h2, hk => by
    simp at h1 h2; subst h1; subst h2
    show bindC kindOf ((p, w) :: P.zip vs) m p = _
    unfold bindC
    rw [bindC_out fun v hv => (List.nodup_cons.mp nd).1 (List.of_mem_zip hv).1, if_neg hk]
    simp
  | p :: P, w :: vs, i + 1, m, nd, h1, h2, hk => by
    show bindC kindOf ((p, w) :: P.zip vs) m x = _
    unfold bindC
    exact bindC_get (i := i) (List.nodup_cons.mp nd).2 (by simpa using h1) (by simpa using h2) hk

/-- the names' values at the entry -/
def start (N : List Str) (vs : List V) : St := vs.map some ++ List.replicate (N.length - vs.length) none

/-- the context of a def's body, at its entry; an exception leaves the frame, then lies as CX says -/
def cxOf (CX : CXT) (P : Program) (w : World) (K : PySem.W.Frag) (mg : Str → Option Value) (base : Heap) (N : List Str) (qual : Str) (scope : Scope) (f : Addr) (cd : Value) (A : Around) (outer : List Env) (s : Shared) (H : Hp) (E : XK) : Cx where
  prog := P
  w := w
  K := K
  mg := mg
  base := base
  A := A.deeper (envOfC qual scope s.heap.objs.size f cd)
  N := N
  s₀ := s
  H₀ := H
  env := envOfC qual scope s.heap.objs.size f cd
  outer := outer
  stack := envOfC qual scope s.heap.objs.size f cd :: outer
  ex := []
  calm := true
  fn := fun _ => true
  pn := []
  xe := fun e s' => wpAny (model P w) (A.deeper (envOfC qual scope s.heap.objs.size f cd)) (leaving (envOfC qual scope s.heap.objs.size f cd) e) (fun _ s'' => CX outer H s E e s'') (fun e' s'' => CX outer H s E e' s'') s'

theorem cell_has {sc : Scope} {n : Nat} {x : Str} (h : sc.names.lookup x = some .cell) : ∃ c, (cellsFrom n sc.names []).lookup x = some c := by
  have q := PySem.W.cellsFrom_some sc.names n [] (.inl h)
  exact Option.isSome_iff_exists.mp q

theorem inv_start {CX : CXT} {P : Program} {w : World} {K : PySem.W.Frag} {mg : Str → Option Value} {base : Heap} {N ps : List Str} {qual : Str} {scope : Scope} {f : Addr} {cd : Value} {A : Around} {outer : List Env} {s s1 : Shared} {H : Hp} {E : XK} {us : List Value} {vs : List V}
    (S : FnScope N ps scope) (hd : A.handled = none) (e0 : Env0 P w K mg base A outer s H) (hl : vs.length = ps.length) (r : Vals vs us)
    (x : InCallC s s.heap.objs.size (bindL (envOfC qual scope s.heap.objs.size f cd).kindOf (ps.zip us) fun _ => none) (cellsFrom (s.heap.objs.size + 1) scope.names []) (bindC (envOfC qual scope s.heap.objs.size f cd).kindOf (ps.zip us) fun _ => none) s1) :
    Inv (cxOf CX P w K mg base N qual scope f cd A outer s H E) [] (start N vs) H s1 := by
  have hpl : ps.length ≤ N.length := by have := congrArg List.length S.pre; rw [List.length_take] at this; omega
  obtain ⟨h1, tk, rfl, hk⟩ := x.done
  have noA : ∀ b : Addr, b ∉ (cxOf CX P w K mg base N qual scope f cd A outer s H E).ex := fun b z => absurd (show b ∈ ([] : List Addr) from z) (by simp)
  refine ⟨⟨e0.mod, S.kind, rfl, rfl, Nat.le_refl _, fun y z c h1 h2 => ?_, fun y hy => ?_, fun y c _ h => ?_, fun _ => hd, Around.frames_deeper e0.frames, .inr ⟨rfl, rfl⟩, fun b z => absurd z (noA b), e0.bs, e0.bsz, fun b _ _ => noA b, fun b z => absurd z (noA b), e0.funs, e0.frf⟩,
    rfl, e0.bare, Un.kept hk, ⟨_, x.toInCall.ns, fun i y v h1 h2 h3 => ?_⟩, fun y c h => ⟨_, x.cell y c h⟩, e0.hok.fresh (Nat.le_refl _), fun y c h => ?_, fun p hp => absurd (show p ∈ ([] : List (Addr × Obj)) from hp) (by simp), e0.hok.kept hk, ?_⟩
  · exact name_of_addr x.apart (PySem.mem_of_lookup h1) (PySem.mem_of_lookup h2)
  · have hy : scope.names.lookup y = some .cell ∨ scope.names.lookup y = some .free := hy
    rcases hy with hy | hy
    · exact cell_has hy
    · exact absurd rfl (S.nofree _ (PySem.mem_of_lookup hy))
  · exact Nat.le_of_lt (x.above y c (PySem.mem_of_lookup h))
  · have hi : i < vs.length := by
      unfold start at h2
      by_cases hi : i < vs.length
      · exact hi
      · rw [List.getElem?_append_right (by simpa using hi)] at h2
        rw [List.getElem?_replicate] at h2
        split at h2 <;> cases h2
    have ha : vs[i]? = some v := by
      unfold start at h2
      rw [List.getElem?_append_left (by simpa using hi), List.getElem?_map] at h2
      cases e : vs[i]? with
      | none => rw [e] at h2; cases h2
      | some a => rw [e] at h2; cases h2; rfl
    obtain ⟨u, hu, rv⟩ := r.get ha
    have hp : ps[i]? = some y := by
      rw [← S.pre, List.getElem?_take_of_lt (by omega)]; exact h1
    have ndP : ps.Nodup := by rw [← S.pre]; exact S.nd.sublist (List.take_sublist _ _)
    refine ⟨u, rv, ?_⟩
    rcases S.par y (List.mem_of_getElem? hp) with k | k
    · exact .inl ⟨k, bindL_get ndP hp hu k⟩
    · obtain ⟨c, e⟩ := cell_has (n := s.heap.objs.size + 1) k
      refine .inr ⟨.inl k, c, e, ?_⟩
      have q := x.cell y c e
      rw [bindC_get ndP hp hu (by show scope.names.lookup y ≠ _; rw [k]; decide)] at q
      exact q
  · exact e0.hok.fresh (Nat.le_of_lt (x.above y c (PySem.mem_of_lookup h)))
  · unfold start
    show _ = N.length
    rw [List.length_append, List.length_map, List.length_replicate]
    omega

/-- THE RULE: a def (or a method) of the text, by its body. The body's reading t is chosen for each entry; it is run at the parameters' values -/
theorem fn_of {CX : CXT} {P : Program} {w : World} {K : PySem.W.Frag} {mg : Str → Option Value} {base : Heap} {k : Nat} {f : Addr} {name qual : Str} {params : Arguments} {body : List Stmt} {scope : Scope} {dV kV doc pm cdv ct oc : Value} {an od : Option Addr}
    {osl : Array (Option Value)} {N ps : List Str} {sp : Sp} (lk : K.lookup f = some ⟨oc, od, .func (PySem.W.fnOf name qual params body scope dV kV doc pm an cdv ct), osl⟩) (hcd : PySem.W.codeIn K cdv qual = true) (S : FnScope N ps scope)
    (len : ∀ vs H Q E, sp vs H Q E → vs.length = ps.length)
    (hbody : ∀ (A : Around) (outer : List Env) (s : Shared) (H : Hp) (vs : List V) (Q : VK) (E : XK), Room k (A.deeper (envOfC qual scope s.heap.objs.size f cdv)) → sp vs H Q E →
      ∃ t, PSs (cxOf CX P w K mg base N qual scope f cdv A outer s H E) body t ∧ t { nx := fun _ H' => Q .non H', rt := Q } (start N vs) H) :
    FnOk P w K mg base CX (k + 1) f (PySem.W.fnOf name qual params body scope dV kV doc pm an cdv ct) ps sp := by
  refine ⟨len, fun A outer s H args us vs Q E hr e0 hb r hsp => ?_⟩
  have hl := len _ _ _ _ hsp
  have KX : K.In s.heap := e0.mod.kin.keeps fun b o e => (e0.bs b o e).1
  have lim : s.heap.NoLimit := e0.mod.nolimit.keeps fun b o e => (e0.bs b o e).1
  have hkind : ∀ y ∈ ps.zip us, scope.names.lookup y.1 = some .local ∨ (scope.names.lookup y.1 = some .cell ∧ ((cellsFrom (s.heap.objs.size + 1) scope.names []).lookup y.1).isSome = true) := fun ⟨n, v⟩ hy => by
    rcases S.par n (List.of_mem_zip hy).1 with q | q
    · exact .inl q
    · exact .inr ⟨q, PySem.W.cellsFrom_some _ _ _ (.inl q)⟩
  refine codeAny_call_function hr.depth (KX _ _ lk) rfl S.co S.gen rfl (PySem.W.codeRec_of KX hcd) (hb _ _ _ _ ?_)
  refine wpAny_newFunctionEnv_cells S.kind hkind fun env he s1 x => ?_
  subst he
  refine ⟨lim.keeps x.toInCall.keep, codeAny_func ?_⟩
  obtain ⟨t, ht, hq⟩ := hbody A outer s H vs Q E (hr.deeper _) hsp
  have I : Inv (cxOf CX P w K mg base N qual scope f cdv A outer s H E) [] (start N vs) H s1 := inv_start S hr.hd e0 hl r x
  refine wpAny_mono (ht [] s1 (start N vs) H _ I hq) (fun fl s' hs => ?_) fun e s' hs => hs
  have fin : ∀ {σ' : St} {H' : Hp} {v : V} {u : Value}, Inv (cxOf CX P w K mg base N qual scope f cdv A outer s H E) [] σ' H' s' → RelV v u → Q v H' → CE outer P w H s Q u s' :=
    fun {σ' H' v u} J rv q => ⟨v, H', J.os, J.bare, J.base, J.hok, rv, q⟩
  cases fl with
  | ret u =>
    obtain ⟨v, σ', H', J, rv, q⟩ := hs
    exact fin J rv q
  | next =>
    obtain ⟨σ', H', J, q⟩ := hs
    exact fin (v := V.non) (u := Value.none) J rfl q
  | brk =>
    obtain ⟨_, _, _, q⟩ := hs
    exact False.elim q
  | cont =>
    obtain ⟨_, _, _, q⟩ := hs
    exact False.elim q
end L2

namespace L2
open PySem PySem.Spec PyProof.Rows
section
variable {X : Cx} {x : Str} {p pos : Pos} {e : Expr} {es : List Expr} {t : TA} {id T : String} {r : List V → Hp → VK → Prop}

def tCB (r : List V → Hp → VK → Prop) (t : TA) : TE := fun σ H Q => t σ H fun vs H1 => r vs H1 Q
/-- f(e, ..), f a built-in function -/
theorem pe_callB (hc : CallR X (.builtin id) r) (hg : Gl X x) (hm : X.mg x = none) (hv : bootBuiltins x = some (.builtin id)) (ha : PA X (e :: es) t) (hn : x ≠ "__name__" := by decide) (hdb : (x == ("__debug__" : Str)) = false := by decide)
    (he : starEach (e :: es) X.env = (false, eval e X.env) :: starEach es X.env := by rfl) (hpl : (backTo pos (starEach es X.env)).any (·.1) = false := by rfl) : PE X (.Call (.Name x p) (e :: es) [] pos) (tCB r t) := by
  intro pins s σ H Q I h
  refine wpAny_Call_Name_kw (ld_blt I hg hm hv ?_ hn hdb)
  exact PyProof.Rows.callWith_builtin1 (thn (ha pos pins s σ H _ I h) fun us s1 ⟨vs, H1, I1, r1, q1⟩ => hc pins s1 σ H1 vs us Q I1 r1 q1) he hpl
/-- T(e, ..), T a built-in type -/
theorem pe_callTy (hc : CallR X (.type T) r) (hg : Gl X x) (hm : X.mg x = none) (hv : bootBuiltins x = some (.type T)) (ha : PA X (e :: es) t) (hn : x ≠ "__name__" := by decide) (hdb : (x == ("__debug__" : Str)) = false := by decide)
    (he : starEach (e :: es) X.env = (false, eval e X.env) :: starEach es X.env := by rfl) (hpl : (backTo pos (starEach es X.env)).any (·.1) = false := by rfl) : PE X (.Call (.Name x p) (e :: es) [] pos) (tCB r t) := by
  intro pins s σ H Q I h
  refine wpAny_Call_Name_kw (ld_blt I hg hm hv ?_ hn hdb)
  exact PyProof.Rows.callWith_type1 (thn (ha pos pins s σ H _ I h) fun us s1 ⟨vs, H1, I1, r1, q1⟩ => hc pins s1 σ H1 vs us Q I1 r1 q1) he hpl
end
end L2

namespace HT
open PySem PyProof.Rows

/-- t < u of tuples of ints -/
def lexLt : List Int → List Int → Bool
  | [], [] => false
  | [], _ :: _ => true
  | _ :: _, [] => false
  | x :: xs, y :: ys => if x = y then lexLt xs ys else decide (x < y)
theorem lexLt_cons (x y : Int) (xs ys : List Int) : lexLt (x :: xs) (y :: ys) = if x = y then lexLt xs ys else decide (x < y) := rfl
theorem lexLt_nil_nil : lexLt [] [] = false := rfl
section
open PySem.SeqAt
open PySem.AutoSeq1 (wpAny_loadPart')
open PySem.MeetsSeq PySem.MeetsSeq2 PySem.MeetsSeq3

end

section
variable {prog : Program} {w : World} {A : Around} {E : Value → Shared → Prop} {s : Shared}

/-- t + u, t not empty -/
theorem cat_tup {t b : Addr} {vs ws : List Value} {Q : Value → Shared → Prop} (ht : IsTup s.heap t vs.toArray) (hb : IsTup s.heap b ws.toArray) (hv : vs ≠ [])
    (h1 : ws = [] → Q (.ref t) s) (h2 : ws ≠ [] → Q (.ref s.heap.objs.size) { s with heap := s.heap.push { cls := .type "tuple", data := .seq (vs ++ ws).toArray } })
    (hsz : vs.length + ws.length ≤ sizeLine) : wpAny (model prog w) A (binaryOp .Add (.ref t) (.ref b)) Q E s := by
  obtain ⟨⟨cls, dd, data, sl⟩, ho, hc, n, hd⟩ := id ht
  obtain ⟨⟨cls2, dd2, data2, sl2⟩, ho2, hc2, n2, hd2⟩ := id hb
  simp only at hc hd hc2 hd2
  subst hc hd hc2 hd2
  have e : vs.toArray ++ ws.toArray = (vs ++ ws).toArray := by simp
  by_cases hw : ws = []
  · exact concat_meets ⟨_, ho, rfl⟩ ⟨_, ho2, rfl⟩ noFill_tuple_add seq_tuple_add PySem.F.slot_tuple_add PySem.F.entry_tuple_add (PySem.F.args_tuple_add_2 _ _)
      (tuple_addW1 t b vs.toArray ws.toArray n n2 dd dd2 sl sl2 (by simpa using hv) (by simp [hw])) ⟨ho, ho2, h1 hw⟩
  · refine concat_meets ⟨_, ho, rfl⟩ ⟨_, ho2, rfl⟩ noFill_tuple_add seq_tuple_add PySem.F.slot_tuple_add PySem.F.entry_tuple_add (PySem.F.args_tuple_add_2 _ _)
      (tuple_addW2 t b vs.toArray ws.toArray n n2 dd dd2 sl sl2 (by simpa using hv) (by simpa using hw) (by rw [List.size_toArray, List.size_toArray]; exact hsz)) ⟨ho, ho2, ?_⟩
    rw [e]
    exact h2 hw

/-! ### t[a:b], not the whole -/
/-- a slice's bound as a place among n (d where it is left out) -/
def sIx (n d : Nat) : Option Int → Nat
  | none => d
  | some v => if v < 0 then (v + (n : Int)).toNat else min v.toNat n
theorem sIx_none (n d : Nat) : sIx n d none = d := rfl
theorem sIx_nat (n d k : Nat) : sIx n d (some (k : Int)) = min k n := by
  show (if (k : Int) < 0 then ((k : Int) + (n : Int)).toNat else min (k : Int).toNat n) = min k n
  rw [if_neg (by omega), Int.toNat_natCast]
theorem sIx_le (n d : Nat) (hd : d ≤ n) (o : Option Int) : sIx n d o ≤ n := by
  cases o with
  | none => exact hd
  | some v =>
    show (if v < 0 then (v + (n : Int)).toNat else min v.toNat n) ≤ n
    by_cases hv : v < 0
    · rw [if_pos hv]; omega
    · rw [if_neg hv]; exact Nat.min_le_right _ _
theorem clip_eq (v : Int) (n d : Nat) : (if v < 0 then max (v + (n : Int)) 0 else min v (n : Int)) = ((sIx n d (some v) : Nat) : Int) := by
  show (if v < 0 then max (v + (n : Int)) 0 else min v (n : Int)) = (((if v < 0 then (v + (n : Int)).toNat else min v.toNat n) : Nat) : Int)
  by_cases hv : v < 0
  · simp only [if_pos hv]; omega
  · simp only [if_neg hv]; omega
theorem adjust_gen (lo hi : Option Int) (n : Nat) : Builtin.Slice.sliceAdjust lo hi 1 (n : Int) = (((sIx n 0 lo : Nat) : Int), ((sIx n n hi : Nat) : Int)) := by
  have h1 : ¬ ((1 : Int) < 0) := by omega
  unfold Builtin.Slice.sliceAdjust
  simp only [h1, if_false]
  refine Prod.ext ?_ ?_
  · cases lo with
    | none => rfl
    | some v => exact clip_eq v n 0
  · cases hi with
    | none => rfl
    | some v => exact clip_eq v n n
theorem places_gen (i j : Nat) : Builtin.Slice.slicePlaces (i : Int) (j : Int) 1 = j - i := by
  unfold Builtin.Slice.slicePlaces
  have h1 : (1 : Int) > 0 := by omega
  simp only [h1, if_true, Int.ediv_one]
  split <;> omega
theorem slicePart_ {v : Value} {o : Option Int} {Q : Option Int → Shared → Prop} (p : IsPart v o) (h : Q o s) : wpAny (model prog w) A (Builtin.Slice.slicePartIndex v) Q E s := by
  cases p with
  | none => exact slicePart_none h
  | int i t => exact slicePart_int h
theorem sliceApplied_gen {sl : Addr} {vl vu : Value} {lo hi : Option Int} {n : Nat} {Q : Int × Int × Nat → Shared → Prop} (hs : s.heap.IsSliceOf sl vl vu .none) (pl : IsPart vl lo) (pu : IsPart vu hi)
    (h : Q (((sIx n 0 lo : Nat) : Int), 1, sIx n n hi - sIx n 0 lo) s) : wpAny (model prog w) A (Builtin.Slice.sliceApplied (.ref sl) (pure (n : Int))) Q E s := by
  obtain ⟨os, hos, hcs, hds⟩ := id hs
  unfold Builtin.Slice.sliceApplied Builtin.Slice.sliceFields
  refine wpAny_bind (wpAny_bind (wpAny_field hos hds (x := vl) rfl (wpAny_bind (wpAny_field hos hds (x := vu) rfl (wpAny_bind (wpAny_field hos hds (x := .none) rfl (wpAny_pure ?_)))))))
  refine wpAny_bind (slicePart_none ?_)
  show wpAny _ _ (if ((1 : Int) == 0) = true then _ else _) _ _ s
  rw [if_neg (by decide)]
  refine wpAny_bind (slicePart_ pl (wpAny_bind (slicePart_ pu (wpAny_bind (wpAny_pure ?_)))))
  show wpAny _ _ (match Builtin.Slice.sliceAdjust lo hi 1 (n : Int) with | (lo, hi) => pure (lo, (1 : Int), Builtin.Slice.slicePlaces lo hi 1)) _ _ s
  rw [adjust_gen lo hi n]
  show wpAny _ _ (pure (((sIx n 0 lo : Nat) : Int), (1 : Int), Builtin.Slice.slicePlaces ((sIx n 0 lo : Nat) : Int) ((sIx n n hi : Nat) : Int) 1)) _ _ s
  rw [places_gen]
  exact wpAny_pure h
theorem pick_gen (xs : Array Value) (i k : Nat) : ((List.range k).filterMap fun (m : Nat) => xs[((i : Int) + (m : Int) * 1).toNat]?).toArray = ((xs.toList.drop i).take k).toArray := by
  have e : (fun (m : Nat) => xs[((i : Int) + (m : Int) * 1).toNat]?) = fun m => xs[i + m]? := by
    funext m
    have : ((i : Int) + (m : Int) * 1).toNat = i + m := by omega
    rw [this]
  rw [e]
  have := pick_run xs i k
  rw [List.filterMap_map] at this
  have e2 : ((fun x => xs[x]?) ∘ fun x => i + x) = fun m => xs[i + m]? := rfl
  rw [e2] at this
  rw [this]

theorem getItem_tuple_cut {t sl : Addr} {items : Array Value} {vl vu : Value} {lo hi : Option Int} {Q : Value → Shared → Prop} (ht : IsTup s.heap t items) (hs : s.heap.IsSliceOf sl vl vu .none) (pl : IsPart vl lo) (pu : IsPart vu hi)
    (hw : ¬ (sIx items.size 0 lo = 0 ∧ sIx items.size items.size hi = items.size))
    (h : Q (.ref s.heap.objs.size) { s with heap := s.heap.push { cls := .type "tuple", data := .seq ((items.toList.drop (sIx items.size 0 lo)).take (sIx items.size items.size hi - sIx items.size 0 lo)).toArray } })
    (hsz : items.size ≤ sizeLine) : wpAny (model prog w) A (getItem (.ref t) (.ref sl)) Q E s := by
  have htake : sizeOk (.seq ((items.toList.drop (sIx items.size 0 lo)).take (sIx items.size items.size hi - sIx items.size 0 lo)).toArray) := by
    show ((items.toList.drop (sIx items.size 0 lo)).take (sIx items.size items.size hi - sIx items.size 0 lo)).toArray.size ≤ sizeLine
    rw [List.size_toArray, List.length_take, List.length_drop, Array.length_toList]
    omega
  have hj : sIx items.size items.size hi ≤ items.size := sIx_le _ _ (Nat.le_refl _) hi
  obtain ⟨os, hos, hcs, hds⟩ := id hs
  have hTs : s.TypeIs (.ref sl) "slice" := ⟨os, hos, hcs⟩
  unfold getItem
  try with_reducible refine wpAny_holding ?_
  first | refine wpAny_bind (wpAny_pure ?_) | skip
  refine wpAny_bind (wpAny_sequenceKey ht.typeIs (by decide) ?_)
  refine wpAny_bind (wpAny_callSpecial?_slot (name := Str.ofString "__getitem__") ht.typeIs PyProof.Rows.slot_tuple_getitem
    (wpAny_call_entry PyProof.Rows.slot_tuple_getitem ht.typeIs entry_tuple_getitem ?_ (args_tuple_getitem _ _)))
  show wpAny _ _ (Builtin.Tuple.tupleItemsOf (.ref t) >>= _) _ _ s
  refine wpAny_bind (tupleItemsOf_ ht ?_)
  refine wpAny_bind (wpAny_typeOf hTs ?_)
  rw [if_pos (by decide)]
  refine wpAny_bind (sliceApplied_gen hs pl pu ?_)
  have hno : ¬ ((((sIx items.size 0 lo : Nat) : Int) == 0 && (1 : Int) == 1 && (sIx items.size items.size hi - sIx items.size 0 lo) == items.size) = true) := by
    intro q
    rw [Bool.and_eq_true, Bool.and_eq_true] at q
    have q1 : ((sIx items.size 0 lo : Nat) : Int) = 0 := eq_of_beq q.1.1
    have q2 : sIx items.size items.size hi - sIx items.size 0 lo = items.size := eq_of_beq q.2
    exact hw ⟨by omega, by omega⟩
  show wpAny _ _ (if (((sIx items.size 0 lo : Nat) : Int) == 0 && (1 : Int) == 1 && (sIx items.size items.size hi - sIx items.size 0 lo) == items.size) = true then _ else _) _ _ s
  rw [if_neg hno, pick_gen]
  first
    | exact wpAny_bind (m := Builtin.Tuple.tupleExact _) (wpAny_newObj_type (wpAny_pure ⟨_, rfl, wpAny_pure h⟩) htake)
    | exact wpAny_bind (m := Builtin.Tuple.tupleExact _) (wpAny_newObj_type (wpAny_bind (wpAny_pure (wpAny_pure ⟨_, rfl, wpAny_pure h⟩))) htake)
    | exact wpAny_bind (wpAny_bind (m := Builtin.Tuple.tupleExact _) (wpAny_newObj_type (wpAny_pure (wpAny_pure ⟨_, rfl, wpAny_pure h⟩)) htake))
    | exact wpAny_bind (wpAny_bind (m := Builtin.Tuple.tupleExact _) (wpAny_newObj_type (wpAny_pure ⟨_, rfl, wpAny_pure h⟩) htake))
end
end HT

namespace L2
open PySem PySem.Spec PyProof.Rows

/-! ### the parts of a slice -/
abbrev TO := St → Hp → (Option Int → Hp → Prop) → Prop
/-- a slice's part (left out, or an int) -/
def PO (X : Cx) (e : Option Expr) (t : TO) : Prop :=
  ∀ (pins : List (Addr × Obj)) (s : Shared) (σ : St) (H : Hp) (Q : Option Int → Hp → Prop), Inv X pins σ H s → t σ H Q →
    wpAny (model X.prog X.w) X.A (evalPart e X.env) (fun u s' => ∃ o H', Inv X pins σ H' s' ∧ IsPart u o ∧ Q o H') X.xe s
def tNoPart : TO := fun _ H Q => Q none H
def tPart (t : TE) : TO := fun σ H Q => t σ H fun x H1 => ∃ i, x = .int i ∧ Q (some i) H1

theorem intsAre_of {ns : List Int} : ∀ {us : List Value}, Vals (ns.map V.int) us → IntsAre us ns := by
  induction ns with
  | nil => intro us r; rw [List.map_nil] at r; cases r; exact .nil
  | cons n ns ih =>
    intro us r
    rw [List.map_cons] at r
    cases r with
    | cons r1 r2 =>
      obtain ⟨t, e⟩ := r1
      subst e
      exact .cons n t (ih r2)

section
variable {X : Cx} {e : Expr} {te : TE} {lo hi : Option Expr} {tl th : TO} {pos p2 : Pos}

theorem po_none : PO X none tNoPart := by
  intro pins s σ H Q I h
  rw [evalPart_none]
  exact wpAny_pure ⟨none, H, I, .none, h⟩
theorem po_some (h : PE X e te) : PO X (some e) (tPart te) := by
  intro pins s σ H Q I hw
  rw [evalPart_some]
  refine thn (h pins s σ H _ I hw) fun u s1 ⟨x, H1, I1, r1, q1⟩ => ?_
  obtain ⟨i, rfl, q⟩ := q1
  obtain ⟨t, rfl⟩ := r1
  exact ⟨some i, H1, I1, .int i t, q⟩

/-- what a slice of a value is, by values: the slice object stands at sl -/
def SlR (X : Cx) (r : V → Option Int → Option Int → Hp → VK → Prop) : Prop :=
  ∀ (pins : List (Addr × Obj)) (s : Shared) (σ : St) (H : Hp) (x : V) (v vl vu : Value) (lo hi : Option Int) (sl : Addr) (Q : VK), Inv X pins σ H s → RelV x v → s.heap.IsSliceOf sl vl vu .none → IsPart vl lo → IsPart vu hi → r x lo hi H Q →
    ∃ T id, typeLookup (.type T) "__getitem__" = pure (some (.builtin id)) ∧ s.TypeIs v T ∧ wpAny (model X.prog X.w) X.A (getItem v (.ref sl)) (EP X pins σ Q) X.xe s
theorem SlR.or {r r' : V → Option Int → Option Int → Hp → VK → Prop} (h : SlR X r) (h' : SlR X r') : SlR X (fun x lo hi H Q => r x lo hi H Q ∨ r' x lo hi H Q) := by
  intro pins s σ H x v vl vu lo hi sl Q I rx hs pl pu q
  rcases q with q | q
  · exact h pins s σ H x v vl vu lo hi sl Q I rx hs pl pu q
  · exact h' pins s σ H x v vl vu lo hi sl Q I rx hs pl pu q
def tSl (r : V → Option Int → Option Int → Hp → VK → Prop) (te : TE) (tl th : TO) : TE := fun σ H Q => te σ H fun x H1 => tl σ H1 fun l H2 => th σ H2 fun u H3 => r x l u H3 Q
/-- a[lo:hi], any a -/
theorem pe_slice {r : V → Option Int → Option Int → Hp → VK → Prop} (hr : SlR X r) (he : PE X e te) (hl : PO X lo tl) (hu : PO X hi th) : PE X (.Subscript e (.Slice lo hi none p2) pos) (tSl r te tl th) := by
  intro pins s σ H Q I h
  refine Subscript_ (thn (he pins s σ H _ I h) fun v s1 ⟨x, H1, I1, r1, q1⟩ => ?_)
  refine wpAny_Slice (thn (hl pins s1 σ H1 _ I1 q1) fun vl s2 ⟨l, H2, I2, pl, q2⟩ => thn (hu pins s2 σ H2 _ I2 q2) fun vu s3 ⟨u, H3, I3, pu, q3⟩ => ?_)
  rw [evalPart_none]
  refine wpAny_pure ?_
  have I4 : Inv X pins σ H3 { s3 with heap := s3.heap.push { cls := .type "slice", data := .fields #[vl, vu, .none] } } := I3.kept (t' := s3.toks) fun b ob q => Heap.get?_push_of_some _ q
  obtain ⟨T, id, hT, ht, hg⟩ := hr pins { s3 with heap := s3.heap.push { cls := .type "slice", data := .fields #[vl, vu, .none] } } σ H3 x v vl vu l u s3.heap.objs.size Q I4 r1 (Heap.IsSliceOf.new ..) pl pu q3
  show wpAny (model X.prog X.w) X.A (subscriptTail e (.Slice lo hi none p2) v (.ref s3.heap.objs.size)) (EP X pins σ Q) X.xe { s3 with heap := s3.heap.push { cls := .type "slice", data := .fields #[vl, vu, .none] } }
  exact tail_any (ops := [.ref s3.heap.objs.size, v]) ht hT hg (by with_unfolding_all rfl)

/-- the items of xs[lo:hi] -/
def cutV (xs : List V) (lo hi : Option Int) : List V := (xs.drop (HT.sIx xs.length 0 lo)).take (HT.sIx xs.length xs.length hi - HT.sIx xs.length 0 lo)
theorem cutV_length (xs : List V) (lo hi : Option Int) : (cutV xs lo hi).length ≤ xs.length := by
  unfold cutV
  rw [List.length_take, List.length_drop]
  omega
/-- t[lo:hi], not the whole of it (the whole would be t itself) -/
def rSlT (K : PySem.W.Frag) : V → Option Int → Option Int → Hp → VK → Prop := fun x lo hi H Q => ∃ a xs, x = .ref a ∧ SqT K H a xs ∧
  ¬ (HT.sIx xs.length 0 lo = 0 ∧ HT.sIx xs.length xs.length hi = xs.length) ∧ ∀ p, H p = none → Q (.ref p) (upd H p (.tup (cutV xs lo hi)))
theorem sl_tup : SlR X (rSlT X.K) := by
  intro pins s σ H x v vl vu lo hi sl Q I rx hs pl pu h
  obtain ⟨a, xs, rfl, hx, hw, q⟩ := h
  cases rx
  obtain ⟨its, r, ht, hz⟩ := I.tuple hx
  have hlen : its.toArray.size = xs.length := by rw [List.size_toArray]; exact r.length.symm
  refine ⟨"tuple", _, PyProof.Rows.slot_tuple_getitem.lookup, ht.typeIs, ?_⟩
  refine HT.getItem_tuple_cut ht hs pl pu (by rw [hlen]; exact hw) ?_ (by rw [hlen]; exact hz)
  rw [hlen]
  refine ⟨.ref s.heap.objs.size, _, I.laid (t' := s.toks) (o := .tup (cutV xs lo hi)) (fun b ob q => Heap.get?_push_of_some _ q) (Nat.le_refl _) ?_, rfl, q _ (I.hok.fresh (Nat.le_refl _))⟩
  exact ⟨Nat.le_trans (cutV_length xs lo hi) hz, _, (r.drop (HT.sIx xs.length 0 lo)).take (HT.sIx xs.length xs.length hi - HT.sIx xs.length 0 lo), IsTup.new _ _⟩

/-! ### t < u, t + u -/
/-- t + u, t not empty: u empty gives t itself -/
def rCatT (K : PySem.W.Frag) : R2 := fun x y H Q => ∃ a b xs ys, x = .ref a ∧ y = .ref b ∧ SqT K H a xs ∧ SqT K H b ys ∧ xs ≠ [] ∧ xs.length + ys.length ≤ sizeLine ∧
  (ys = [] → Q (.ref a) H) ∧ (ys ≠ [] → ∀ p, H p = none → Q (.ref p) (upd H p (.tup (xs ++ ys))))
theorem Vals.nil_iff {xs : List V} {us : List Value} (r : Vals xs us) : us = [] ↔ xs = [] := by
  cases r with
  | nil => simp
  | cons _ _ => simp
theorem op_catT : OpR X (binaryOp .Add) (rCatT X.K) := by
  intro pins s σ H x y v u Q I rx ry h
  obtain ⟨a, b, xs, ys, rfl, rfl, ha, hb, hx, hz, q1, q2⟩ := h
  cases rx
  cases ry
  obtain ⟨its, r1, p1, _⟩ := I.tuple ha
  obtain ⟨its2, r2, p2, _⟩ := I.tuple hb
  refine HT.cat_tup p1 p2 (fun z => hx (r1.nil_iff.mp z)) (fun z => ⟨.ref a, H, I, rfl, q1 (r2.nil_iff.mp z)⟩) (fun z => ?_) (by rw [← r1.length, ← r2.length]; exact hz)
  refine ⟨.ref s.heap.objs.size, _, I.laid (t' := s.toks) (o := .tup (xs ++ ys)) (fun b ob q => Heap.get?_push_of_some _ q) (Nat.le_refl _) ?_, rfl, q2 (fun w => z (r2.nil_iff.mpr w)) _ (I.hok.fresh (Nat.le_refl _))⟩
  exact ⟨by rw [List.length_append]; exact hz, _, r1.append r2, IsTup.new _ _⟩
end
end L2

namespace L2
open PySem PySem.Spec PyProof.Rows

/-! ### places -/
/-- the place that an index of any sign means -/
def ixN (n : Nat) (i : Int) : Option Nat := if 0 ≤ i then (if i < n then some i.toNat else none) else if -(n : Int) ≤ i then some (i + n).toNat else none
def atI {α : Type} (xs : List α) (i : Int) : Option α := (ixN xs.length i).bind fun j => xs[j]?
theorem ixN_seq {n : Nat} {i : Int} {j : Nat} (h : ixN n i = some j) : seqIndex? i n = some j ∧ j < n ∧ -(n : Int) ≤ i ∧ i < n := by
  unfold ixN at h
  by_cases h0 : 0 ≤ i
  · rw [if_pos h0] at h
    by_cases h1 : i < n
    · rw [if_pos h1] at h
      have e : i.toNat = j := Option.some.inj h
      exact ⟨by rw [seqIndex_of h0 h1, e], by omega, by omega, h1⟩
    · rw [if_neg h1] at h; cases h
  · rw [if_neg h0] at h
    by_cases h1 : -(n : Int) ≤ i
    · rw [if_pos h1] at h
      have e : (i + n).toNat = j := Option.some.inj h
      exact ⟨by rw [seqIndex_neg (by omega) h1, e], by omega, h1, by omega⟩
    · rw [if_neg h1] at h; cases h
theorem atI_get {α : Type} {xs : List α} {i : Int} {v : α} (h : atI xs i = some v) : ∃ j, seqIndex? i xs.length = some j ∧ xs[j]? = some v ∧ j < xs.length ∧ -(xs.length : Int) ≤ i ∧ i < xs.length := by
  unfold atI at h
  cases e : ixN xs.length i with
  | none => rw [e] at h; cases h
  | some j =>
    rw [e] at h
    obtain ⟨h1, h2, h3, h4⟩ := ixN_seq e
    exact ⟨j, h1, h, h2, h3, h4⟩
theorem atI_nat {α : Type} {xs : List α} {j : Nat} {v : α} (h : xs[j]? = some v) : atI xs (j : Int) = some v := by
  have hj : j < xs.length := (List.getElem?_eq_some_iff.mp h).1
  have e : ixN xs.length (j : Int) = some j := by
    unfold ixN
    rw [if_pos (by omega), if_pos (by omega)]; simp
  unfold atI; rw [e]; exact h
theorem atI_last {α : Type} (xs : List α) (v : α) : atI (xs ++ [v]) (-1) = some v := by
  have hl : (xs ++ [v]).length = xs.length + 1 := by simp
  have e : ixN (xs ++ [v]).length (-1) = some xs.length := by
    unfold ixN
    rw [hl, if_neg (by decide), if_pos (by omega)]
    congr 1
    omega
  unfold atI
  rw [e]
  show (xs ++ [v])[xs.length]? = some v
  simp

/-! ### what may be subscripted -/
/-- what stands as an index of a plain subscript -/
def PlainIx (b : Expr) : Prop := ∀ o i, subscripted b false o i = operate [o, i] (getItem o i)
/-- a subscript by values -/
def IxR (X : Cx) (r : R2) : Prop :=
  ∀ (value slice : Expr) (pins : List (Addr × Obj)) (s : Shared) (σ : St) (H : Hp) (x y : V) (v u : Value) (Q : VK), Inv X pins σ H s → RelV x v → RelV y u → r x y H Q →
    subscripted slice false v u = operate [v, u] (getItem v u) → wpAny (model X.prog X.w) X.A (subscriptTail value slice v u) (EP X pins σ Q) X.xe s
/-- a call of a builtin's method by values: the receiver, the arguments -/
def MtR (X : Cx) (id : String) (r : V → List V → Hp → VK → Prop) : Prop :=
  ∀ (pins : List (Addr × Obj)) (s : Shared) (σ : St) (H : Hp) (x : V) (xs : List V) (v : Value) (us : List Value) (Q : VK), Inv X pins σ H s → RelV x v → Vals xs us → r x xs H Q →
    wpAny (model X.prog X.w) X.A (call (.builtin id) (v :: us)) (EP X pins σ Q) X.xe s
section
variable {X : Cx} {a b : Expr} {ta tb : TE} {pos : Pos}
theorem IxR.or {r r' : R2} (h : IxR X r) (h' : IxR X r') : IxR X (fun x y H Q => r x y H Q ∨ r' x y H Q) := by
  intro value slice pins s σ H x y v u Q I rx ry q hs
  rcases q with q | q
  · exact h value slice pins s σ H x y v u Q I rx ry q hs
  · exact h' value slice pins s σ H x y v u Q I rx ry q hs
theorem MtR.or {id : String} {r r' : V → List V → Hp → VK → Prop} (h : MtR X id r) (h' : MtR X id r') : MtR X id (fun x xs H Q => r x xs H Q ∨ r' x xs H Q) := by
  intro pins s σ H x xs v us Q I rx rs q
  rcases q with q | q
  · exact h pins s σ H x xs v us Q I rx rs q
  · exact h' pins s σ H x xs v us Q I rx rs q
/-- a[b] -/
theorem pe_ix {r : R2} (hr : IxR X r) (ha : PE X a ta) (hb : PE X b tb) (hs : PlainIx b) : PE X (.Subscript a b pos) (tOp r ta tb) := by
  intro pins s σ H Q I h
  exact Subscript_ (binT ha hb I h fun v u s2 x y H2 I2 rx ry q => hr a b pins s2 σ H2 x y v u Q I2 rx ry q (hs _ _))

def rIxL (K : PySem.W.Frag) : R2 := fun x y H Q => ∃ p xs i v, x = .ref p ∧ y = .int i ∧ SqL K H p xs ∧ atI xs i = some v ∧ Q v H
def rIxT (K : PySem.W.Frag) : R2 := fun x y H Q => ∃ p xs i v, x = .ref p ∧ y = .int i ∧ SqT K H p xs ∧ atI xs i = some v ∧ Q v H
theorem ix_list : IxR X (rIxL X.K) := by
  intro value slice pins s σ H x y v u Q I rx ry h hs
  obtain ⟨p, xs, i, z, rfl, rfl, hq, he, q⟩ := h
  cases rx
  obtain ⟨t, rfl⟩ := ry
  obtain ⟨its, r, pl, hz⟩ := I.list hq
  obtain ⟨j, h1, h2, h3, h4, h5⟩ := atI_get he
  obtain ⟨w, ew, rw'⟩ := r.get h2
  have hl := r.length
  have hn := line63
  have fin : EP X pins σ Q w s := ⟨z, H, I, rw', q⟩
  by_cases h0 : 0 ≤ i
  · have hj : i.toNat = j := by
      rw [seqIndex_of h0 h5] at h1
      exact Option.some.inj h1
    exact item_listR pl.isList h0 (by omega) (by rw [hj]; simpa using ew) fin hs
  · have hj : (i + (its.toArray.size : Int)).toNat = j := by
      rw [seqIndex_neg (by omega) h4] at h1
      rw [List.size_toArray, ← hl]
      exact Option.some.inj h1
    exact subscriptTail_builtinR (x := w) pl.isList.typeIs slot_list_getitem.lookup
      (wpAny_getItem_list_neg (Q := fun r s' => r = w ∧ EP X pins σ Q r s') pl.isList (by omega) (by rw [List.size_toArray] <;> omega) (by omega) (by rw [hj]; simpa using ew) ⟨rfl, fin⟩) hs
theorem ix_tup : IxR X (rIxT X.K) := by
  intro value slice pins s σ H x y v u Q I rx ry h hs
  obtain ⟨p, xs, i, z, rfl, rfl, hq, he, q⟩ := h
  cases rx
  obtain ⟨t, rfl⟩ := ry
  obtain ⟨its, r, pl, hz⟩ := I.tuple hq
  obtain ⟨j, h1, h2, h3, h4, h5⟩ := atI_get he
  obtain ⟨w, ew, rw'⟩ := r.get h2
  have hl := r.length
  have hn := line63
  have fin : EP X pins σ Q w s := ⟨z, H, I, rw', q⟩
  exact subscriptTail_builtinR (x := w) pl.typeIs slot_tuple_getitem.lookup
    (getItem_tuple (j := j) (Q := fun r s' => r = w ∧ EP X pins σ Q r s') pl (by omega) (by omega) (by rw [List.size_toArray, ← hl]; exact h1) (by simpa using ew) ⟨rfl, fin⟩) hs
/-! ### xs[i] = v, any sign -/
theorem Inv.lst {pins : List (Addr × Obj)} {σ : St} {H : Hp} {s : Shared} {p : Addr} {xs : List V} (I : Inv X pins σ H s) (h : H p = some (.lst xs)) :
    ∃ (its : List Value) (n : Nat), Vals xs its ∧ s.heap.get? p = some { cls := .type "list", data := .seq its.toArray n } ∧ xs.length ≤ sizeLine := by
  obtain ⟨z, its, n, r, e⟩ := I.hok p _ h
  exact ⟨its, n, r, e, z⟩
/-! ### slices -/
/-! ### in, not in: flat items -/
def flatV : V → Bool
  | .non => true
  | .bl _ => true
  | .int _ => true
  | .str _ => true
  | _ => false
/-- == of flat values -/
def eqV : V → V → Bool
  | .non, .non => true
  | .bl a, .bl b => a == b
  | .bl a, .int b => (if a then 1 else 0) == b
  | .int a, .bl b => a == (if b then 1 else 0)
  | .int a, .int b => a == b
  | .str a, .str b => a == b
  | _, _ => false
theorem eqAt_V {A : Around} {s : Shared} {y x : V} {u v : Value} (ry : RelV y u) (rx : RelV x v) (fy : flatV y = true) (fx : flatV x = true) : SeqAt.EqAt A s u v (eqV y x) := by
  cases y with
  | non =>
    cases ry
    cases x with
    | non => cases rx; exact SeqAt.EqAt.same _
    | bl b => cases rx; exact SeqAt.EqAt.none_bool b
    | int b => obtain ⟨t, rfl⟩ := rx; exact SeqAt.EqAt.none_int b t
    | str b => obtain ⟨t, rfl⟩ := rx; exact SeqAt.EqAt.none_str b t
    | _ => exact absurd (show false = true from fx) Bool.false_ne_true
  | bl a =>
    cases ry
    cases x with
    | non => cases rx; exact SeqAt.EqAt.bool_none a
    | bl b => cases rx; exact SeqAt.EqAt.bool_bool a b
    | int b => obtain ⟨t, rfl⟩ := rx; exact SeqAt.EqAt.bool_int a b t
    | str b => obtain ⟨t, rfl⟩ := rx; exact SeqAt.EqAt.bool_str a b t
    | _ => exact absurd (show false = true from fx) Bool.false_ne_true
  | int a =>
    obtain ⟨t', rfl⟩ := ry
    cases x with
    | non => cases rx; exact SeqAt.EqAt.int_none a t'
    | bl b => cases rx; exact SeqAt.EqAt.int_bool a t' b
    | int b => obtain ⟨t, rfl⟩ := rx; exact SeqAt.EqAt.int_int a t' b t
    | str b => obtain ⟨t, rfl⟩ := rx; exact SeqAt.EqAt.int_str a t' b t
    | _ => exact absurd (show false = true from fx) Bool.false_ne_true
  | str a =>
    obtain ⟨t', rfl⟩ := ry
    cases x with
    | non => cases rx; exact SeqAt.EqAt.str_none a t'
    | bl b => cases rx; exact SeqAt.EqAt.str_bool a t' b
    | int b => obtain ⟨t, rfl⟩ := rx; exact SeqAt.EqAt.str_int a t' b t
    | str b => obtain ⟨t, rfl⟩ := rx; exact SeqAt.EqAt.str_str a t' b t
    | _ => exact absurd (show false = true from fx) Bool.false_ne_true
  | _ => exact absurd (show false = true from fy) Bool.false_ne_true
/-! ### len, list(x), tuple(x) of any list or tuple that is read -/
theorem call_len_seq : CallR X (.builtin "len") (fun xs H Q => ∃ p ys, xs = [.ref p] ∧ (SqL X.K H p ys ∨ SqT X.K H p ys) ∧ Q (.int ys.length) H) := by
  intro pins s σ H xs us Q I r h
  obtain ⟨p, ys, rfl, hq, q⟩ := h
  obtain ⟨u, rfl, rx⟩ := vals1 r
  cases rx
  have hn := line63
  rcases hq with hq | hq
  · obtain ⟨its, r', pl, hz⟩ := I.list hq
    have hlen := r'.length
    exact Calls.call_len_list pl.isList (by simp only [List.size_toArray] <;> omega) ⟨.int ys.length, H, I.tok _, ⟨s.toks + 1, by rw [List.size_toArray, hlen]⟩, q⟩
  · obtain ⟨its, r', pl, hz⟩ := I.tuple hq
    have hlen := r'.length
    exact len_tuple pl (by simp only [List.size_toArray] <;> omega) ⟨.int ys.length, H, I.tok _, ⟨s.toks + 1, by rw [List.size_toArray, hlen]⟩, q⟩
theorem CallR.or {f : Value} {r r' : List V → Hp → VK → Prop} (h : CallR X f r) (h' : CallR X f r') : CallR X f (fun xs H Q => r xs H Q ∨ r' xs H Q) := by
  intro pins s σ H xs us Q I rs q
  rcases q with q | q
  · exact h pins s σ H xs us Q I rs q
  · exact h' pins s σ H xs us Q I rs q
theorem call_list_of : CallR X (.type "list") (fun xs H Q => ∃ p ys, xs = [.ref p] ∧ (SqL X.K H p ys ∨ SqT X.K H p ys) ∧ ∀ l, H l = none → Q (.ref l) (upd H l (.lst ys))) := by
  intro pins s σ H xs us Q I r h
  obtain ⟨p, ys, rfl, hq, q⟩ := h
  obtain ⟨u, rfl, rx⟩ := vals1 r
  cases rx
  have fin : ∀ (its : List Value), Vals ys its → ys.length ≤ sizeLine → ∀ (h' : Heap) (c' : Nat), (∀ b o', s.heap.get? b = some o' → h'.get? b = some o') →
      h'.get? s.heap.objs.size = some { cls := .type "list", dict := none, data := .seq its.toArray c', slots := #[] } → EP X pins σ Q (.ref s.heap.objs.size) { s with heap := h' } := fun its r' hz h' c' kp e =>
    ⟨.ref s.heap.objs.size, _, I.laid (t' := s.toks) kp (Nat.le_refl _) (show ObjOk X.prog X.w _ h' _ (.lst ys) from ⟨hz, its, c', r', e⟩), rfl, q _ (I.hok.fresh (Nat.le_refl _))⟩
  rcases hq with hq | hq
  · obtain ⟨its, r', pl, hz⟩ := I.list hq
    have hlen := r'.length
    obtain ⟨o, ho, hc, n, hd⟩ := pl.isList
    exact call_list_seq p (.inl rfl) ho hc hd (fun h' c' kp e => fin its r' hz h' c' kp e) (by simp only [List.size_toArray] <;> omega)
  · obtain ⟨its, r', pl, hz⟩ := I.tuple hq
    have hlen := r'.length
    obtain ⟨o, ho, hc, n, hd⟩ := pl
    exact call_list_seq p (.inr rfl) ho hc hd (fun h' c' kp e => fin its r' hz h' c' kp e) (by simp only [List.size_toArray] <;> omega)
theorem call_tuple_of : CallR X (.type "tuple") (fun xs H Q => ∃ p ys, xs = [.ref p] ∧ ((SqL X.K H p ys ∧ ∀ l, H l = none → Q (.ref l) (upd H l (.tup ys))) ∨ (SqT X.K H p ys ∧ Q (.ref p) H))) := by
  intro pins s σ H xs us Q I r h
  obtain ⟨p, ys, rfl, h⟩ := h
  obtain ⟨u, rfl, rx⟩ := vals1 r
  cases rx
  rcases h with ⟨hq, q⟩ | ⟨hq, q⟩
  · obtain ⟨its, r', pl, hz⟩ := I.list hq
    have hlen := r'.length
    refine call_tuple_list pl.isList (fun h' kp => ?_) (by simp only [List.size_toArray] <;> omega)
    have I1 : Inv X pins σ H { s with heap := h' } := I.kept (t' := s.toks) kp
    have I2 : Inv X pins σ (upd H h'.objs.size (.tup ys)) { s with heap := h'.push { cls := .type "tuple", data := .seq its.toArray } } :=
      I1.laid (t' := s.toks) (fun b o e => Heap.get?_push_of_some _ e) (Nat.le_refl _) (show ObjOk X.prog X.w _ _ _ (.tup ys) from ⟨hz, its, r', IsTup.new _ _⟩)
    exact ⟨.ref h'.objs.size, _, I2, rfl, q _ (I1.hok.fresh (Nat.le_refl _))⟩
  · obtain ⟨its, r', pl, hz⟩ := I.tuple hq
    exact call_tuple_same pl ⟨.ref p, H, I, rfl, q⟩

/-! ### the call of a builtin's method: o.m(..) -/
/-- the value is of that builtin type -/
def tyV (K : PySem.W.Frag) (T : String) (x : V) (H : Hp) : Prop := match x with
  | .str _ => T = "str"
  | .int _ => T = "int"
  | .ref p => (T = "list" ∧ ∃ xs, SqL K H p xs) ∨ (T = "tuple" ∧ ∃ o, K.lookup p = some o ∧ o.cls = .type "tuple" ∧ o.dict = none) ∨
      (T = "dict" ∧ ((∃ kvs, H p = some (.dK kvs)) ∨ ∃ kvs, H p = some (.dT kvs))) ∨ (T = "set" ∧ ∃ S n, H p = some (.set S n))
  | _ => False
theorem tyV_is {pins : List (Addr × Obj)} {σ : St} {H : Hp} {s : Shared} {T : String} {x : V} {v : Value} (I : Inv X pins σ H s) (r : RelV x v) (ty : tyV X.K T x H) :
    s.TypeIs v T ∧ ∀ a, v = .ref a → ∃ ob, s.heap.get? a = some ob ∧ ob.dict = none := by
  cases x with
  | str z =>
    obtain ⟨t, rfl⟩ := r
    cases (show T = "str" from ty)
    exact ⟨typeIs_str s z t, fun _ e => nomatch e⟩
  | int i =>
    obtain ⟨t, rfl⟩ := r
    cases (show T = "int" from ty)
    exact ⟨typeIs_int s i t, fun _ e => nomatch e⟩
  | ref p =>
    cases r
    rcases ty with ⟨rfl, xs, hq⟩ | ⟨rfl, o, hk, hc, hd⟩ | ⟨rfl, hk⟩ | ⟨rfl, S, n, hk⟩
    · obtain ⟨its, _, pl, _⟩ := I.list hq
      refine ⟨pl.isList.typeIs, fun a e => ?_⟩
      cases e
      obtain ⟨o, n, e, c, hd, _⟩ := pl
      exact ⟨o, e, hd⟩
    · refine ⟨⟨o, I.kIn p o hk, hc⟩, fun a e => ?_⟩
      cases e
      exact ⟨o, I.kIn _ o hk, hd⟩
    · have z : ∃ o, s.heap.get? p = some o ∧ o.ExactDict := by
        rcases hk with ⟨kvs, hk⟩ | ⟨kvs, hk⟩
        · obtain ⟨_, _, _, _, o, _, _, e, ex, _⟩ := I.hok p _ hk
          exact ⟨o, e, ex⟩
        · obtain ⟨_, _, _, _, o, _, _, e, ex, _⟩ := I.hok p _ hk
          exact ⟨o, e, ex⟩
      obtain ⟨o, e, ex⟩ := z
      refine ⟨⟨o, e, ex.1⟩, fun a e2 => ?_⟩
      cases e2
      exact ⟨o, e, ex.2.1⟩
    · obtain ⟨o, _, _, _, e, ex, _⟩ := I.hok p _ hk
      refine ⟨⟨o, e, ex.1⟩, fun a e2 => ?_⟩
      cases e2
      exact ⟨o, e, ex.2.1⟩
  | _ => exact False.elim ty
def tBM (K : PySem.W.Frag) (T : String) (r : V → List V → Hp → VK → Prop) (to : TE) (t : TA) : TE := fun σ H Q => to σ H fun x H1 => tyV K T x H1 ∧ t σ H1 fun xs H2 => r x xs H2 Q
variable {o e : Expr} {es : List Expr} {to : TE} {t : TA} {name : Str} {apos cpos : Pos} {T id : String} {r : V → List V → Hp → VK → Prop}
theorem pe_bm (pa : PlainAttrs T) (slot : Slot T name id) (hty : typeOf (.builtin id) = pure (.type "method_descriptor")) (hm : MtR X id r) (ho : PE X o to) (ha : PA X (e :: es) t)
    (hbase : attributeBase o name X.env (eval o X.env) = eval o X.env := by rfl)
    (hfew : ((backTo cpos (starEach (e :: es) X.env)).all (fun x => !x.1) && (backToKw cpos (keywordEach [] X.env)).all (fun x => x.1.isSome)
      && decide ((e :: es).length + ([] : List Keyword).length + (if ([] : List Keyword).isEmpty then 0 else 1) < 30)) = true := by rfl)
    (hline : (apos.endLine == cpos.line) = true := by rfl) (hs : starEach (e :: es) X.env = (false, eval e X.env) :: starEach es X.env := by rfl) (hplain : (backTo cpos (starEach es X.env)).any (·.1) = false := by rfl) :
    PE X (.Call (.Attribute o name apos) (e :: es) [] cpos) (tBM X.K T r to t) := by
  intro pins s σ H Q I h
  refine wpAny_Call_method_late hbase hfew hline rfl (thn (ho pins s σ H _ I h) fun v s1 ⟨x, H1, I1, r1, ty, q1⟩ => ?_)
  obtain ⟨h1, h2⟩ := tyV_is I1 r1 ty
  refine ⟨T, id, pa, slot, hty, h1, h2, ?_⟩
  have hA := ha cpos pins s1 σ H1 _ I1 q1
  rw [hs] at hA ⊢
  refine Calls.callWith_builtin (by show (false || (backTo cpos (starEach es X.env)).any (·.1)) = false; rw [hplain] <;> rfl) (Calls.evalArgs_plain ?_)
  exact thn hA fun us s2 ⟨vs, H2, I2, r2, q2⟩ => hm pins s2 σ H2 x vs v us Q I2 r1 r2 q2
/- xs.append(e), list.index on a module's tuple .. are MtR facts of 06m -/
end
end L2

namespace L2
open PySem PySem.Spec PyProof.Rows

def MtM (X : Cx) (id : String) (r : V → List V → Hp → VK → Prop) : Prop :=
  ∀ (pins : List (Addr × Obj)) (s : Shared) (σ : St) (H : Hp) (x : V) (xs : List V) (v : Value) (us : List Value) (Q : VK), Inv X pins σ H s → RelV x v → Vals xs us → r x xs H Q →
    wpAny (model X.prog X.w) X.A (call (.builtin id) (v :: us)) (EP X pins σ Q) X.xe s

/-! ### lists of values -/
theorem Vals.one : ∀ {x : V} {us : List Value}, Vals [x] us → ∃ u, us = [u] ∧ RelV x u
  | _, _, .cons r .nil => ⟨_, rfl, r⟩
theorem Vals.two : ∀ {x y : V} {us : List Value}, Vals [x, y] us → ∃ u v, us = [u, v] ∧ RelV x u ∧ RelV y v
  | _, _, _, .cons r (.cons q .nil) => ⟨_, _, rfl, r, q⟩
theorem Vals.zero : ∀ {us : List Value}, Vals [] us → us = []
  | _, .nil => rfl
theorem Vals.dropLast {xs : List V} {us : List Value} (h : Vals xs us) : Vals xs.dropLast us.dropLast := by
  induction h with
  | nil => exact .nil
  | cons r t ih =>
    cases t with
    | nil => exact .nil
    | cons q t' => exact .cons r ih
theorem Vals.eraseIdx : ∀ {xs : List V} {us : List Value} (i : Nat), Vals xs us → Vals (xs.eraseIdx i) (us.eraseIdx i)
  | _, _, _, .nil => .nil
  | _, _, 0, .cons _ t => t
  | _, _, i + 1, .cons r t => .cons r (Vals.eraseIdx i t)
theorem Vals.reverse {xs : List V} {us : List Value} (h : Vals xs us) : Vals xs.reverse us.reverse := by
  induction h with
  | nil => exact .nil
  | cons r t ih => rw [List.reverse_cons, List.reverse_cons]; exact Vals.append ih (.cons r .nil)
section
variable {X : Cx} {pins : List (Addr × Obj)} {σ : St} {H : Hp} {s : Shared} {l b : Addr} {xs ys zs : List V}

/-! ### the two steps: a tracked list is rewritten, a new list is laid -/
theorem Inv.lset {its its' : List Value} {n : Nat} {f : Array Value → Array Value} {t' : Nat} (I : Inv X pins σ H s) (hH : H l = some (.lst xs))
    (e : s.heap.get? l = some { cls := .type "list", data := .seq its.toArray n }) (hf : f its.toArray = its'.toArray) (hv : Vals ys its') (hz : ys.length ≤ sizeLine) :
    Inv X pins σ (upd H l (.lst ys)) { s with heap := s.heap.update l (Obj.mapSeq f), toks := t' } := by
  have q := PySem.IsL.update e f
  rw [hf] at q
  refine I.write (x := l) (e := l) (by rw [hH]; exact trivial) (.inl rfl) (fun b' u hb hu => (Heap.get?_update_other s.heap (Obj.mapSeq f) (Ne.symm hb)).trans hu) ⟨_, q⟩ ?_
  exact ⟨hz, its', _, hv, q⟩
theorem Inv.lnew {its : List Value} {t' : Nat} (I : Inv X pins σ H s) (hv : Vals ys its) (hz : ys.length ≤ sizeLine) :
    Inv X pins σ (upd H s.heap.objs.size (.lst ys)) { s with heap := s.heap.push { cls := .type "list", data := .seq its.toArray }, toks := t' } :=
  I.laid (fun _ _ q => Heap.get?_push_of_some _ q) (Nat.le_refl _) ⟨hz, its, 0, hv, Heap.get?_push_size _ rfl⟩
theorem Inv.fresh (I : Inv X pins σ H s) : H s.heap.objs.size = none := I.hok.fresh (Nat.le_refl _)
theorem Inv.lstM (I : Inv X pins σ H s) (hH : H l = some (.lst xs)) : xs.length ≤ sizeLine ∧ ∃ (its : List Value) (n : Nat), Vals xs its ∧ xs.length = its.length ∧ s.heap.get? l = some { cls := .type "list", data := .seq its.toArray n } := by
  obtain ⟨z, its, n, r, e⟩ := I.hok l _ hH
  exact ⟨z, its, n, r, r.length, e⟩

end

section
variable {X : Cx}

/-! ### methods -/
def rAppend : V → List V → Hp → VK → Prop := fun x vs H Q => ∃ l xs y, x = .ref l ∧ vs = [y] ∧ H l = some (.lst xs) ∧ xs.length < sizeLine ∧ Q .non (upd H l (.lst (xs ++ [y])))
theorem mt_append : MtM X "list.append" rAppend := by
  intro pins s σ H x vs v us Q I rx rv h
  obtain ⟨l, xs, y, rfl, rfl, hH, hz, q⟩ := h
  cases rx
  obtain ⟨u, rfl, ru⟩ := rv.one
  obtain ⟨z, its, n, r, hl, e⟩ := I.lstM hH
  refine call_meets F.slot_list_append ⟨_, e, rfl⟩ F.entry_list_append (F.args_list_append_2 _ _) (PySem.list_append l its.toArray n u (by rw [List.size_toArray]; omega)) ⟨e, ?_⟩
  refine ⟨.non, _, I.lset (its' := its ++ [u]) hH e (by simp) (r.append (.cons ru .nil)) ?_, rfl, q⟩
  rw [List.length_append, List.length_singleton]
  omega

/-! ### list + list, list += list, list * int -/
def rCat : R2 := fun x y H Q => ∃ l b xs zs, x = .ref l ∧ y = .ref b ∧ H l = some (.lst xs) ∧ H b = some (.lst zs) ∧ xs.length + zs.length ≤ sizeLine ∧ ∀ p, H p = none → Q (.ref p) (upd H p (.lst (xs ++ zs)))
theorem op_cat : OpR X (binaryOp .Add) rCat := by
  intro pins s σ H x y v u Q I rx ry h
  obtain ⟨l, b, xs, zs, rfl, rfl, hH, hB, hz, q⟩ := h
  cases rx
  cases ry
  obtain ⟨z, its, n, r, hl, e⟩ := I.lstM hH
  obtain ⟨z2, its2, n2, r2, hl2, e2⟩ := I.lstM hB
  refine PySem.P.add_list e e2 ?_ (by rw [List.size_toArray, List.size_toArray]; omega)
  have ea : its.toArray ++ its2.toArray = (its ++ its2).toArray := by simp
  rw [ea]
  exact ⟨.ref _, _, I.lnew (t' := s.toks) (r.append r2) (by rw [List.length_append]; omega), rfl, q _ I.fresh⟩
/-! ### del xs[i] -/
end

/-! ### xs[a:b] = ys -/
section
variable {prog : Program} {w : World} {A : Around} {E : Value → Shared → Prop} {s : Shared}
end

section
variable {X : Cx}
end
end L2

namespace Att
open PySem PySem.W PySem.Calls PyProof.Rows

/-! ### the script -/
theorem ints_of_wellAll {P : Params} {h : Heap} : ∀ (ns : List Int) (vs : List Value), WellAll P h vs (ns.map WData.int) → IntsAre vs ns := by
  intro ns
  induction ns with
  | nil =>
    intro vs w
    rw [List.map_nil] at w
    cases w
    exact .nil
  | cons n ns ih =>
    intro vs w
    rw [List.map_cons] at w
    cases w with
    | cons a b =>
      cases a
      exact .cons _ _ (ih _ b)

theorem script_of {l : OpenLaw} {n : Nat} (hn : l.most = some n) {P : Params} {h : Heap} {args : List WData} {vals : List Value}
    (hpre : l.row.toRowW.claim.pre args = true) (hwl : WellAll P h vals args) :
    ∃ a vs ns, vals = [Value.ref a] ∧ args = [WData.list (ns.map WData.int)] ∧ h.get? a = some { cls := .type "list", data := .seq vs.toArray } ∧ IntsAre vs ns ∧ ns.length ≤ n := by
  have hsh : WShape.hasAll [] args [.list .int] = true := (pre_splitW hpre).1
  have hc : l.pre.holds [] { args := args } = true := (pre_splitW hpre).2
  obtain ⟨d, r, rfl, h1, h2⟩ := hasAllW_cons hsh
  obtain rfl := hasAllW_nil h2
  obtain ⟨xs, rfl, h3⟩ := hasW_list h1
  obtain ⟨ns, rfl⟩ := items_int h3
  have hlen : ns.length ≤ n := by
    unfold OpenLaw.pre at hc
    have h4 : (WTm.not (.lt (.lit (.int (n : Int))) (.len (.arg 0)))).holds [] { args := [.list (ns.map .int)] } = true := by
      have h4 := (holds_andW hc).1
      rw [hn] at h4
      exact h4
    have h5 := condW_of h4 (w_not (w_lt w_lit (w_len_list (w_arg rfl))))
    rw [List.length_map] at h5
    refine Nat.le_of_not_lt fun q => ?_
    have q' : (n : Int) < ((ns.length : Nat) : Int) := by omega
    first
      | (rw [decide_eq_true q'] at h5; exact absurd h5 (by decide))
      | (simp at h5; omega)
  cases hwl with
  | cons w1 w2 =>
    cases w2
    cases w1 with
    | list ho hall => exact ⟨_, _, ns, rfl, rfl, ho, ints_of_wellAll ns _ hall, hlen⟩

theorem post_true (l : OpenLaw) (args : List WData) : l.row.toRowW.claim.post args (.bool true) args = true :=
  postW_of (r := l.row.toRowW) (X := (true == true))
    (show WShape.has [] (.bool true) .bool = true by first | rfl | decide | simp [WShape.has, WShape.arms, WShape.armsAll])
    (show (WTm.eq .res (.lit (.bool true))).value [] { args := args, res := some (.bool true), after := args } = some (.bool (true == true)) from w_eq_bool (w_res rfl) w_lit) rfl

/-! ### the attachment: holds_open's last premise (the goal 'hc' behind k_head) from a wpAny of the law's body -/
/-- the same from a codeAny of the CALL (for a layer whose function contracts speak of calls) -/
theorem attach_call {l : OpenLaw} {n : Nat} {q : Program} {loose : List Str} {XP : (Str → Option Value) → Heap → Prop} {YP : World → Heap → Prop} {d : DefRec}
    (hn : l.most = some n) (hdf : d.params.defaults = [])
    (call : ∀ (w : World) (s₀ s₁ : Shared) (mg mb : Str → Option Value) (fa : Addr) (o : Obj) (pm cd doc : Value) (a : Addr) (vs : List Value) (ns : List Int),
      Ground q loose [] XP w s₀ mg mb s₁.heap → YP w s₁.heap →
      s₁.heap.get? fa = some o → o.data = .func (docDef d.name d.params d.body d.scope pm cd doc) → s₁.heap.CodeRec cd d.name → mg d.name = some (.ref fa) →
      s₁.heap.get? a = some { cls := .type "list", data := .seq vs.toArray } → IntsAre vs ns → ns.length ≤ n → s₁.gens = #[] →
      codeAny (model l.prog w) callerA (.call (.ref fa) ⟨[.ref a], []⟩) (fun r s' => r = .ok (.ret (.bool true)) ∧ OldK s₁.heap s'.heap ∧ s'.os = s₁.os ∧ AllBare s'.gens) s₁) :
    WalkO q loose XP YP l.row.toRowW d [] (fun f vs => PySem.call f vs) := by
  intro w s₀ s₁ mg mb G Y fa o pm cd doc dV kV ho hd hcd hD hmg hg args vals as hpre hlay hrd hwl hlo
  obtain rfl : dV = .none := Dflts.none hD hdf
  obtain rfl : kV = .none := Dflts.noKw hD
  obtain ⟨a, vs, ns, rfl, rfl, hobj, hints, hlen⟩ := script_of hn hpre hwl
  refine enter_call (codeAny_mono (call w s₀ s₁ mg mb fa o pm cd doc a vs ns G Y ho (fd_plain hd) hcd hmg hobj hints hlen hg) fun r s' hq => ?_)
  obtain ⟨rfl, h2, h3, h4⟩ := hq
  exact ⟨.inl ⟨.bool true, .bool true, [], rfl, fun _ => rfl, .bool true, post_true l _, fun _ => ⟨List.Pairwise.nil, fun _ hm => (nomatch hm)⟩⟩, h2, h3, h4⟩

/-! ### rules over ANY heap (no ledger) from facts about the written part K: the library's own take a ledger (News) for what they write -/
section
variable {prog : Program} {w : World} {A : Around} {E : Value → Shared → Prop} {s : Shared} {K : Frag}

/-! the whole heap as the ledger: makes every rule that writes through a ledger a rule over any heap -/
def ledger (h : Heap) (L d : Addr) : List (Addr × Obj) := (List.range h.objs.size).filterMap fun a => if a = L ∨ a = d then none else (h.get? a).map fun o => (a, o)
end
end Att

namespace L2
open PySem PySem.Spec PyProof.Rows

theorem vals_ints : ∀ {vs : List Value} {ns : List Int}, IntsAre vs ns → Vals (ns.map V.int) vs
  | _, _, .nil => .nil
  | _, _, .cons n t h => .cons ⟨t, rfl⟩ (vals_ints h)

/-- nothing is tracked but the script, known to the object (or it is an object of the module) -/
def Only (H : Hp) : Prop := ∀ b, H b = none ∨ ∃ o xs, H b = some (.frz o (.lst xs))

/-- THE HEAD: the law's promise, at the heap behind the top. F, the promise of the law's def, may use that base is part of the heap (so K.In base, base.Ns mainGlobals mg stand in Mod) -/
theorem law_call {P : Program} {w : World} {K : PySem.W.Frag} {mg mb : Str → Option Value} {CX : CXT} {k : Nat} {fa a : Addr} {fd : FuncData} {x : Str} {sp : Sp} {s₁ : Shared} {vs : List Value} {ns : List Int}
    (KX : K.In s₁.heap) (hns : s₁.heap.Ns mainGlobals mg) (hb : s₁.heap.Ns builtinsNs mb) (hbb : ∀ x : Str, x ≠ "__name__" → mb x = bootBuiltins x) (hlim : s₁.heap.NoLimit) (hg : s₁.gens = #[])
    (ha : s₁.heap.get? a = some { cls := .type "list", data := .seq vs.toArray }) (hi : IntsAre vs ns) (hl : ns.length ≤ sizeLine) (hr : Room k callerA)
    (F : ∀ base : Heap, K.In base → base.Ns mainGlobals mg → FnOk P w K mg base CX k fa fd [x] sp) (hbind : ∀ (s : Shared) (u : Value), BindsTo s fd ⟨[u], []⟩ [(x, u)])
    (hsp : ∀ H : Hp, Only H → SqL K H a (ns.map V.int) → sp [.ref a] H (fun v _ => v = .bl true) fun _ _ _ => False)
    (hCX : ∀ H e s', CX [] H s₁ (fun _ _ _ => False) e s' → False) :
    codeAny (model P w) callerA (.call (.ref fa) ⟨[.ref a], []⟩) (fun r s' => r = .ok (.ret (.bool true)) ∧ OldK s₁.heap s'.heap ∧ s'.os = s₁.os ∧ AllBare s'.gens) s₁ := by
  have rv := vals_ints hi
  have lenV := hi.length
  -- from an abstract heap in which nothing but the script may be tracked
  have core : ∀ H : Hp, Only H → SqL K H a (ns.map V.int) → HOk P w H s₁.heap → (∀ b, H b ≠ none → b = a) → (H a ≠ none → K.lookup a = none) →
      codeAny (model P w) callerA (.call (.ref fa) ⟨[.ref a], []⟩) (fun r s' => r = .ok (.ret (.bool true)) ∧ OldK s₁.heap s'.heap ∧ s'.os = s₁.os ∧ AllBare s'.gens) s₁ := by
    intro H hO hS hok hA hK
    have base_of : ∀ {b : Addr} {o : Obj}, s₁.heap.get? b = some o → H b = none → (hidT s₁.heap H).get? b = some o := fun e n => hidT_get e n
    have noA : ∀ {b : Addr} {o : Obj} {es : Array DictEntry} {ep : Nat}, s₁.heap.get? b = some o → o.data = .dict es ep → H b = none := fun {b o es ep} e d => by
      cases q : H b with
      | none => rfl
      | some u =>
        have e' : b = a := hA b (by rw [q]; simp)
        subst e'
        rw [ha] at e; cases e
        have d' : Data.seq vs.toArray _ = Data.dict es ep := d
        cases d'
    have nsK : ∀ {b : Addr} {m : Str → Option Value}, s₁.heap.Ns b m → (hidT s₁.heap H).Ns b m := fun {b m} ⟨o, es, ep, e, d, r⟩ => ⟨o, es, ep, base_of e (noA e d), d, r⟩
    have hKb : K.In (hidT s₁.heap H) := fun b o e => base_of (KX b o e) (by
      cases q : H b with
      | none => rfl
      | some u =>
        have e' : b = a := hA b (by rw [q]; simp)
        subst e'
        rw [hK (by rw [q]; simp)] at e; cases e)
    have hM : Mod K mg (hidT s₁.heap H) := ⟨hKb, nsK hns, ⟨mb, nsK hb, hbb⟩, let ⟨mc, h1, h2⟩ := hlim; ⟨mc, nsK h1, h2⟩⟩
    have e0 : Env0 P w K mg (hidT s₁.heap H) callerA [] s₁ H := ⟨rfl, hM, fun b o e => of_hidT e, Nat.le_of_eq (hidT_size _ _), trivial, fun b hb => absurd (show b ∈ ([] : List Addr) from hb) (by simp), hok, .of_eq hg⟩
    refine codeAny_mono ((F _ hKb (nsK hns)).run callerA [] s₁ H ⟨[.ref a], []⟩ [.ref a] [.ref a] _ _ hr e0 (hbind s₁ (.ref a)) (.cons rfl .nil) (hsp H hO hS)) fun r s' h => ?_
    cases r with
    | error e => exact (hCX H e s' h).elim
    | ok fl =>
      cases fl with
      | next => exact False.elim h
      | brk => exact False.elim h
      | cont => exact False.elim h
      | ret u =>
        obtain ⟨v, H', os, bare, un, hok', r', q⟩ := h
        have q' : v = .bl true := q
        subst q'
        obtain rfl : u = Value.bool true := r'
        refine ⟨rfl, OldK.of_keep fun b o e => ?_, os, bare⟩
        cases q : H b with
        | none => exact un.keep b o e q (by intro z; exact absurd (show b ∈ ([] : List Addr) from z) (by simp)) (by simp)
        | some u =>
          rcases hO b with z | ⟨ob, xs, z⟩
          · rw [q] at z; cases z
          · have z2 := un.frzs b ob _ z
            obtain ⟨e1, _⟩ := hok b _ z
            obtain ⟨e2, _⟩ := hok' b _ z2
            rw [e] at e1; cases e1
            exact e2
  cases hk : K.lookup a with
  | some o =>
    -- the script is one of the module's own objects
    have e := KX a o hk
    rw [ha] at e
    cases e
    refine core (fun _ => none) (fun _ => .inl rfl) (.inr ⟨_, vs.toArray, _, hk, rfl, rfl, rfl, by rw [List.size_toArray, lenV]; exact hl, by simpa using rv⟩) (fun b u z => by have z' : (none : Option HO) = some u := z; cases z') (fun b z => absurd rfl z) fun z => absurd rfl z
  | none =>
    refine core (fun b => if b = a then some (.frz { cls := .type "list", data := .seq vs.toArray } (.lst (ns.map V.int))) else none) (fun b => ?_) (.inl (.inr ⟨{ cls := .type "list", data := .seq vs.toArray }, if_pos rfl⟩)) (fun b u z => ?_) (fun b z => ?_) fun _ => hk
    · by_cases hb : b = a
      · exact .inr ⟨_, _, if_pos hb⟩
      · exact .inl (if_neg hb)
    · by_cases hb : b = a
      · have z' := (if_pos hb).symm.trans z
        cases z'
        subst hb
        exact ⟨ha, by rw [List.length_map]; exact hl, vs, _, rv, ha⟩
      · have z' := (if_neg hb).symm.trans z
        cases z'
    · by_cases hb : b = a
      · exact hb
      · exact absurd (if_neg hb) z
end L2

namespace L2
open PySem PySem.Spec PyProof.Rows

abbrev KOf {K : PySem.W.Frag} {h : Heap} (_ : K.In h) : PySem.W.Frag := K

/-- the goal that k_head leaves (case hc), from the law's promise. F gives the function object fd (K's own) once, then the promise over every base -/
theorem walk_of {l : PySem.W.OpenLaw} {n k : Nat} {q : Program} {loose : List Str} {XP : (Str → Option Value) → Heap → Prop} {YP : World → Heap → Prop} {d : DefRec} {K : Params → PySem.W.Frag} {CX : World → CXT} {sp : World → Sp} {x : Str}
    (hn : l.most = some n) (hn2 : n ≤ sizeLine) (hdf : d.params.defaults = []) (hr : Room k callerA)
    (hY : ∀ (w : World) (h : Heap), YP w h → (K w.params).In h)
    (F : ∀ (w : World) (mg : Str → Option Value) (fa : Addr) (h : Heap), (K w.params).In h → h.Ns mainGlobals mg → mg d.name = some (.ref fa) →
      ∃ fd : FuncData, (∀ (s : Shared) (u : Value), BindsTo s fd ⟨[u], []⟩ [(x, u)]) ∧
        ∀ base : Heap, (K w.params).In base → base.Ns mainGlobals mg → FnOk l.prog w (K w.params) mg base (CX w) k fa fd [x] (sp w))
    (hsp : ∀ (w : World) (H : Hp) (a : Addr) (ns : List Int), ns.length ≤ n → Only H → SqL (K w.params) H a (ns.map V.int) → sp w [.ref a] H (fun v _ => v = .bl true) fun _ _ _ => False)
    (hCX : ∀ (w : World) (H : Hp) (s : Shared) (e : Value) (s' : Shared), CX w [] H s (fun _ _ _ => False) e s' → False) :
    PySem.W.WalkO q loose XP YP l.row.toRowW d [] (fun f vs => PySem.call f vs) := by
  refine Att.attach_call hn hdf fun w s₀ s₁ mg mb fa o pm cd doc a vs ns G Y ho hd hcd hmg hobj hints hlen hg => ?_
  have KX := hY w _ Y
  obtain ⟨fd, hb, hF⟩ := F w mg fa _ KX G.T.g hmg
  exact law_call KX G.T.g G.T.b G.T.builtins G.T.nolimit hg hobj hints (Nat.le_trans hlen hn2) hr hF hb (fun H hO hS => hsp w H a ns hlen hO hS) fun H e s' => hCX w H s₁ e s'
end L2

/- THE LAST THEOREM (shape; LID, My.* are yours):
   My.Adr: a structure of the addresses that your layer names (classes, functions); My.Txt K t: a structure (Prop) of the equations over K;
   My.txt_mk : {K} {implicit addresses ..} (e1 : nsIn K mainGlobals "law" = some (some (.ref f))) (e2 : K.lookup f = some ⟨oc, od, .func (fnOf "law" "law" params body scope dV kV doc pm an cdv ct), sl⟩) (e3 : codeIn K cdv "law" = true) .. : ∃ t, My.Txt K t

set_option maxRecDepth 100000 in
set_option maxHeartbeats 0 in
theorem PySem.Challenge.cw_LID_holds : PySem.Challenge.rw_LID.Holds := by
  w_on; o_law; k_head; (case hw => w_witness2)
  k_fill
  refine L2.walk_of (l := PySem.Challenge.rw_LID) (n := 63) (k := 40) (x := "script") (CX := fun w => ..) (sp := fun _ => My.sp_law) rfl (by decide) rfl ⟨rfl, by decide, by decide⟩ (fun w h Y => PySem.W.kIn_of Y) ?F ?S ?C
  case F =>
    intro w mg fa h KX G hmg
    have T : ∃ t, My.Txt (L2.KOf KX) t := by
      dsimp only [L2.KOf]                          -- K must stand as «<heap const> w.params» for k_is
      refine' My.txt_mk ?e1 ?e2 ?e3 ..
      (case e1 => PySem.W.k_is)                    -- in the order: a name -> its address -> its object -> its parts
      (case e2 => PySem.W.k_is)
      ..
    obtain ⟨t, T⟩ := T
    have e0 := hmg.symm.trans (PySem.W.mg_of KX G T.law)
    cases e0                                       -- fa is the law's own address
    exact ⟨_, fun s u => .of_eq rfl, fun base kb nb => My.law_fn T kb nb⟩     -- if «.of_eq rfl» comes too early: refine' ⟨_, ?b, fun base kb nb => My.law_fn T kb nb⟩; exact fun s u => .of_eq rfl
  case S => exact fun w H a ns hl hO hS => ..
  case C => exact ..
(the tactic k_is has no namespace: write k_is) -/

/-! SHORT WORDS over the layer: a def of the text, its body, what a loop and a test want. -/
namespace L2
open PySem PySem.Spec PyProof.Rows

/-! ### the text by places -/
def defArgs (s : Stmt) : Arguments := match s with
  | .FunctionDef _ a _ _ _ _ _ _ _ _ => a
  | _ => { posonlyargs := [], args := [], vararg := none, kwonlyargs := [], kw_defaults := [], kwarg := none, defaults := [] }
def defBody (s : Stmt) : List Stmt := match s with
  | .FunctionDef _ _ b _ _ _ _ _ _ _ => b
  | _ => []
def defScope (s : Stmt) : Scope := match s with
  | .FunctionDef _ _ _ _ _ _ sc _ _ _ => sc
  | _ => { kind := .function, names := [], isGenerator := false, isCoroutine := false }

/-! ### no exception leaves a def -/
abbrev CX0 : CXT := fun _ _ _ _ _ _ => False
abbrev E0 : XK := fun _ _ _ => False
theorem pass0 {X : Cx} : Passes CX0 X E0 := fun _ _ _ _ _ _ _ h => h.elim

/-! ### a def (or method) of the text as it stands behind the top -/
structure Fun (K : PySem.W.Frag) (x qual : Str) (st : Stmt) (f : Addr) (fd : FuncData) : Prop where
  ex : ∃ (oc : Value) (od : Option Addr) (kV doc pm : Value) (an : Option Addr) (cdv ct : Value) (osl : Array (Option Value)),
    fd = PySem.W.fnOf x qual (defArgs st) (defBody st) (defScope st) .none kV doc pm an cdv ct ∧ K.lookup f = some ⟨oc, od, .func fd, osl⟩ ∧ PySem.W.codeIn K cdv qual = true
  kp : PySem.W.keepIn K (.ref f) = true
section
variable {P : Program} {w : World} {K : PySem.W.Frag} {mg : Str → Option Value} {base : Heap}
/-- THE RULE for a def: its body as a term of rules, and the reading of that term -/
theorem Fun.ok {x qual : Str} {st : Stmt} {f : Addr} {fd : FuncData} {N ps : List Str} {k : Nat} {sp : Sp} (F : Fun K x qual st f fd) (S : FnScope N ps (defScope st)) (len : ∀ vs H Q E, sp vs H Q E → vs.length = ps.length)
    (hbody : ∀ (cdv : Value) (A : Around) (outer : List Env) (s : Shared) (H : Hp) (vs : List V) (Q : VK) (E : XK), Room k (A.deeper (envOfC qual (defScope st) s.heap.objs.size f cdv)) → sp vs H Q E →
      ∃ t, PSs (cxOf CX0 P w K mg base N qual (defScope st) f cdv A outer s H E).nox (defBody st) t ∧ t { nx := fun _ H' => Q .non H', rt := Q } (start N vs) H) : FnOk P w K mg base CX0 (k + 1) f fd ps sp := by
  obtain ⟨oc, od, kV, doc, pm, an, cdv, ct, osl, rfl, lk, hcd⟩ := F.ex
  refine fn_of lk hcd S len fun A outer s H vs Q E hr hsp => ?_
  obtain ⟨t, h, q⟩ := hbody cdv A outer s H vs Q E hr hsp
  exact ⟨t, h.nox, q⟩
/-- how its arguments bind (no defaults): h is «fun _ _ _ _ _ _ us hl => match us, hl with | [_, _], _ => rfl», one _ a parameter -/
theorem Fun.binds {x qual : Str} {st : Stmt} {f : Addr} {fd : FuncData} {ps : List Str} (F : Fun K x qual st f fd)
    (h : ∀ (kV doc pm : Value) (an : Option Addr) (cdv ct : Value) (us : List Value), us.length = ps.length → bindArgs (PySem.W.fnOf x qual (defArgs st) (defBody st) (defScope st) .none kV doc pm an cdv ct) ⟨us, []⟩ = pure (ps.zip us)) : Binds K fd ps [] := by
  obtain ⟨oc, od, kV, doc, pm, an, cdv, ct, osl, rfl, lk, hcd⟩ := F.ex
  exact .all (h kV doc pm an cdv ct)
theorem fun_mk {x qual : Str} {st : Stmt} {f : Addr} {oc : Value} {od an : Option Addr} {osl : Array (Option Value)} {kV doc pm cdv ct : Value} (l : K.lookup f = some ⟨oc, od, .func (PySem.W.fnOf x qual (defArgs st) (defBody st) (defScope st) .none kV doc pm an cdv ct), osl⟩)
    (c : PySem.W.codeIn K cdv qual = true) (k : PySem.W.keepIn K (.ref f) = true) : Fun K x qual st f (PySem.W.fnOf x qual (defArgs st) (defBody st) (defScope st) .none kV doc pm an cdv ct) := ⟨⟨oc, od, kV, doc, pm, an, cdv, ct, osl, rfl, l, c⟩, k⟩
end
/-! ### expressions in short: the name that stands in the i-th slot -/
section
variable {X : Cx}
theorem pv (i : Nat) {x : Str} {pos : Pos} (hN : X.N[i]? = some x := by rfl) (hv : Vis X.env.scope x := by first | exact Or.inl rfl | exact Or.inr (Or.inl rfl) | exact Or.inr (Or.inr rfl)) (hd : (x == ("__debug__" : Str)) = false := by decide)
    (hcd : (x == ("__classdict__" : Str)) = false := by decide) : PE X (.Name x pos) (tVar i) := pe_var hN hv hd hcd
end

/-! ### tests -/
theorem iteF {A B : Prop} (h : B) : if false = true then A else B := by
  rw [if_neg Bool.false_ne_true]
  exact h
theorem iteT {A B : Prop} (h : A) : if true = true then A else B := by
  rw [if_pos rfl]
  exact h
theorem ite2 {c A B : Prop} [Decidable c] (h1 : c → A) (h2 : ¬ c → B) : if c then A else B := by
  by_cases h : c
  · rw [if_pos h]
    exact h1 h
  · rw [if_neg h]
    exact h2 h
theorem iteNS {c A B : Prop} [Decidable c] (hc : c) (h : B) : if (!decide c) = true then A else B := by
  rw [decide_eq_true hc]
  exact iteF h

/-! ### heaps -/
/-- all that was tracked is as it was -/
def Same (H H' : Hp) : Prop := ∀ b o, H b = some o → H' b = some o
theorem Same.refl (H : Hp) : Same H H := fun _ _ h => h
theorem Same.trans {H H1 H2 : Hp} (a : Same H H1) (b : Same H1 H2) : Same H H2 := fun c o h => b c o (a c o h)
theorem Same.free {H H' : Hp} (e : Same H H') {l : Addr} (h : H' l = Option.none) : H l = Option.none := by
  cases q : H l with
  | none => rfl
  | some o =>
    rw [e l o q] at h
    cases h
theorem Same.seq {K : PySem.W.Frag} {H H' : Hp} {a : Addr} {xs : List V} (e : Same H H') (h : SqL K H a xs) : SqL K H' a xs := by
  rcases h with (h | ⟨o, h⟩) | h
  · exact .inl (.inl (e _ _ h))
  · exact .inl (.inr ⟨o, e _ _ h⟩)
  · exact .inr h

end L2

namespace L2
open PySem PySem.Spec PyProof.Rows

/-! ### comprehensions: a clause's body, the clauses, the block -/
/-- the body of a comprehension from some place on; N: what stands behind it -/
abbrev TB := St → Hp → (St → Hp → Prop) → Prop
/-- the tests of a clause -/
def PTs (X : Cx) (ifs : List Expr) (t : TT) : Prop :=
  ∀ (pins : List (Addr × Obj)) (s : Shared) (σ : St) (H : Hp) (Q : Bool → Hp → Prop), Inv X pins σ H s → t σ H Q →
    wpAny (model X.prog X.w) X.A (forIn ifs true fun c r => if r = true then do let ok ← isTrue c X.env (eval c X.env); pure (ForInStep.yield ok) else pure (ForInStep.yield r)) (TP X pins σ Q) X.xe s
def tYes : TT := fun _ H Q => Q true H
theorem pts_nil {X : Cx} : PTs X [] tYes := fun _ _ _ H _ I h => wpAny_tests_nil ⟨H, I, h⟩
theorem pts_one {X : Cx} {c : Expr} {t : TT} (h : PT X c t) : PTs X [c] t := fun pins s σ H Q I hq => wpAny_tests_one (h pins s σ H Q I hq)

def compAfter (elt : Expr) (gens : List Comprehension) (scope : Scope) (pos : Pos) (d : Nat) (it acc : Value) (env : Env) : Sem Fin :=
  match gens[d + 1]? with
  | some g' => do
    let x ← eval g'.iter env
    standAt g'.iter.pos
    let x ← if g'.is_async != 0 then foldedIterable g'.iter x else foldedSetIterable g'.iter env x
    let _ ← runOwn (.compStart (.ListComp elt gens scope pos) (d + 1) (← holding [x] (if g'.is_async != 0 then asyncIter x else pyIter x)) acc env) env
    again (.compLoop (.ListComp elt gens scope pos) d it acc env)
  | none => do
    (do let _ ← call (.builtin "list.append") [acc, ← eval elt env])
    again (.compLoop (.ListComp elt gens scope pos) d it acc env)

theorem compTurn_at (elt : Expr) (gens : List Comprehension) (scope : Scope) (pos : Pos) (d : Nat) (it acc : Value) (env : Env) (target iter : Expr) (ifs : List Expr) (hg : gens[d]? = some ⟨target, iter, ifs, 0⟩) :
    compTurn (.ListComp elt gens scope pos) d it acc env = (do
      standAt iter.pos
      match ← pyNext it with
      | none => pure (.done .next)
      | some v => do
        letOwnedTupleGo target it v
        assign target env v
        let ok ← forIn ifs true fun c r => if r = true then do let ok ← isTrue c env (eval c env); pure (ForInStep.yield ok) else pure (ForInStep.yield r)
        if ok then compAfter elt gens scope pos d it acc env
        else again (.compLoop (.ListComp elt gens scope pos) d it acc env)) := by
  unfold compTurn compAfter
  simp only [hg]
  rfl

def bWalk (J : It) (g : TG) (t : TT) (b : TB) (N : St → Hp → Prop) (σ : St) (H : Hp) : Prop :=
  ∃ W : Nat → Nat → St → Hp → Prop, (∃ m, W 0 m σ H) ∧ ∀ i m σ H, W i m σ H →
    (J.stop i H ∧ N σ H) ∨ (J.go i H ∧ ∃ N' : St → Hp → Prop, (∀ σ' H', N' σ' H' → ∃ m', m' < m ∧ W (i + 1) m' σ' H') ∧ ∀ x H', J.yld i H x H' → g x σ H' fun σ2 H2 => t σ2 H2 fun k H3 => if k = true then b σ2 H3 N' else N' σ2 H3)
/-- what stands behind the tests of a clause -/
def PAf (X : Cx) (elt : Expr) (gens : List Comprehension) (scope : Scope) (pos : Pos) (d : Nat) (it acc : Value) (b : TB) : Prop :=
  ∀ (pins : List (Addr × Obj)) (s : Shared) (σ : St) (H : Hp) (N : St → Hp → Prop), Inv X pins σ H s → b σ H N →
    wpAny (model X.prog X.w) X.A (compAfter elt gens scope pos d it acc X.env) (fun fin s' => fin = .again (.compLoop (.ListComp elt gens scope pos) d it acc X.env) ∧ ∃ σ' H', Inv X pins σ' H' s' ∧ N σ' H') X.xe s
section
variable {X : Cx} {elt tg iter : Expr} {ifs : List Expr} {gens : List Comprehension} {scope : Scope} {pos : Pos} {d : Nat} {acc : Value}
theorem comp_loop {g : TG} {t : TT} {b : TB} {N : St → Hp → Prop} {J : It} {fp : List Addr} {it : Addr} {tn : Nat → Heap → Prop} {pins : List (Addr × Obj)} {s : Shared} {σ : St} {H : Hp}
    (hx : X.xe = fun _ _ => False) (hc : X.calm = true) (hg : gens[d]? = some ⟨tg, iter, ifs, 0⟩) (hgt : PG X tg g) (ht : PTs X ifs t) (hb : PAf X elt gens scope pos d (.ref it) acc b)
    (T : Turn X.prog X.w X.K tg J fp it tn) (I : Inv X pins σ H s) (st : tn 0 s.heap) (f2 : ∀ b ∈ fp, FpOk X pins H b) (w : bWalk J g t b N σ H) :
    codeAny (model X.prog X.w) X.A (.compLoop (.ListComp elt gens scope pos) d (.ref it) acc X.env) (fun r s' => match r with | .ok _ => ∃ σ' H', Inv X pins σ' H' s' ∧ N σ' H' | .error _ => False) s := by
  obtain ⟨W, ⟨m0, w0⟩, turn⟩ := w
  have stat : ∀ {H' : Hp}, (∀ b ∈ fp, H' b = none) → ∀ b ∈ fp, FpOk X pins H' b := fun hn b hb => ⟨hn b hb, (f2 b hb).2⟩
  refine codeAny_loop rfl (fun n s' => ∃ i σ' H', Inv X pins σ' H' s' ∧ tn i s'.heap ∧ (∀ b ∈ fp, H' b = none) ∧ W i n σ' H') ?_ m0 ⟨0, σ, H, I, st, fun b hb => (f2 b hb).1, w0⟩
  rintro n s3 ⟨i, σ3, H3, I3, st3, fr3, w3⟩
  show wpAny _ X.A ((compTurn (.ListComp elt gens scope pos) d (.ref it) acc X.env).onRaise (fun x => do noteFrame x X.env; theTreesLotGoes x)) _ _ s3
  refine wpAny_noted ?_
  rw [compTurn_at _ _ _ _ _ _ _ _ _ _ _ hg]
  have weak : ∀ {α : Type} {m : Sem α} {Q Q' : α → Shared → Prop} {E' : Value → Shared → Prop} {s : Shared}, wpAny (model X.prog X.w) X.A m Q X.xe s → (∀ a s, Q a s → Q' a s) → wpAny (model X.prog X.w) X.A m Q' E' s := fun h hQ => by
    rw [hx] at h
    exact wpAny_mono h hQ fun _ _ z => False.elim z
  refine wpAny_bind (wpAny_standAt (wpAny_bind ?_))
  rcases turn i n σ3 H3 w3 with ⟨stop, qn⟩ | ⟨go, N', hN, step⟩
  · refine weak (T.done X rfl rfl rfl hc i pins s3 σ3 H3 X.xe I3 (stat fr3) st3 stop) fun r s4 ⟨hr, I4⟩ => ?_
    subst hr
    exact wpAny_pure ⟨σ3, H3, I4, qn⟩
  · refine weak (T.item X rfl rfl rfl hc i pins s3 σ3 H3 X.xe I3 (stat fr3) st3 go) fun r s4 ⟨u, hr, h4⟩ => ?_
    subst hr
    refine wpAny_bind (weak h4 fun _ s5 ⟨x, H5, I5, r5, y5, st5, fr5⟩ => ?_)
    have I5' := I5.pinned (stat fr5) (T.obj _ _ st5)
    refine wpAny_bind (weak (hgt _ s5 σ3 H5 x u _ I5' r5 (step x H5 y5)) fun _ s6 ⟨σ6, H6, I6, q6⟩ => ?_)
    refine wpAny_bind (weak (ht _ s6 σ6 H6 _ I6 q6) fun k s7 ⟨H7, I7, q7⟩ => ?_)
    have again : ∀ {s8 : Shared} {σ8 : St} {H8 : Hp}, Inv X (pins ++ pinsAt fp s5.heap) σ8 H8 s8 → N' σ8 H8 → ∃ m, m < n ∧ ∃ i σ' H', Inv X pins σ' H' s8 ∧ tn i s8.heap ∧ (∀ b ∈ fp, H' b = none) ∧ W i m σ' H' := fun {s8 σ8 H8} I8 n8 => by
      obtain ⟨m', hm, w8⟩ := hN σ8 H8 n8
      refine ⟨m', hm, i + 1, σ8, H8, I8.unpinned, T.keep _ _ _ st5 fun b hb o e => (I8.pin (b, o) (List.mem_append_right _ (List.mem_append_right _ (mem_pinsAt hb e)))).1, fun b hb => ?_, w8⟩
      obtain ⟨o, e, d⟩ := T.obj _ _ st5 b hb
      exact (I8.pin (b, o) (List.mem_append_right _ (List.mem_append_right _ (mem_pinsAt hb e)))).2.1
    cases k with
    | false => exact wpAny_pure ⟨rfl, again I7 q7⟩
    | true =>
      refine weak (hb _ s7 σ6 H7 N' I7 q7) fun fin s8 ⟨e, σ8, H8, I8, q8⟩ => ?_
      subst e
      exact ⟨rfl, again I8 q8⟩
/-- the start of a clause: it is asked for its iterator again -/
theorem comp_start {R : Result → Shared → Prop} {it : Value} {s : Shared} {env : Env} {P : Program} {w : World} {A : Around} (hg : gens[d]? = some ⟨tg, iter, ifs, 0⟩)
    (h0 : codeAny (model P w) A (.compLoop (.ListComp elt gens scope pos) d it acc env) R s)
    (h : wpAny (model P w) A (pyIter it) (fun it' s' => codeAny (model P w) A (.compLoop (.ListComp elt gens scope pos) d it' acc env) R s') (notedBy (model P w) A env fun x s' => R (.error x) s') s) :
    codeAny (model P w) A (.compStart (.ListComp elt gens scope pos) d it acc env) R s := by
  refine codeAny_of_tree ?_
  show wpAny _ _ ((compStart (.ListComp elt gens scope pos) d it acc env).onRaise (fun x => do noteFrame x env; standAt theWindowsPlace)) _ _ s
  refine wpAny_notedAt ?_
  unfold compStart
  show wpAny _ _ (if (gens[d]?).elim false (·.is_async != 0) = true then _ else _) _ _ s
  rw [hg]
  show wpAny _ _ (ask >>= _) _ _ s
  refine wpAny_bind (wpAny_askSetting (wpAny_ite ?_))
  split
  · first
      | exact wpAny_bind (wpAny_pure (wpAny_pure (And.intro rfl h0)))
      | exact wpAny_pure (And.intro rfl h0)
  · refine wpAny_bind (wpAny_rule ?_)
    dsimp only [clausesOf]
    rw [hg]
    exact wpAny_bind (wpAny_standAt (wpAny_bind (wpAny_mono h (fun it' s' h' => wpAny_pure (And.intro rfl h')) fun _ _ x => x)))
/-- the last clause: the element is put behind the list -/
def bEmit (acc : Addr) (te : TE) : TB := fun σ H N => te σ H fun x H1 => ∃ xs, H1 acc = some (.lst xs) ∧ xs.length < sizeLine ∧ N σ (upd H1 acc (.lst (xs ++ [x])))
theorem paf_emit {it : Value} {a : Addr} {te : TE} (h1 : gens[d + 1]? = none) (he : PE X elt te) : PAf X elt gens scope pos d it (.ref a) (bEmit a te) := by
  intro pins s σ H N I h
  unfold compAfter
  rw [h1]
  refine wpAny_bind (wpAny_bind (thn (he pins s σ H _ I h) fun v s1 ⟨x, H1, I1, r1, xs, e, z, q⟩ => ?_))
  refine wpAny_bind (thn (mt_append pins s1 σ H1 (.ref a) [x] (.ref a) [v] (fun _ H2 => N σ H2) I1 rfl (.cons r1 .nil) ⟨a, xs, x, rfl, rfl, e, z, q⟩) fun _ s2 ⟨_, H2, I2, _, q2⟩ => ?_)
  exact wpAny_pure (wpAny_pure ⟨rfl, σ, H2, I2, q2⟩)
/-- a further clause -/
def bFor (wi : TI) (g : TG) (t : TT) (b : TB) : TB := fun σ H N => wi σ H fun J H1 => bWalk J g t b N σ H1
theorem paf_for {it : Value} {tg' iter' : Expr} {ifs' : List Expr} {wi : TI} {g : TG} {t : TT} {b : TB} (hx : X.xe = fun _ _ => False) (hc : X.calm = true) (h1 : gens[d + 1]? = some ⟨tg', iter', ifs', 0⟩)
    (hi : PI X tg' iter' wi) (hgt : PG X tg' g) (ht : PTs X ifs' t) (hb : ∀ it', PAf X elt gens scope pos (d + 1) (.ref it') acc b)
    (hs : ∀ x, foldedSetIterable iter' X.env x = pure x := by intro _; rfl) : PAf X elt gens scope pos d it acc (bFor wi g t b) := by
  intro pins s σ H N I h
  unfold compAfter
  rw [h1]
  refine wpAny_bind (thn (hi pins s σ H _ I h) fun v s1 hi1 => ?_)
  refine wpAny_bind (wpAny_standAt ?_)
  show wpAny _ _ (foldedSetIterable iter' X.env v >>= _) _ _ s1
  refine wpAny_bind (wpAny_of_eq (hs v) (wpAny_bind (wpAny_holding (thn hi1 fun itv s2 h2 => ?_))))
  obtain ⟨it', fp, tn, J, H2, e, I2, T, st2, f2, w2⟩ := h2
  subst e
  have lp := comp_loop (elt := elt) (scope := scope) (pos := pos) hx hc h1 hgt ht (hb it') T I2 st2 f2 w2
  refine wpAny_bind (wpAny_runOwn (codeAny_mono (R := fun r s' => match r with | .ok _ => ∃ σ' H', Inv X pins σ' H' s' ∧ N σ' H' | .error _ => False) (comp_start h1 lp (T.self _ _ _ _ _ st2 lp)) fun r s3 q3 => ?_))
  cases r with
  | ok f =>
    exact wpAny_pure ⟨rfl, q3⟩
  | error e => exact False.elim q3
end
end L2

namespace L2
open PySem PySem.Spec PyProof.Rows

theorem closure_of {env : Env} {scope : Scope} (h : ∀ x ∈ scope.names, x.2 = .free → ∃ c, env.cells.lookup x.1 = some c) :
    ∃ cl, closureFor scope env = pure cl ∧ (∀ x c, cl.lookup x = some c → env.cells.lookup x = some c) ∧ ∀ x ∈ scope.names, x.2 = .free → ∃ c, cl.lookup x.1 = some c := by
  have key : ∀ (names : List (Str × NameKind)) (acc : List (Str × Addr)), (∀ x ∈ names, x.2 = .free → ∃ c, env.cells.lookup x.1 = some c) → (∀ x c, acc.lookup x = some c → env.cells.lookup x = some c) →
      ∃ cl : List (Str × Addr), (forIn names acc fun (x : Str × NameKind) (r : List (Str × Addr)) => if (x.2 == NameKind.free) = true then do let a ← cellOf env x.1; pure (ForInStep.yield ((x.1, a) :: r)) else pure (ForInStep.yield r) : Sem (List (Str × Addr))) = pure cl ∧
        (∀ x c, cl.lookup x = some c → env.cells.lookup x = some c) ∧ (∀ x c, acc.lookup x = some c → ∃ c', cl.lookup x = some c') ∧ ∀ x ∈ names, x.2 = .free → ∃ c, cl.lookup x.1 = some c := by
    intro names
    induction names with
    | nil => intro acc _ ha; exact ⟨acc, rfl, ha, fun x c e => ⟨c, e⟩, fun _ z => nomatch z⟩
    | cons x r ih =>
      intro acc hn ha
      by_cases hk : (x.2 == NameKind.free) = true
      · obtain ⟨c, hc⟩ := hn x List.mem_cons_self (by simpa using hk)
        have ha' : ∀ y d, List.lookup y ((x.1, c) :: acc) = some d → env.cells.lookup y = some d := by
          intro y d e
          rw [List.lookup_cons] at e
          cases hy : y == x.1 with
          | true => rw [hy] at e; cases e; rw [beq_iff_eq.mp hy]; exact hc
          | false => rw [hy] at e; exact ha y d e
        obtain ⟨cl, e1, e2, e3, e4⟩ := ih ((x.1, c) :: acc) (fun y hy => hn y (List.mem_cons_of_mem _ hy)) ha'
        refine ⟨cl, ?_, e2, fun y d e => ?_, fun y hy hf => ?_⟩
        · rw [List.forIn_cons]
          simp only [hk, if_true, cellOf, hc]
          exact e1
        · cases hy : y == x.1 with
          | true => exact e3 y c (by rw [List.lookup_cons, hy])
          | false => exact e3 y d (by rw [List.lookup_cons, hy]; exact e)
        · rcases List.mem_cons.mp hy with rfl | hy
          · exact e3 y.1 c (by rw [List.lookup_cons, beq_self_eq_true])
          · exact e4 y hy hf
      · obtain ⟨cl, e1, e2, e3, e4⟩ := ih acc (fun y hy => hn y (List.mem_cons_of_mem _ hy)) ha
        refine ⟨cl, ?_, e2, e3, fun y hy hf => ?_⟩
        · rw [List.forIn_cons]
          simp only [hk, if_false]
          exact e1
        · rcases List.mem_cons.mp hy with rfl | hy
          · exact absurd (by simpa using hf) hk
          · exact e4 y hy hf
  obtain ⟨cl, e1, e2, _, e4⟩ := key scope.names [] h (fun _ _ z => by simp at z)
  refine ⟨cl, ?_, e2, e4⟩
  unfold closureFor
  show (forIn scope.names [] _ >>= fun cs => pure cs) = _
  exact (congrArg (fun m => m >>= fun cs => (pure cs : Sem _)) e1)
theorem relabel_free {env : Env} : ∀ {names : List (Str × NameKind)} {x : Str}, names.lookup x = some .free →
    ∃ k, (k = NameKind.cell ∨ k = NameKind.free) ∧ (names.map fun (n, k) => if (k == NameKind.free && env.scope.kind == .function && env.kindOf n == some .cell) then (n, NameKind.cell) else (n, k)).lookup x = some k
  | [], _, h => by simp at h
  | (n, k) :: r, x, h => by
    have ih := @relabel_free env r x
    show ∃ k', _ ∧ List.lookup x ((if (k == NameKind.free && env.scope.kind == .function && env.kindOf n == some .cell) = true then (n, NameKind.cell) else (n, k)) :: _) = _
    cases hx : x == n with
    | true =>
      simp only [List.lookup_cons, hx] at h
      cases h
      by_cases hc : (NameKind.free == NameKind.free && env.scope.kind == .function && env.kindOf n == some .cell) = true
      · rw [if_pos hc]; exact ⟨.cell, .inl rfl, by simp only [List.lookup_cons, hx]⟩
      · rw [if_neg hc]; exact ⟨.free, .inr rfl, by simp only [List.lookup_cons, hx]⟩
    | false =>
      simp only [List.lookup_cons, hx] at h
      obtain ⟨k', hk', e⟩ := ih h
      refine ⟨k', hk', ?_⟩
      by_cases hc : (k == NameKind.free && env.scope.kind == .function && env.kindOf n == some .cell) = true
      · rw [if_pos hc]; simp only [List.lookup_cons, hx]; exact e
      · rw [if_neg hc]; simp only [List.lookup_cons, hx]; exact e
theorem of_relabel {env : Env} : ∀ {names : List (Str × NameKind)} {x : Str} {k' : NameKind}, (k' = .cell ∨ k' = .free) → (∀ y ∈ names, y.2 ≠ .cell) →
    (names.map fun (n, k) => if (k == NameKind.free && env.scope.kind == .function && env.kindOf n == some .cell) then (n, NameKind.cell) else (n, k)).lookup x = some k' → (x, NameKind.free) ∈ names
  | [], _, _, _, _, h => by simp at h
  | (n, k) :: r, x, k', hk', hc, h => by
    have h2 : List.lookup x ((if (k == NameKind.free && env.scope.kind == .function && env.kindOf n == some .cell) = true then (n, NameKind.cell) else (n, k)) :: (r.map fun (n, k) => if (k == NameKind.free && env.scope.kind == .function && env.kindOf n == some .cell) then (n, NameKind.cell) else (n, k))) = some k' := h
    have ih := @of_relabel env r x k' hk' (fun y hy => hc y (List.mem_cons_of_mem _ hy))
    cases hx : x == n with
    | true =>
      have e : x = n := beq_iff_eq.mp hx
      subst e
      by_cases hk : k = .free
      · subst hk; exact List.mem_cons_self
      · have hkf : (k == NameKind.free) = false := by simpa using hk
        simp only [hkf, Bool.false_and, Bool.false_eq_true, if_false, List.lookup_cons, beq_self_eq_true, Option.some.injEq] at h2
        subst h2
        rcases hk' with z | z
        · exact absurd z (hc (x, k) List.mem_cons_self)
        · exact absurd z hk
    | false =>
      refine List.mem_cons_of_mem _ (ih ?_)
      by_cases hcc : (k == NameKind.free && env.scope.kind == .function && env.kindOf n == some .cell) = true
      · rw [if_pos hcc] at h2; simp only [List.lookup_cons, hx] at h2; exact h2
      · rw [if_neg hcc] at h2; simp only [List.lookup_cons, hx] at h2; exact h2
end L2

namespace L2
open PySem PySem.Spec PyProof.Rows

/-- the slots of a comprehension's block: for each of its names the outer slot that it is caught from, or none (its own) -/
def capt (cap : List (Option Nat)) (σ : St) : St := cap.map fun o => match o with | some i => (σ[i]?).join | none => none
def blkOk (No : List Str) (sc : Scope) (N : List Str) (cap : List (Option Nat)) (scope : Scope) : Bool :=
  scope.kind == .function && cap.length == N.length
    && scope.names.all (fun y => y.2 != .cell && (y.2 != .local || scope.names.lookup y.1 == some .local) && (y.2 != .free || (sc.names.lookup y.1 == some .cell || sc.names.lookup y.1 == some .free)))
    && (cap.zip N).all (fun p => match p.1 with | none => true | some i => No[i]? == some p.2 && scope.names.lookup p.2 == some .free)
structure BlkOk (No : List Str) (sc : Scope) (N : List Str) (cap : List (Option Nat)) (scope : Scope) : Prop where
  kind : scope.kind = .function
  len : cap.length = N.length
  cell : ∀ y ∈ scope.names, y.2 ≠ .cell
  names : ∀ y ∈ scope.names, y.2 = .local → scope.names.lookup y.1 = some .local
  free : ∀ y ∈ scope.names, y.2 = .free → sc.names.lookup y.1 = some .cell ∨ sc.names.lookup y.1 = some .free
  cap : ∀ (j i : Nat) (x : Str), cap[j]? = some (some i) → N[j]? = some x → No[i]? = some x ∧ scope.names.lookup x = some .free
theorem blk_of {No : List Str} {sc : Scope} {N : List Str} {cap : List (Option Nat)} {scope : Scope} (h : blkOk No sc N cap scope = true) : BlkOk No sc N cap scope := by
  unfold blkOk at h
  simp only [Bool.and_eq_true, List.all_eq_true, beq_iff_eq, bne_iff_ne, Bool.or_eq_true] at h
  obtain ⟨⟨⟨h1, h2⟩, h3⟩, h4⟩ := h
  refine ⟨h1, h2, fun y hy => (h3 y hy).1.1, fun y hy hl => ?_, fun y hy hf => ?_, fun j i x e1 e2 => ?_⟩
  · rcases (h3 y hy).1.2 with z | z
    · exact absurd hl z
    · exact z
  · rcases (h3 y hy).2 with z | z
    · exact absurd hf z
    · exact z
  · have hm : (some i, x) ∈ cap.zip N := by
      refine List.mem_of_getElem? (i := j) ?_
      rw [List.getElem?_zip_eq_some]
      exact ⟨e1, e2⟩
    have := h4 _ hm
    simpa using this
abbrev Cx.blk (X : Cx) (N : List Str) (scope : Scope) (cl : List (Str × Addr)) (C : Addr) (s3 : Shared) (H3 : Hp) (fp : List Addr) : Cx :=
  { X with N := N, s₀ := s3, H₀ := H3, env := compEnvC scope cl C X.env, outer := X.stack, ex := fp, fn := fun _ => false, pn := [], xe := fun _ _ => False }
section
variable {X : Cx} {N : List Str} {cap : List (Option Nat)} {scope : Scope} {cl : List (Str × Addr)} {C : Addr} {s3 : Shared} {H3 : Hp} {fp : List Addr} {pins : List (Addr × Obj)} {σ : St}
theorem blk_in {h4 : Heap} {m : Str → Option Value} {tk : Nat} (I : Inv X pins σ H3 s3) (ok : BlkOk X.N X.env.scope N cap scope)
    (cl1 : ∀ x c, cl.lookup x = some c → X.env.cells.lookup x = some c) (cl2 : ∀ x ∈ scope.names, x.2 = .free → ∃ c, cl.lookup x.1 = some c)
    (hf : ∀ b ∈ fp, FpOk X pins H3 b ∧ b < s3.heap.objs.size) (hC : s3.heap.objs.size = C) (hn : h4.Ns C m) (hk : ∀ b o, s3.heap.get? b = some o → h4.get? b = some o) :
    Inv (X.blk N scope cl C s3 H3 fp) [] (capt cap σ) H3 { s3 with heap := h4, toks := tk } := by
  have ltC : ∀ b o, s3.heap.get? b = some o → b ≠ C := fun b o e => Nat.ne_of_lt (hC ▸ Heap.lt_size e)
  have cellK : ∀ x c, cl.lookup x = some c → ∃ v, h4.IsCell c v := fun x c e => by
    obtain ⟨v, o, ho, hd⟩ := I.cell x c (cl1 x c e)
    exact ⟨v, o, hk c o ho, hd⟩
  have fr : H3 C = none := I.hok.fresh (Nat.le_of_eq hC)
  refine ⟨⟨I.ok.mod, ?_, I.ok.glob, I.ok.blt, ?_, fun x y c e1 e2 => I.ok.inj x y c (cl1 _ _ e1) (cl1 _ _ e2), fun x hx => ?_, (fun x c z => nomatch z), I.ok.hd, I.ok.frames, .inl rfl, fun b hb => ⟨?_, fun x c e => ?_⟩,
    I.bs, Nat.le_trans I.ok.bsz I.sz, fun b o e hb => ?_, fun b hb hb2 => ?_, I.stack, I.stkFree⟩, rfl, I.bare, Un.kept hk, ⟨m, hn, fun j x v e1 e2 e3 => ?_⟩, cellK, fr, fun x c e => I.freeC x c (cl1 x c e), fun p hp => ?_, I.hok.kept hk, ?_⟩
  · exact ok.kind
  · exact Nat.le_of_eq hC
  · have hx' : ∃ k', (k' = NameKind.cell ∨ k' = NameKind.free) ∧ (relabel scope X.env).names.lookup x = some k' := by
      rcases hx with z | z
      · exact ⟨_, .inl rfl, z⟩
      · exact ⟨_, .inr rfl, z⟩
    obtain ⟨k', hk', z⟩ := hx'
    exact cl2 (x, .free) (of_relabel hk' ok.cell z) rfl
  · exact Nat.ne_of_lt (hC ▸ (hf b hb).2)
  · exact (hf b hb).1.2.2.2.2.1 x c (cl1 x c e)
  · rcases (hf b hb).1.2.2.2.1 with z | z
    · exact I.ok.noex b o e z
    · exact absurd (Nat.lt_of_lt_of_le (Heap.lt_size e) (Nat.le_trans I.ok.bsz z)) (Nat.lt_irrefl _)
  · rcases List.mem_cons.mp (I.stkSub b hb2) with z | z
    · exact (hf b hb).1.2.1 z
    · exact (hf b hb).1.2.2.1 z
  · unfold capt at e2
    rw [List.getElem?_map] at e2
    cases hj : cap[j]? with
    | none => rw [hj] at e2; cases e2
    | some o =>
      rw [hj] at e2
      cases o with
      | none => cases e2
      | some i =>
        obtain ⟨h1, h2⟩ := ok.cap j i x hj e1
        have e2' : (σ[i]?).join = some v := Option.some.inj e2
        have e4 : σ[i]? = some (some v) := by
          cases hs : σ[i]? with
          | none => rw [hs] at e2'; cases e2'
          | some o => rw [hs] at e2'; exact congrArg some e2'
        have hmem : (x, NameKind.free) ∈ scope.names := by
          have key : ∀ (l : List (Str × NameKind)), l.lookup x = some NameKind.free → (x, NameKind.free) ∈ l := by
            intro l
            induction l with
            | nil => intro z; simp at z
            | cons y r ih =>
              intro z
              rw [List.lookup_cons] at z
              cases hxy : x == y.1 with
              | true => rw [hxy] at z; have := beq_iff_eq.mp hxy; have z2 : y.2 = .free := Option.some.inj z; rw [this, ← z2]; exact List.mem_cons_self
              | false => rw [hxy] at z; exact List.mem_cons_of_mem _ (ih z)
          exact key _ h2
        have hout := ok.free _ hmem rfl
        obtain ⟨m', hn', hl'⟩ := I.loc
        obtain ⟨u, r, l⟩ := hl' i x v h1 e4 (.inr hout)
        refine ⟨u, r, .inr ⟨?_, ?_⟩⟩
        · obtain ⟨k', hk', e⟩ := relabel_free (env := X.env) h2
          rcases hk' with rfl | rfl
          · exact .inl e
          · exact .inr e
        · rcases l with ⟨kl, _⟩ | ⟨_, c, hc, o, ho, hd⟩
          · rcases hout with z | z
            · rw [show X.env.kindOf x = some .cell from z] at kl; cases kl
            · rw [show X.env.kindOf x = some .free from z] at kl; cases kl
          · obtain ⟨c', hc'⟩ := cl2 _ hmem rfl
            have e := cl1 _ _ hc'
            have e' : X.env.cells.lookup x = some c' := e
            rw [hc] at e'
            cases e'
            exact ⟨c, hc', o, hk c o ho, hd⟩
  · exact nomatch hp
  · unfold capt; rw [List.length_map]; exact ok.len
theorem blk_out {σ' : St} {H' : Hp} {s' : Shared} {h' : Heap} (I : Inv X pins σ H3 s3) (I' : Inv (X.blk N scope cl C s3 H3 fp) [] σ' H' s') (hf : ∀ b ∈ fp, FpOk X pins H3 b) (hs : Heap.SameBut C s'.heap h') (hC : s3.heap.objs.size = C) :
    Inv X pins σ H' { s' with heap := h' } := by
  have hb := I'.base
  have neC : ∀ b o, s3.heap.get? b = some o → b ≠ C := fun b o e => Nat.ne_of_lt (hC ▸ Heap.lt_size e)
  have ext : ∀ b o, b ≠ C → s'.heap.get? b = some o → h'.get? b = some o := fun b o n e => hs.extBut b o n e
  refine I.call' (ch := fp) I'.os ⟨fun b o e n h1 h2 => ext b o (neC b o e) (hb.keep b o e n h1 h2), fun b o e n h1 h2 => ?_, fun b o e n h2 => hb.free b o e n h2, fun b o e h2 => ?_, hb.tups, hb.frzs, hb.tbls⟩ (fun b u e => ?_) I'.bare fun b hb => ?_
  · obtain ⟨sl, q⟩ := hb.slot b o e n h1 h2
    exact ⟨sl, ext b _ (neC b o e) q⟩
  · obtain ⟨o', q⟩ := hb.there b o e h2
    exact ⟨o', ext b o' (neC b o e) q⟩
  · have fr : H' C = none := I'.free
    refine (I'.hok b u e).stay (fun c v hc q => ext c v ?_ q) (fun _ q => q) fun _ _ q => q
    rintro rfl
    rcases hc with z | z
    · rw [← z, fr] at e; cases e
    · rw [fr] at z; cases z
  · obtain ⟨f0, f1, f2, f3, f4, f5⟩ := hf b hb
    exact ⟨f3, f1, f4, f5⟩
end
end L2

namespace L2
open PySem PySem.Spec PyProof.Rows

def tComp (wi : TI) (cap : List (Option Nat)) (g : TG) (t : TT) (b : Addr → TB) : TE := fun σ H Q =>
  wi σ H fun J H1 => ∀ acc, H1 acc = none → bWalk J g t (b acc) (fun _ H2 => Q (.ref acc) H2) (capt cap σ) (upd H1 acc (.lst []))
section
variable {X : Cx} {elt tg iter : Expr} {ifs : List Expr} {rest : List Comprehension} {scope : Scope} {pos : Pos} {N : List Str} {cap : List (Option Nat)} {wi : TI} {g : TG} {t : TT} {b : Addr → TB}
/-- the block, from its iterator on; RR: what is wanted behind it -/
theorem comp_block {pins : List (Addr × Obj)} {σ : St} {Q : VK} {s2 : Shared} {itv : Value} {cl : List (Str × Addr)} {RR : Value → Addr → Result → Shared → Prop} (hc : X.calm = true) (ok : BlkOk X.N X.env.scope N cap scope)
    (cl1 : ∀ x c, cl.lookup x = some c → X.env.cells.lookup x = some c) (cl2 : ∀ x ∈ scope.names, x.2 = .free → ∃ c, cl.lookup x.1 = some c)
    (hb : ∀ cl C s3 H3 fp, PG (X.blk N scope cl C s3 H3 fp) tg g ∧ PTs (X.blk N scope cl C s3 H3 fp) ifs t ∧ ∀ it acc, PAf (X.blk N scope cl C s3 H3 fp) elt (⟨tg, iter, ifs, 0⟩ :: rest) scope pos 0 (.ref it) (.ref acc) (b acc))
    (h : PIE X pins σ tg (fun J H1 => ∀ acc, H1 acc = none → bWalk J g t (b acc) (fun _ H2 => Q (.ref acc) H2) (capt cap σ) (upd H1 acc (.lst []))) itv s2)
    (hR : ∀ (acc C : Addr) (H' : Hp) (s' : Shared) (m : Str → Option Value), s'.heap.Ns C m → H' C = none → X.s₀.heap.objs.size ≤ C → C ≠ X.env.locals → (∀ x c, X.env.cells.lookup x = some c → c ≠ C) → (∀ p ∈ X.pn ++ pins, p.1 ≠ C) → (∀ h', Heap.SameBut C s'.heap h' → Inv X pins σ H' { s' with heap := h' }) → Q (.ref acc) H' → RR (.ref acc) C (.ok .next) s') :
    wpAny (model X.prog X.w) X.A (newList []) (fun acc s₃ => wpAny (model X.prog X.w) X.A (newFunctionEnv scope X.env.globals cl [] X.env.qual none .none (some X.env)) (fun cenv s₄ =>
      codeAny (model X.prog X.w) X.A (.compStart (.ListComp elt (⟨tg, iter, ifs, 0⟩ :: rest) scope pos) 0 itv acc { cenv with scope := relabel scope X.env }) (fun r s' => match r with | .ok _ => RR acc cenv.locals (.ok .next) s' | .error _ => False) s₄) X.xe s₃) X.xe s2 := by
  obtain ⟨it, fp, tn, J, H2, e, I2, T, st2, f2, q⟩ := h
  subst e
  refine wpAny_newObj_type (wpAny_newFunctionEnv ok.cell (by intro y hy; simp at hy) (fun h₁ hns₁ hsb₁ => ?_) ok.kind)
  dsimp only at hns₁ hsb₁ ⊢
  have I3 := I2.lnew (its := []) (ys := []) (t' := s2.toks) .nil (Nat.zero_le _)
  have fr : H2 s2.heap.objs.size = none := I2.hok.fresh (Nat.le_refl _)
  have hlt : ∀ b ∈ fp, b < s2.heap.objs.size := fun b hb => by
    obtain ⟨o, e, _⟩ := T.obj 0 _ st2 b hb
    exact Heap.lt_size e
  generalize hS3 : ({ s2 with heap := s2.heap.push { cls := .type "list", dict := none, data := .seq ([] : List Value).toArray } } : Shared) = s3 at *
  have hS : s3.heap = s2.heap.push { cls := .type "list", dict := none, data := .seq ([] : List Value).toArray } := by rw [← hS3]
  have hsz : s3.heap.objs.size = s2.heap.objs.size + 1 := by rw [hS, Heap.size_push]
  have I3' : Inv X pins σ (upd H2 s2.heap.objs.size (.lst [])) s3 := I3
  have hf3 : ∀ b ∈ fp, FpOk X pins (upd H2 s2.heap.objs.size (.lst [])) b ∧ b < s3.heap.objs.size := fun b hb => by
    have hl := hlt b hb
    refine ⟨⟨?_, (f2 b hb).2⟩, ?_⟩
    · rw [upd_ne (Nat.ne_of_lt hl)]; exact (f2 b hb).1
    · rw [hsz]; exact Nat.lt_succ_of_lt hl
  rw [← hS] at hns₁ hsb₁
  have kp : ∀ b o, s3.heap.get? b = some o → h₁.get? b = some o := fun b o e => hsb₁.extBut b o (Nat.ne_of_lt (Heap.lt_size e)) (Heap.get?_push_of_some _ e)
  have kp2 : ∀ b o, s2.heap.get? b = some o → h₁.get? b = some o := fun b o e => kp b o (by rw [hS]; exact Heap.get?_push_of_some _ e)
  rw [← hS]
  obtain ⟨hb1, hb2, hb3⟩ := hb cl s3.heap.objs.size s3 (upd H2 s2.heap.objs.size (.lst [])) fp
  have e4 : ∀ tk, ({ s2 with heap := h₁, toks := tk } : Shared) = { s3 with heap := h₁, toks := tk } := fun tk => by rw [← hS3]
  show codeAny _ _ (.compStart _ 0 (.ref it) (.ref s2.heap.objs.size) (compEnvC scope cl s3.heap.objs.size X.env)) _ _
  have I4 : Inv (X.blk N scope cl s3.heap.objs.size s3 (upd H2 s2.heap.objs.size (.lst [])) fp) [] (capt cap σ) (upd H2 s2.heap.objs.size (.lst [])) { s3 with heap := h₁, toks := s3.toks } :=
    blk_in (tk := s3.toks) I3' ok cl1 cl2 hf3 rfl hns₁ kp
  have f4 : ∀ b ∈ fp, FpOk (X.blk N scope cl s3.heap.objs.size s3 (upd H2 s2.heap.objs.size (.lst [])) fp) [] (upd H2 s2.heap.objs.size (.lst [])) b := fun b hb => by
    obtain ⟨⟨g0, g1, g2, g3, g4, g5⟩, g6⟩ := hf3 b hb
    refine ⟨g0, Nat.ne_of_lt g6, fun z => ?_, .inl hb, fun x c e => g4 x c (cl1 x c e), fun p hp => nomatch hp⟩
    rcases List.mem_cons.mp (I3'.stkSub b z) with z | z
    · exact g1 z
    · exact g2 z
  have st4 : tn 0 h₁ := T.keep 0 _ _ st2 fun b hb o e => kp2 b o e
  have lp : ∀ s4 : Shared, s4 = { s3 with heap := h₁, toks := s3.toks } → codeAny (model X.prog X.w) X.A (.compLoop (.ListComp elt (⟨tg, iter, ifs, 0⟩ :: rest) scope pos) 0 (.ref it) (.ref s2.heap.objs.size) (compEnvC scope cl s3.heap.objs.size X.env)) (fun r s' => match r with | .ok _ => RR (.ref s2.heap.objs.size) s3.heap.objs.size (.ok .next) s' | .error _ => False) s4 := by
    intro s4 e4
    rw [e4]
    have lp := comp_loop (X := X.blk N scope cl s3.heap.objs.size s3 (upd H2 s2.heap.objs.size (.lst [])) fp) (d := 0) (N := fun _ H2' => Q (.ref s2.heap.objs.size) H2') rfl hc rfl hb1 hb2 (hb3 it s2.heap.objs.size) T I4 st4 f4 (q _ fr)
    refine codeAny_mono lp fun r s' hr => ?_
    cases r with
    | error e => exact hr
    | ok f =>
      obtain ⟨σ', H', I', q'⟩ := hr
      obtain ⟨m, hn, _⟩ := I'.loc
      exact hR _ _ H' s' m hn I'.free I3'.sz (Nat.ne_of_gt I3'.lt) (fun x c e => by
        obtain ⟨v, z⟩ := I3'.cell x c e
        exact Nat.ne_of_lt z.lt) (fun p hp => Nat.ne_of_lt (Heap.lt_size (I3'.pin p hp).1)) (fun h' hs => blk_out I3' I' (fun b hb => (hf3 b hb).1) hs rfl) q'
  refine comp_start rfl (lp _ ?_) (T.self _ 0 _ _ _ st4 (lp _ ?_))
  · rw [← hS3]; rfl
  · rw [← hS3]; rfl

theorem clos_of {pins : List (Addr × Obj)} {σ : St} {H : Hp} {s : Shared} (I : Inv X pins σ H s) (ok : BlkOk X.N X.env.scope N cap scope) :
    ∃ cl, closureFor scope X.env = pure cl ∧ (∀ x c, cl.lookup x = some c → X.env.cells.lookup x = some c) ∧ ∀ x ∈ scope.names, x.2 = .free → ∃ c, cl.lookup x.1 = some c :=
  closure_of fun x hx hf => I.ok.has x.1 (ok.free x hx hf)

/-- [elt for tg in iter if .. for ..] -/
theorem pe_comp (hc : X.calm = true) (hok : blkOk X.N X.env.scope N cap scope = true) (hi : PI X tg iter wi)
    (hb : ∀ cl C s3 H3 fp, PG (X.blk N scope cl C s3 H3 fp) tg g ∧ PTs (X.blk N scope cl C s3 H3 fp) ifs t ∧ ∀ it acc, PAf (X.blk N scope cl C s3 H3 fp) elt (⟨tg, iter, ifs, 0⟩ :: rest) scope pos 0 (.ref it) (.ref acc) (b acc))
    (hs : ∀ x, foldedSetIterable iter X.env x = pure x := by intro _; rfl) : PE X (.ListComp elt (⟨tg, iter, ifs, 0⟩ :: rest) scope pos) (tComp wi cap g t b) := by
  intro pins s σ H Q I h
  have ok := blk_of hok
  obtain ⟨cl, e0, cl1, cl2⟩ := clos_of I ok
  rw [eval_ListComp]
  refine wpAny_comprehension_free (use := none) rfl hs e0 ok.kind ok.names (thn (hi pins s σ H _ I h) fun v s1 h1 => thn h1 fun itv s2 h2 => ?_)
  refine thn (comp_block (RR := fun acc C => compPost (model X.prog X.w) X.A X.xe none (EP X pins σ Q) acc C) hc ok cl1 cl2 hb h2 ?_) fun acc s3 h3 => thn h3 fun cenv s4 h4 => codeAny_mono h4 fun r s' hr => ?_
  · intro acc C H' s' m hn _ _ _ _ _ hI q
    exact ⟨m, hn, fun h' hs' => ⟨.ref acc, H', hI h' hs', rfl, q⟩⟩
  · cases r with
    | ok f => exact hr
    | error e => exact False.elim hr
/-- x = [elt for ..] where the store stands ahead of the block's end -/
theorem ps_setComp {i : Nat} {y : Str} {py spos : Pos} (hc : X.calm = true) (hok : blkOk X.N X.env.scope N cap scope = true) (hN : X.N.Nodup) (hy : X.N[i]? = some y) (hx : X.env.scope.names.lookup y = some .local) (hi : PI X tg iter wi)
    (hb : ∀ cl C s3 H3 fp, PG (X.blk N scope cl C s3 H3 fp) tg g ∧ PTs (X.blk N scope cl C s3 H3 fp) ifs t ∧ ∀ it acc, PAf (X.blk N scope cl C s3 H3 fp) elt (⟨tg, iter, ifs, 0⟩ :: rest) scope pos 0 (.ref it) (.ref acc) (b acc))
    (hs : ∀ x, foldedSetIterable iter X.env x = pure x := by intro _; rfl)
    (hsw : swapsWith (.ListComp elt (⟨tg, iter, ifs, 0⟩ :: rest) scope pos) (some (.Name y py)) spos.line X.env = pure true := by rfl) :
    PS X (.Assign [.Name y py] (.ListComp elt (⟨tg, iter, ifs, 0⟩ :: rest) scope pos) spos) (tAsg (tComp wi cap g t b) (gName i)) := by
  intro pins s σ H D I h
  have ok := blk_of hok
  obtain ⟨cl, e0, cl1, cl2⟩ := clos_of I ok
  rw [exec_Assign_Name_used _ _ _ _ hsw]
  refine wpAny_bind (wpAny_standAt (wpAny_bind ?_))
  show wpAny _ X.A (do let _ ← comprehension (.ListComp elt (⟨tg, iter, ifs, 0⟩ :: rest) scope pos) scope X.env _ (newList []) false (eval iter X.env) (some (assign (.Name y py) X.env))) _ _ s
  refine wpAny_bind (wpAny_mono (wpAny_comprehension_free (use := some (assign (.Name y py) X.env)) (Q := fun _ s' => SP X pins D .next s') rfl hs e0 ok.kind ok.names
    (thn (hi pins s σ H _ I h) fun v s1 h1 => thn h1 fun itv s2 h2 => ?_)) (fun _ s' hq => wpAny_pure (wpAny_pure hq)) fun _ _ e => e)
  refine thn (comp_block (RR := fun acc C => compPost (model X.prog X.w) X.A X.xe (some (assign (.Name y py) X.env)) (fun _ s' => SP X pins D .next s') acc C) (Q := fun v H2 => D.nx (σ.set i (some v)) H2) hc ok cl1 cl2 hb h2 ?_) fun acc s3 h3 => thn h3 fun cenv s4 h4 => codeAny_mono h4 fun r s' hr => ?_
  · intro acc C H' s' m hn hfr hC1 hC2 hC3 hC4 hI q
    have I' : Inv X pins σ H' s' := hI s'.heap (.refl ..)
    show wpAny _ _ (assign (.Name y py) X.env (.ref acc)) _ _ s'
    refine wpAny_assign_Name (store_ok2 I' hN hy (.inl hx) (v := .ref acc) rfl (fun s2 I2 ⟨a, hsa, ha⟩ => ?_) (.inr hx))
    have haC : C ≠ a := by
      rcases ha with z | z
      · rw [z]; exact hC2
      · exact Ne.symm (hC3 y a z)
    refine ⟨m, hn.sameBut hsa haC, fun h' hs' => ?_⟩
    exact ⟨_, H', I2.turned (it := C) (t' := s2.toks) (fun b o hb e => hs'.extBut b o hb e) hfr hC2 (.inr hC1) hC3 hC4, q⟩
  · cases r with
    | ok f => exact hr
    | error e => exact False.elim hr
end
end L2

namespace L2
open PySem PySem.Spec PyProof.Rows

/-! ### zip of two lists or tuples -/
/-- the iterator at it over the sequence at l, k items taken: of a tuple (b), of a list -/
def ZI (b : Bool) (h : Heap) (it l : Addr) (k : Nat) : Prop := ∃ o, h.get? it = some o ∧ o.cls = .type (if b then "tuple_iterator" else "list_iterator") ∧ o.data = .fields #[.ref l, .int k 0]
def ZS (b : Bool) (h : Heap) (l : Addr) (xs : Array Value) : Prop := ∃ o, h.get? l = some o ∧ o.cls = .type (if b then "tuple" else "list") ∧ ∃ n, o.data = .seq xs n
theorem ZI.at {b : Bool} {h h' : Heap} {it l : Addr} {k : Nat} (z : ZI b h it l k) (e : ∀ o, h.get? it = some o → h'.get? it = some o) : ZI b h' it l k := let ⟨o, ho, r⟩ := z; ⟨o, e o ho, r⟩
theorem ZS.at {b : Bool} {h h' : Heap} {l : Addr} {xs : Array Value} (z : ZS b h l xs) (e : ∀ o, h.get? l = some o → h'.get? l = some o) : ZS b h' l xs := let ⟨o, ho, r⟩ := z; ⟨o, e o ho, r⟩
section
variable {P : Program} {w : World} {A : Around} {E : Value → Shared → Prop} {s : Shared}
theorem nextOf_tup_item {it t : Addr} {i : Nat} {items : Array Value} {x : Value} {Q : Value → Shared → Prop} (hit : s.heap.IsTupleIter it t i) (ht : s.heap.IsTuple t items) (hx : items[i]? = some x)
    (hQ : ∀ h', h'.IsTupleIter it t (i + 1) → Heap.SameBut it s.heap h' → Q x { s with heap := h' }) : wpAny (model P w) A (Builtin.SmallTypes.nextOf (.ref it)) Q E s := by
  obtain ⟨o, ho, hc, hd⟩ := id hit
  obtain ⟨ol, hol, _, nl, hdl⟩ := ht
  unfold Builtin.SmallTypes.nextOf
  refine wpAny_bind (wpAny_callSpecial?_slot (name := Str.ofString "__next__") hit.typeIs F.slot_tuple_iterator_next (wpAny_call_entry F.slot_tuple_iterator_next hit.typeIs F.entry_tuple_iterator_next ?_ (F.args_tuple_iterator_next_1 _)))
  show wpAny _ _ (field (.ref it) 0 >>= _) _ _ s
  refine wpAny_bind (wpAny_field ho hd (x := .ref t) rfl ?_)
  show wpAny _ _ (if (Value.ref t == Value.none) = true then _ else _) _ _ s
  rw [if_neg (show ¬ ((Value.ref t == Value.none) = true) from Bool.false_ne_true)]
  show wpAny _ _ (field (.ref it) 1 >>= _) _ _ s
  refine wpAny_bind (wpAny_field ho hd (x := .int i 0) rfl ?_)
  show wpAny _ _ (seqItems? (.ref t) >>= _) _ _ s
  refine wpAny_bind (wpAny_seqItems hol hdl ?_)
  simp only [Int.toNat_natCast, hx]
  refine wpAny_bind (wpAny_setField ho hd (by simp) (wpAny_pure ⟨x, rfl, wpAny_pure (hQ _ ?_ (Heap.SameBut.update ..))⟩))
  exact ⟨_, Heap.get?_update_self _ ho (Obj.isFreed_of_fields (Obj.data_mapFields hd _)), (Obj.cls_mapFields ..).trans hc, by rw [Obj.data_mapFields hd]; simp [rawInt]⟩
theorem nextOf_tup_end {it t : Addr} {i : Nat} {items : Array Value} {Q : Value → Shared → Prop} (hh : A.handled = none) (hit : s.heap.IsTupleIter it t i) (ht : s.heap.IsTuple t items) (hx : items[i]? = none)
    (hE : ∀ h' e, Heap.ExtBut it s.heap h' → (∃ o, h'.get? e = some o ∧ o.cls = .type "StopIteration") → E (.ref e) { s with heap := h' }) : wpAny (model P w) A (Builtin.SmallTypes.nextOf (.ref it)) Q E s := by
  obtain ⟨o, ho, hc, hd⟩ := id hit
  obtain ⟨ol, hol, _, nl, hdl⟩ := ht
  unfold Builtin.SmallTypes.nextOf
  refine wpAny_bind (wpAny_callSpecial?_slot (name := Str.ofString "__next__") hit.typeIs F.slot_tuple_iterator_next (wpAny_call_entry F.slot_tuple_iterator_next hit.typeIs F.entry_tuple_iterator_next ?_ (F.args_tuple_iterator_next_1 _)))
  show wpAny _ _ (field (.ref it) 0 >>= _) _ _ s
  refine wpAny_bind (wpAny_field ho hd (x := .ref t) rfl ?_)
  show wpAny _ _ (if (Value.ref t == Value.none) = true then _ else _) _ _ s
  rw [if_neg (show ¬ ((Value.ref t == Value.none) = true) from Bool.false_ne_true)]
  show wpAny _ _ (field (.ref it) 1 >>= _) _ _ s
  refine wpAny_bind (wpAny_field ho hd (x := .int i 0) rfl ?_)
  show wpAny _ _ (seqItems? (.ref t) >>= _) _ _ s
  refine wpAny_bind (wpAny_seqItems hol hdl ?_)
  simp only [Int.toNat_natCast, hx]
  refine wpAny_bind (wpAny_rule (wpAny_bind (wpAny_setField ho hd (by simp) ?_)))
  show wpAny _ _ (newExc (.type "StopIteration") [] >>= _) _ _ _
  refine wpAny_bind ?_
  simp only [newExc, newTuple]
  refine wpAny_bind (wpAny_newObj_type ?_ (by size_fits))
  refine wpAny_bind (m := firstArgMember _ _) (wpAny_of_eq (a := Value.none) (by first | rfl | (simp only [firstArgMember]; rfl)) ?_)
  refine wpAny_newObj_type ?_ (by size_fits)
  simp only [raiseNew]
  refine wpAny_bind (wpAny_handled ?_)
  first | rw [show A.in1.handled = none from hh] | rw [hh]
  refine wpAny_bind (wpAny_pure (wpAny_throw ?_))
  exact hE _ _ (((Heap.SameBut.update ..).extBut.push _).push _) ⟨_, Heap.get?_push_size _ rfl, rfl⟩
theorem nextOf_item {b : Bool} {it l : Addr} {k : Nat} {xs : Array Value} {x : Value} {Q : Value → Shared → Prop} (hi : ZI b s.heap it l k) (hs : ZS b s.heap l xs) (hx : xs[k]? = some x)
    (hQ : ∀ h', ZI b h' it l (k + 1) → Heap.SameBut it s.heap h' → Q x { s with heap := h' }) : wpAny (model P w) A (Builtin.SmallTypes.nextOf (.ref it)) Q E s := by
  cases b with
  | true => exact nextOf_tup_item hi hs hx hQ
  | false => exact wpAny_nextOf_list_item hi hs hx hQ
theorem nextOf_end {b : Bool} {it l : Addr} {k : Nat} {xs : Array Value} {Q : Value → Shared → Prop} (hh : A.handled = none) (hi : ZI b s.heap it l k) (hs : ZS b s.heap l xs) (hx : xs[k]? = none)
    (hE : ∀ h' e, Heap.ExtBut it s.heap h' → (∃ o, h'.get? e = some o ∧ o.cls = .type "StopIteration") → E (.ref e) { s with heap := h' }) : wpAny (model P w) A (Builtin.SmallTypes.nextOf (.ref it)) Q E s := by
  cases b with
  | true => exact nextOf_tup_end hh hi hs hx hE
  | false => exact wpAny_nextOf_list_end hh hi hs hx hE
theorem iter_of {b : Bool} {l : Addr} {xs : Array Value} {Q : Value → Shared → Prop} (hs : ZS b s.heap l xs)
    (hQ : Q (.ref s.heap.objs.size) { s with heap := s.heap.push { cls := .type (if b then "tuple_iterator" else "list_iterator"), data := .fields #[.ref l, .int 0 0] } }) : wpAny (model P w) A (pyIter (.ref l)) Q E s := by
  cases b with
  | true => exact wpAny_pyIter_tuple hs hQ
  | false => exact wpAny_pyIter_list hs hQ
end
end L2

namespace L2
open PySem PySem.Spec PyProof.Rows
section
variable {P : Program} {w : World} {A : Around} {E : Value → Shared → Prop} {s : Shared}
structure ZApart (z TI TO i1 i2 l1 l2 : Addr) : Prop where
  a1 : TI ≠ z
  a2 : TO ≠ z
  a3 : i1 ≠ z
  a4 : i2 ≠ z
  a5 : TI ≠ TO
  a6 : TI ≠ i1
  a7 : TI ≠ i2
  a8 : TO ≠ i1
  a9 : TO ≠ i2
  a10 : i1 ≠ i2
  b1 : l1 ≠ z
  b2 : l1 ≠ TO
  b3 : l1 ≠ i1
  b4 : l1 ≠ i2
  c1 : l2 ≠ z
  c2 : l2 ≠ TO
  c3 : l2 ≠ i1
  c4 : l2 ≠ i2
/-- the state of a zip: k pairs handed out, the last one let go -/
structure ZSt (b1 b2 : Bool) (z TI TO i1 i2 l1 l2 : Addr) (f0 : Value) (k : Nat) (h : Heap) : Prop where
  zz : IsZip h z TI TO f0
  ti : IsPair h TI (.ref i1) (.ref i2)
  to : ∃ a b, IsPair h TO a b
  h1 : ZI b1 h i1 l1 k
  h2 : ZI b2 h i2 l2 k
theorem zip_item {b1 b2 : Bool} {z TI TO i1 i2 l1 l2 : Addr} {k : Nat} {xs ys : Array Value} {x y : Value} {Q : Value → Shared → Prop} (D : ZApart z TI TO i1 i2 l1 l2) (S : ZSt b1 b2 z TI TO i1 i2 l1 l2 .none k s.heap)
    (g1 : ZS b1 s.heap l1 xs) (g2 : ZS b2 s.heap l2 ys) (hx : xs[k]? = some x) (hy : ys[k]? = some y)
    (hQ : ∀ h', ZSt b1 b2 z TI TO i1 i2 l1 l2 (rawInt s.heap.objs.size) (k + 1) h' → IsPair h' s.heap.objs.size x y →
      (∀ c o, c ≠ z → c ≠ TO → c ≠ i1 → c ≠ i2 → s.heap.get? c = some o → h'.get? c = some o) → Q (.ref s.heap.objs.size) { s with heap := h' }) :
    wpAny (model P w) A (Builtin.«zip.__next__» ⟨[.ref z], []⟩) (fun fin s' => ∃ v, fin = .done (.ret v) ∧ Q v s') E s := by
  obtain ⟨zz, ti, ⟨a, b, to⟩, h1, h2⟩ := S
  show wpAny _ _ (field (.ref z) 2 >>= _) _ _ _
  refine wpAny_bind (wpAny_field zz rfl (x := .bool false) rfl ?_)
  show wpAny _ _ (field (.ref z) 3 >>= _) _ _ _
  refine wpAny_bind (wpAny_field zz rfl (x := .ref TI) rfl (wpAny_bind (wpAny_seqItems ti rfl ?_)))
  show wpAny _ _ (Builtin.SmallTypes.ownedTupleIsFree (.ref z) >>= _) _ _ _
  refine wpAny_bind ?_
  unfold Builtin.SmallTypes.ownedTupleIsFree
  refine wpAny_bind (wpAny_field zz rfl (x := .none) rfl (wpAny_pure ?_))
  simp only [if_true]
  refine wpAny_bind (wpAny_rule (wpAny_bind (wpAny_field zz rfl (x := .ref TO) rfl (wpAny_bind (wpAny_setField_rec zz (by simp) fun H1 z1 k1 => ?_)))))
  replace z1 : IsZip H1 z TI TO .ellipsis := z1
  refine wpAny_bind ?_
  simp only [List.zipIdx_cons, List.zipIdx_nil, List.forIn_cons, List.forIn_nil]
  -- the first one
  refine wpAny_bind (wpAny_bind (wpAny_onRaise ?_))
  show wpAny _ _ (Builtin.SmallTypes.nextOf (.ref i1) >>= _) _ _ _
  refine wpAny_bind (nextOf_item (h1.at fun o e => k1.extBut _ o D.a3 e) (g1.at fun o e => k1.extBut _ o D.b1 e) hx fun H2 j1 k2 => wpAny_pure ?_)
  have t2 : IsPair H2 TO a b := k2.extBut _ _ D.a8 (k1.extBut _ _ D.a2 to)
  refine wpAny_bind (wpAny_seqItems t2 rfl (wpAny_bind (wpAny_updateSeq_pair t2 fun H3 t3 k3 => ?_)))
  replace t3 : IsPair H3 TO x b := t3
  refine wpAny_bind (wpAny_letGo (wpAny_pure ?_))
  -- the second one
  refine wpAny_bind (wpAny_bind (wpAny_onRaise ?_))
  show wpAny _ _ (Builtin.SmallTypes.nextOf (.ref i2) >>= _) _ _ _
  have u3 : ∀ c o, c ≠ z → c ≠ TO → c ≠ i1 → s.heap.get? c = some o → H3.get? c = some o := fun c o c1 c2 c3 e => k3.extBut _ _ c2 (k2.extBut _ _ c3 (k1.extBut _ _ c1 e))
  refine wpAny_bind (nextOf_item (h2.at fun o e => u3 _ o D.a4 (Ne.symm D.a9) (Ne.symm D.a10) e) (g2.at fun o e => u3 _ o D.c1 D.c2 D.c3 e) hy fun H4 j2 k4 => wpAny_pure ?_)
  have t4 : IsPair H4 TO x b := k4.extBut _ _ D.a9 t3
  refine wpAny_bind (wpAny_seqItems t4 rfl (wpAny_bind (wpAny_updateSeq_pair t4 fun H5 t5 k5 => ?_)))
  replace t5 : IsPair H5 TO x y := t5
  refine wpAny_bind (wpAny_letGo (wpAny_pure (wpAny_pure (wpAny_bind (wpAny_seqItems t5 rfl (wpAny_bind (wpAny_newTuple ?_)))))))
  have sz : H5.objs.size = s.heap.objs.size := by rw [k5.1, k4.1, k3.1, k2.1, k1.1]
  have z5 : IsZip H5 z TI TO .ellipsis := k5.extBut _ _ (Ne.symm D.a2) (k4.extBut _ _ (Ne.symm D.a4) (k3.extBut _ _ (Ne.symm D.a2) (k2.extBut _ _ (Ne.symm D.a3) z1)))
  have u5 : ∀ c o, c ≠ z → c ≠ TO → c ≠ i1 → c ≠ i2 → s.heap.get? c = some o → H5.get? c = some o := fun c o c1 c2 c3 c4 e => k5.extBut _ _ c2 (k4.extBut _ _ c4 (u3 c o c1 c2 c3 e))
  have j1' : ZI b1 H5 i1 l1 (k + 1) := j1.at fun o e => k5.extBut _ _ (Ne.symm D.a8) (k4.extBut _ _ D.a10 (k3.extBut _ _ (Ne.symm D.a8) e))
  have j2' : ZI b2 H5 i2 l2 (k + 1) := j2.at fun o e => k5.extBut _ _ (Ne.symm D.a9) e
  have ltz : z < H5.objs.size := Heap.lt_size z5
  show wpAny _ _ (Builtin.SmallTypes.ownedTupleHandOut (.ref z) (.ref H5.objs.size) >>= _) _ _ _
  refine wpAny_bind ?_
  unfold Builtin.SmallTypes.ownedTupleHandOut
  have z6 : IsZip (H5.push { cls := .type "tuple", data := .seq #[x, y] }) z TI TO .ellipsis := Heap.get?_push_of_some _ z5
  refine wpAny_bind (wpAny_setField_rec z6 (by simp) fun H7 z7 k7 => ?_)
  replace z7 : IsZip H7 z TI TO (rawInt H5.objs.size) := z7
  refine wpAny_setField_rec z7 (by simp) fun H8 z8 k8 => ?_
  replace z8 : IsZip H8 z TI TO (rawInt H5.objs.size) := z8
  have up : ∀ c o, c ≠ z → H5.get? c = some o → H8.get? c = some o := fun c o c1 e => k8.extBut _ _ c1 (k7.extBut _ _ c1 (Heap.get?_push_of_some _ e))
  have t8 : IsPair H8 H5.objs.size x y := k8.extBut _ _ (Nat.ne_of_gt ltz) (k7.extBut _ _ (Nat.ne_of_gt ltz) (Heap.get?_push_size _ rfl))
  rw [sz] at z8 t8
  refine wpAny_pure ⟨_, rfl, ?_⟩
  show Q (.ref H5.objs.size) _
  rw [sz]
  exact hQ H8 ⟨z8, up _ _ D.a1 (u5 _ _ D.a1 D.a5 D.a6 D.a7 ti), ⟨_, _, up _ _ D.a2 t5⟩, j1'.at fun o e => up _ o D.a3 e, j2'.at fun o e => up _ o D.a4 e⟩ t8 fun c o c1 c2 c3 c4 e => up c o c1 (u5 c o c1 c2 c3 c4 e)
theorem zip_stop {b1 b2 : Bool} {z TI TO i1 i2 l1 l2 : Addr} {k : Nat} {xs ys : Array Value} {Q : Fin → Shared → Prop} (hh : A.handled = none) (D : ZApart z TI TO i1 i2 l1 l2) (S : ZSt b1 b2 z TI TO i1 i2 l1 l2 .none k s.heap)
    (g1 : ZS b1 s.heap l1 xs) (g2 : ZS b2 s.heap l2 ys) (hend : xs[k]? = none ∨ ys[k]? = none)
    (hE : ∀ h' e, (∀ c o, c ≠ z → c ≠ TO → c ≠ i1 → c ≠ i2 → s.heap.get? c = some o → h'.get? c = some o) → (∃ o, h'.get? e = some o ∧ o.cls = .type "StopIteration") → E (.ref e) { s with heap := h' }) :
    wpAny (model P w) A (Builtin.«zip.__next__» ⟨[.ref z], []⟩) Q E s := by
  obtain ⟨zz, ti, ⟨a, b, to⟩, h1, h2⟩ := S
  show wpAny _ _ (field (.ref z) 2 >>= _) _ _ _
  refine wpAny_bind (wpAny_field zz rfl (x := .bool false) rfl ?_)
  show wpAny _ _ (field (.ref z) 3 >>= _) _ _ _
  refine wpAny_bind (wpAny_field zz rfl (x := .ref TI) rfl (wpAny_bind (wpAny_seqItems ti rfl ?_)))
  show wpAny _ _ (Builtin.SmallTypes.ownedTupleIsFree (.ref z) >>= _) _ _ _
  refine wpAny_bind ?_
  unfold Builtin.SmallTypes.ownedTupleIsFree
  refine wpAny_bind (wpAny_field zz rfl (x := .none) rfl (wpAny_pure ?_))
  simp only [if_true]
  refine wpAny_bind (wpAny_rule (wpAny_bind (wpAny_field zz rfl (x := .ref TO) rfl (wpAny_bind (wpAny_setField_rec zz (by simp) fun H1 z1 k1 => ?_)))))
  replace z1 : IsZip H1 z TI TO .ellipsis := z1
  refine wpAny_bind ?_
  simp only [List.zipIdx_cons, List.zipIdx_nil, List.forIn_cons, List.forIn_nil]
  refine wpAny_bind (wpAny_bind (wpAny_onRaise ?_))
  show wpAny _ _ (Builtin.SmallTypes.nextOf (.ref i1) >>= _) _ _ _
  have q1 := h1.at fun o e => k1.extBut _ o D.a3 e
  have q2 := g1.at fun o e => k1.extBut _ o D.b1 e
  cases hx : xs[k]? with
  | none =>
    refine wpAny_bind (nextOf_end hh q1 q2 hx fun H2 e k2 he => ?_)
    obtain ⟨oe, hoe, hce⟩ := he
    have z2 : IsZip H2 z TI TO .ellipsis := k2 _ _ (Ne.symm D.a3) z1
    have hez : e ≠ z := fun q => by subst q; rw [z2] at hoe; cases hoe; simp at hce
    exact wpAny_setField_rec z2 (by simp) fun H3 _ k3 => hE H3 e (fun c o c1 _ c3 _ q => k3.extBut _ _ c1 (k2 _ _ c3 (k1.extBut _ _ c1 q))) ⟨oe, k3.extBut _ _ hez hoe, hce⟩
  | some x =>
    have hy : ys[k]? = none := by
      rcases hend with q | q
      · rw [hx] at q; cases q
      · exact q
    refine wpAny_bind (nextOf_item q1 q2 hx fun H2 j1 k2 => wpAny_pure ?_)
    have t2 : IsPair H2 TO a b := k2.extBut _ _ D.a8 (k1.extBut _ _ D.a2 to)
    refine wpAny_bind (wpAny_seqItems t2 rfl (wpAny_bind (wpAny_updateSeq_pair t2 fun H3 t3 k3 => ?_)))
    refine wpAny_bind (wpAny_letGo (wpAny_pure (wpAny_bind (wpAny_bind (wpAny_onRaise ?_)))))
    show wpAny _ _ (Builtin.SmallTypes.nextOf (.ref i2) >>= _) _ _ _
    have u3 : ∀ c o, c ≠ z → c ≠ TO → c ≠ i1 → s.heap.get? c = some o → H3.get? c = some o := fun c o c1 c2 c3 e => k3.extBut _ _ c2 (k2.extBut _ _ c3 (k1.extBut _ _ c1 e))
    refine wpAny_bind (nextOf_end hh (h2.at fun o e => u3 _ o D.a4 (Ne.symm D.a9) (Ne.symm D.a10) e) (g2.at fun o e => u3 _ o D.c1 D.c2 D.c3 e) hy fun H4 e k4 he => ?_)
    obtain ⟨oe, hoe, hce⟩ := he
    have z4 : IsZip H4 z TI TO .ellipsis := k4 _ _ (Ne.symm D.a4) (k3.extBut _ _ (Ne.symm D.a2) (k2.extBut _ _ (Ne.symm D.a3) z1))
    have hez : e ≠ z := fun q => by subst q; rw [z4] at hoe; cases hoe; simp at hce
    exact wpAny_setField_rec z4 (by simp) fun H5 _ k5 => hE H5 e (fun c o c1 c2 c3 c4 q => k5.extBut _ _ c1 (k4 _ _ c4 (u3 c o c1 c2 c3 q))) ⟨oe, k5.extBut _ _ hez hoe, hce⟩
theorem next_zip_item {b1 b2 : Bool} {z TI TO i1 i2 l1 l2 : Addr} {k : Nat} {xs ys : Array Value} {x y : Value} {Q : Option Value → Shared → Prop} (D : ZApart z TI TO i1 i2 l1 l2) (S : ZSt b1 b2 z TI TO i1 i2 l1 l2 .none k s.heap)
    (g1 : ZS b1 s.heap l1 xs) (g2 : ZS b2 s.heap l2 ys) (hx : xs[k]? = some x) (hy : ys[k]? = some y)
    (hQ : ∀ h', ZSt b1 b2 z TI TO i1 i2 l1 l2 (rawInt s.heap.objs.size) (k + 1) h' → IsPair h' s.heap.objs.size x y →
      (∀ c o, c ≠ z → c ≠ TO → c ≠ i1 → c ≠ i2 → s.heap.get? c = some o → h'.get? c = some o) → Q (some (.ref s.heap.objs.size)) { s with heap := h' }) :
    wpAny (model P w) A (pyNext (.ref z)) Q E s := by
  have hT : s.TypeIs (.ref z) "zip" := ⟨_, S.zz, rfl⟩
  unfold pyNext
  exact wpAny_bind (wpAny_attempt (wpAny_callSpecial?_slot (name := Str.ofString "__next__") hT F.slot_zip_next (wpAny_call_entry F.slot_zip_next hT F.entry_zip_next (zip_item D S g1 g2 hx hy fun h' q1 q2 q3 => wpAny_pure (hQ h' q1 q2 q3)) (F.args_zip_next_1 _))))
theorem next_zip_end {b1 b2 : Bool} {z TI TO i1 i2 l1 l2 : Addr} {k : Nat} {xs ys : Array Value} {Q : Option Value → Shared → Prop} (hh : A.handled = none) (D : ZApart z TI TO i1 i2 l1 l2) (S : ZSt b1 b2 z TI TO i1 i2 l1 l2 .none k s.heap)
    (g1 : ZS b1 s.heap l1 xs) (g2 : ZS b2 s.heap l2 ys) (hend : xs[k]? = none ∨ ys[k]? = none)
    (hQ : ∀ h', (∀ c o, c ≠ z → c ≠ TO → c ≠ i1 → c ≠ i2 → s.heap.get? c = some o → h'.get? c = some o) → Q none { s with heap := h' }) : wpAny (model P w) A (pyNext (.ref z)) Q E s := by
  have hT : s.TypeIs (.ref z) "zip" := ⟨_, S.zz, rfl⟩
  unfold pyNext
  refine wpAny_bind (wpAny_attempt (wpAny_callSpecial?_slot (name := Str.ofString "__next__") hT F.slot_zip_next (wpAny_call_entry F.slot_zip_next hT F.entry_zip_next (zip_stop hh D S g1 g2 hend fun h' e hk he => ?_) (F.args_zip_next_1 _))))
  obtain ⟨o, ho, hc⟩ := he
  exact wpAny_bind (wpAny_isInstance (T := "StopIteration") (b := true) ⟨o, ho, hc⟩ isSubtype_stop (wpAny_pure (hQ _ hk)))
end
end L2

namespace L2
open PySem PySem.Spec PyProof.Rows
abbrev itOb (b : Bool) (l : Addr) : Obj := { cls := .type (if b then "tuple_iterator" else "list_iterator"), data := .fields #[.ref l, .int 0 0] }
abbrev zh1 (h : Heap) (b1 : Bool) (l1 : Addr) : Heap := h.push (itOb b1 l1)
abbrev zh2 (h : Heap) (b1 b2 : Bool) (l1 l2 : Addr) : Heap := (zh1 h b1 l1).push (itOb b2 l2)
abbrev zh3 (h : Heap) (b1 b2 : Bool) (l1 l2 : Addr) : Heap := (zh2 h b1 b2 l1 l2).push { cls := .type "tuple", data := .seq #[.ref h.objs.size, .ref (zh1 h b1 l1).objs.size] }
abbrev zh4 (h : Heap) (b1 b2 : Bool) (l1 l2 : Addr) : Heap := (zh3 h b1 b2 l1 l2).push { cls := .type "tuple", data := .seq #[.none, .none] }
abbrev zh5 (h : Heap) (b1 b2 : Bool) (l1 l2 : Addr) : Heap := (zh4 h b1 b2 l1 l2).push { cls := .type "zip", data := .fields #[.none, .bool false, .bool false, .ref (zh2 h b1 b2 l1 l2).objs.size, .ref (zh3 h b1 b2 l1 l2).objs.size] }
theorem meets_zip (b1 b2 : Bool) (l1 l2 : Addr) (xs ys : Array Value) :
    Meets (Builtin.«zip.__new__» ⟨[.type "zip", .ref l1, .ref l2], []⟩) (fun _ R s => ZS b1 s.heap l1 xs ∧ ZS b2 s.heap l2 ys ∧ R (.ok (.ret (.ref (zh4 s.heap b1 b2 l1 l2).objs.size))) { s with heap := zh5 s.heap b1 b2 l1 l2 }) :=
  .of_wp fun prog w A R s h => by
    obtain ⟨hp, g, d, tk, os⟩ := s
    obtain ⟨hl1, hl2, h⟩ := h
    have hsub := sub_zip
    have q1 : ZS b1 (Shared.heap ⟨hp, g, d, tk, os⟩) l1 xs := hl1
    have q2 : ZS b2 (Shared.heap ⟨hp.push (itOb b1 l1), g, d, tk, os⟩) l2 ys := hl2.at fun o e => Heap.get?_push_of_some _ e
    wp_walk using iter_of q1, iter_of q2
    exact ⟨_, rfl, h⟩
section
variable {P : Program} {w : World} {A : Around} {E : Value → Shared → Prop} {s : Shared}
theorem call_zip {b1 b2 : Bool} {l1 l2 : Addr} {xs ys : Array Value} {Q : Value → Shared → Prop} (g1 : ZS b1 s.heap l1 xs) (g2 : ZS b2 s.heap l2 ys)
    (h : ∀ h', ZSt b1 b2 (s.heap.objs.size + 4) (s.heap.objs.size + 2) (s.heap.objs.size + 3) s.heap.objs.size (s.heap.objs.size + 1) l1 l2 .none 0 h' → (∀ c o, s.heap.get? c = some o → h'.get? c = some o) → Q (.ref (s.heap.objs.size + 4)) { s with heap := h' }) :
    wpAny (model P w) A (call (.type "zip") [.ref l1, .ref l2]) Q E s := by
  refine callType_new F.called_zip (by decide) (F.typeCall_zip_2 _ _) (F.newCall_zip_2 _ _) (fun obj => F.args_object_init_3 obj _ _) F.entry_zip_new (meets_zip b1 b2 l1 l2 xs ys) ⟨g1, g2, ?_⟩
  have z1 : (zh1 s.heap b1 l1).objs.size = s.heap.objs.size + 1 := Heap.size_push ..
  have z2 : (zh2 s.heap b1 b2 l1 l2).objs.size = s.heap.objs.size + 2 := by rw [Heap.size_push, z1]
  have z3 : (zh3 s.heap b1 b2 l1 l2).objs.size = s.heap.objs.size + 3 := by rw [Heap.size_push, z2]
  have z4 : (zh4 s.heap b1 b2 l1 l2).objs.size = s.heap.objs.size + 4 := by rw [Heap.size_push, z3]
  have e5 : (zh5 s.heap b1 b2 l1 l2).get? (zh4 s.heap b1 b2 l1 l2).objs.size = some _ := Heap.get?_push_size _ rfl
  have e4 : (zh5 s.heap b1 b2 l1 l2).get? (zh3 s.heap b1 b2 l1 l2).objs.size = some _ := Heap.get?_push_of_some _ (Heap.get?_push_size _ rfl)
  have e3 : (zh5 s.heap b1 b2 l1 l2).get? (zh2 s.heap b1 b2 l1 l2).objs.size = some _ := Heap.get?_push_of_some _ (Heap.get?_push_of_some _ (Heap.get?_push_size _ rfl))
  have e2 : (zh5 s.heap b1 b2 l1 l2).get? (zh1 s.heap b1 l1).objs.size = some _ := Heap.get?_push_of_some _ (Heap.get?_push_of_some _ (Heap.get?_push_of_some _ (Heap.get?_push_size _ rfl)))
  have e1 : (zh5 s.heap b1 b2 l1 l2).get? s.heap.objs.size = some _ := Heap.get?_push_of_some _ (Heap.get?_push_of_some _ (Heap.get?_push_of_some _ (Heap.get?_push_of_some _ (Heap.get?_push_size _ rfl))))
  show _ ∧ _
  rw [z2, z3, z4] at e5
  rw [z1, z2] at e3
  rw [z3] at e4
  rw [z1] at e2
  rw [z4]
  exact ⟨⟨_, e5, rfl⟩, h _ ⟨e5, e3, ⟨_, _, e4⟩, ⟨_, e1, rfl, rfl⟩, ⟨_, e2, rfl, rfl⟩⟩ fun c o q => Heap.get?_push_of_some _ (Heap.get?_push_of_some _ (Heap.get?_push_of_some _ (Heap.get?_push_of_some _ (Heap.get?_push_of_some _ q))))⟩
theorem zapart_new {n l1 l2 : Addr} (h1 : l1 < n) (h2 : l2 < n) : ZApart (n + 4) (n + 2) (n + 3) n (n + 1) l1 l2 := by
  have e : ∀ (a b : Nat), a ≠ b → n + a ≠ n + b := fun a b h q => h (Nat.add_left_cancel q)
  have f : ∀ (l : Addr) (a : Nat), l < n → l ≠ n + a := fun l a h => Nat.ne_of_lt (Nat.lt_of_lt_of_le h (Nat.le_add_right n a))
  exact ⟨e 2 4 (by decide), e 3 4 (by decide), e 0 4 (by decide), e 1 4 (by decide), e 2 3 (by decide), e 2 0 (by decide), e 2 1 (by decide), e 3 0 (by decide), e 3 1 (by decide), e 0 1 (by decide),
    f l1 4 h1, f l1 3 h1, f l1 0 h1, f l1 1 h1, f l2 4 h2, f l2 3 h2, f l2 0 h2, f l2 1 h2⟩
end
/-! ### the iterator's records have turned, a thing may have been laid -/
section
variable {X : Cx} {pins : List (Addr × Obj)} {σ : St} {H : Hp} {s : Shared} {h' : Heap} {fp : List Addr}
theorem Inv.turnedAll {t' : Nat} (I : Inv X pins σ H s) (hf : ∀ b ∈ fp, FpOk X pins H b) (k : ∀ c o, c ∉ fp → s.heap.get? c = some o → h'.get? c = some o) : Inv X pins σ H { s with heap := h', toks := t' } := by
  have nfp : ∀ b u, H b = some u → b ∉ fp := fun b u e z => by rw [(hf b z).1] at e; cases e
  refine I.step (g' := s.gens) (d' := s.drawn) (ch := fp) (fun b hb => ?_) (fun b o _ _ hc e _ => k b o hc e) (fun b o _ _ hc e _ => ⟨o.slots, k b o hc e⟩) (fun _ _ _ _ n => n) (fun b o hc e => ⟨o, k b o hc e⟩)
    (fun _ _ e => e) (fun _ _ _ e => e) (fun b ps e => ⟨#[], by rw [e]; simp⟩) (fun m hm => ?_) (fun b u e => ?_) I.bare
  · obtain ⟨f0, f1, f2, f3, f4, f5⟩ := hf b hb
    exact ⟨f3, f1, f4, f5⟩
  · obtain ⟨o, es, ep, ho, r⟩ := hm
    exact ⟨o, es, ep, k _ o (fun z => (hf _ z).2.1 rfl) ho, r⟩
  · refine (I.hok b u e).stay (fun c v hc q => k c v ?_ q) (fun _ q => q) fun _ _ q => q
    rcases hc with z | z
    · rw [z]; exact nfp b u e
    · exact nfp c _ z
theorem Inv.turnedLaid {t' : Nat} {p : Addr} {o' : HO} (I : Inv X pins σ H s) (hf : ∀ b ∈ fp, FpOk X pins H b) (k : ∀ c o, c ∉ fp → s.heap.get? c = some o → h'.get? c = some o) (hp : s.heap.objs.size ≤ p) (new : ObjOk X.prog X.w (upd H p o') h' p o') :
    Inv X pins σ (upd H p o') { s with heap := h', toks := t' } := by
  have nfp : ∀ b u, H b = some u → b ∉ fp := fun b u e z => by rw [(hf b z).1] at e; cases e
  have hn : H p = none := I.hok.fresh hp
  have np : ∀ b u, H b = some u → b ≠ p := fun b u e => ne_of_none e hn
  have lt : ∀ b o, s.heap.get? b = some o → b ≠ p := fun b o e => Nat.ne_of_lt (Nat.lt_of_lt_of_le (Heap.lt_size e) hp)
  refine I.step (g' := s.gens) (d' := s.drawn) (ch := fp) (fun b hb => ?_) (fun b o _ _ hc e _ => k b o hc e) (fun b o _ _ hc e _ => ⟨o.slots, k b o hc e⟩) (fun b o _ e n => by rw [upd_ne (lt b o e)]; exact n) (fun b o hc e => ⟨o, k b o hc e⟩)
    (fun b _ e => by rw [upd_ne (np _ _ e)]; exact e) (fun b _ _ e => by rw [upd_ne (np _ _ e)]; exact e) (fun b ps e => ⟨#[], by rw [upd_ne (np _ _ e), e]; simp⟩) (fun m hm => ?_) (fun b u e => ?_) I.bare
  · obtain ⟨f0, f1, f2, f3, f4, f5⟩ := hf b hb
    exact ⟨f3, f1, f4, f5⟩
  · obtain ⟨o, es, ep, ho, r⟩ := hm
    exact ⟨o, es, ep, k _ o (fun z => (hf _ z).2.1 rfl) ho, r⟩
  · by_cases hb : b = p
    · subst hb; rw [upd_same] at e; cases e; exact new
    · rw [upd_ne hb] at e
      refine (I.hok b u e).stay (fun c v hc q => k c v ?_ q) (fun c q => by rw [upd_ne (np _ _ q)]; exact q) fun c ys q => by rw [upd_ne (np _ _ q)]; exact q
      rcases hc with z | z
      · rw [z]; exact nfp b u e
      · exact nfp c _ z
end
/-- a list or a tuple that is read -/
def SqB (K : PySem.W.Frag) (b : Bool) (H : Hp) (a : Addr) (xs : List V) : Prop := if b then SqT K H a xs else SqL K H a xs
theorem Inv.seqB {X : Cx} {pins : List (Addr × Obj)} {σ : St} {H : Hp} {s : Shared} {b : Bool} {a : Addr} {xs : List V} (I : Inv X pins σ H s) (h : SqB X.K b H a xs) : ∃ its : List Value, Vals xs its ∧ ZS b s.heap a its.toArray ∧ xs.length ≤ sizeLine := by
  cases b with
  | true =>
    obtain ⟨its, r, p, z⟩ := I.tuple h
    exact ⟨its, r, p, z⟩
  | false =>
    obtain ⟨its, r, p, z⟩ := I.list h
    exact ⟨its, r, p.isList, z⟩
theorem Inv.seqB_inj {X : Cx} {pins : List (Addr × Obj)} {σ : St} {H : Hp} {s : Shared} {b : Bool} {a : Addr} {xs ys : List V} (I : Inv X pins σ H s) (h : SqB X.K b H a xs) (h' : SqB X.K b H a ys) : xs = ys := by
  cases b with
  | true => exact I.tuple_inj h h'
  | false => exact I.list_inj h h'
def Itz (K : PySem.W.Frag) (b1 b2 : Bool) (a1 a2 : Addr) : It :=
  ⟨fun i H => ∃ xs ys x y, SqB K b1 H a1 xs ∧ SqB K b2 H a2 ys ∧ xs[i]? = some x ∧ ys[i]? = some y,
   fun i H v H' => ∃ p x y, v = .ref p ∧ H p = none ∧ H' = upd H p (.tup [x, y]) ∧ (∀ xs, SqB K b1 H a1 xs → xs[i]? = some x) ∧ ∀ ys, SqB K b2 H a2 ys → ys[i]? = some y,
   fun i H => ∃ xs ys, SqB K b1 H a1 xs ∧ SqB K b2 H a2 ys ∧ (xs.length ≤ i ∨ ys.length ≤ i)⟩
theorem turn_zip {P : Program} {w : World} {K : PySem.W.Frag} {es : List Expr} {n : Nat} {pos : Pos} {b1 b2 : Bool} {z TI TO i1 i2 l1 l2 : Addr} (D : ZApart z TI TO i1 i2 l1 l2) :
    Turn P w K (.Tuple es n pos) (Itz K b1 b2 l1 l2) [z, TI, TO, i1, i2] z (fun i h => ZSt b1 b2 z TI TO i1 i2 l1 l2 .none i h) where
  mem := by simp
  obj := fun i h st b hb => by
    simp only [List.mem_cons, List.not_mem_nil, or_false] at hb
    obtain ⟨z1, z2, ⟨a, c, z3⟩, ⟨o1, y1, _, d1⟩, ⟨o2, y2, _, d2⟩⟩ := st
    rcases hb with rfl | rfl | rfl | rfl | rfl
    · exact ⟨_, z1, fun v q => by cases q⟩
    · exact ⟨_, z2, fun v q => by cases q⟩
    · exact ⟨_, z3, fun v q => by cases q⟩
    · exact ⟨_, y1, fun v q => by rw [d1] at q; cases q⟩
    · exact ⟨_, y2, fun v q => by rw [d2] at q; cases q⟩
  keep := fun i h h' st k => by
    obtain ⟨z1, z2, ⟨a, c, z3⟩, y1, y2⟩ := st
    exact ⟨k _ (by simp) _ z1, k _ (by simp) _ z2, ⟨a, c, k _ (by simp) _ z3⟩, y1.at fun o e => k _ (by simp) _ e, y2.at fun o e => k _ (by simp) _ e⟩
  item := by
    intro X hP hw hK hc i pins s σ H E I hf st hg
    subst hP hw hK
    obtain ⟨xs, ys, x, y, q1, q2, hx, hy⟩ := hg
    obtain ⟨its, r1, p1, _⟩ := I.seqB q1
    obtain ⟨its2, r2, p2, _⟩ := I.seqB q2
    obtain ⟨u1, hu1, ru1⟩ := r1.get hx
    obtain ⟨u2, hu2, ru2⟩ := r2.get hy
    refine next_zip_item D st p1 p2 (by simpa using hu1) (by simpa using hu2) fun h1 s1 t1 k1 => ⟨_, rfl, ?_⟩
    refine wpAny_letOwnedTupleGo_zip s1.zz fun h2 z2 k2 => ?_
    have nz : s.heap.objs.size ≠ z := Nat.ne_of_gt (Heap.lt_size st.zz)
    have kk : ∀ c o, c ∉ [z, TI, TO, i1, i2] → s.heap.get? c = some o → h2.get? c = some o := fun c o hc e => by
      simp only [List.mem_cons, List.not_mem_nil, or_false, not_or] at hc
      exact k2.extBut _ _ hc.1 (k1 c o hc.1 hc.2.2.1 hc.2.2.2.1 hc.2.2.2.2 e)
    have hn : H s.heap.objs.size = none := I.hok.fresh (Nat.le_refl _)
    obtain ⟨w1, w2, ⟨a, c, w3⟩, w4, w5⟩ := s1
    refine ⟨.ref s.heap.objs.size, _, I.turnedLaid (t' := s.toks) (o' := .tup [x, y]) hf kk (Nat.le_refl _) ?_, rfl, ⟨_, x, y, rfl, hn, rfl, fun xs' h => ?_, fun ys' h => ?_⟩, ⟨z2, k2.extBut _ _ D.a1 w2, ⟨a, c, k2.extBut _ _ D.a2 w3⟩, w4.at fun o e => k2.extBut _ _ D.a3 e, w5.at fun o e => k2.extBut _ _ D.a4 e⟩, fun b hb => ?_⟩
    · exact ⟨by show 2 ≤ sizeLine; decide, [u1, u2], .cons ru1 (.cons ru2 .nil), ⟨_, k2.extBut _ _ nz t1, rfl, _, rfl⟩⟩
    · rw [I.seqB_inj h q1]; exact hx
    · rw [I.seqB_inj h q2]; exact hy
    · obtain ⟨o, e, _⟩ : ∃ o, s.heap.get? b = some o ∧ True := by
        simp only [List.mem_cons, List.not_mem_nil, or_false] at hb
        obtain ⟨z1, z2, ⟨a, c, z3⟩, ⟨o1, y1, _⟩, ⟨o2, y2, _⟩⟩ := st
        rcases hb with rfl | rfl | rfl | rfl | rfl
        · exact ⟨_, z1, trivial⟩
        · exact ⟨_, z2, trivial⟩
        · exact ⟨_, z3, trivial⟩
        · exact ⟨_, y1, trivial⟩
        · exact ⟨_, y2, trivial⟩
      rw [upd_ne (Nat.ne_of_lt (Heap.lt_size e))]
      exact (hf b hb).1
  done := by
    intro X hP hw hK hc i pins s σ H E I hf st hg
    subst hP hw hK
    obtain ⟨xs, ys, q1, q2, hl⟩ := hg
    obtain ⟨its, r1, p1, _⟩ := I.seqB q1
    obtain ⟨its2, r2, p2, _⟩ := I.seqB q2
    have e1 := r1.length
    have e2 := r2.length
    refine next_zip_end (I.ok.hd hc) D st p1 p2 (by rcases hl with q | q; exact .inl (by simp; omega); exact .inr (by simp; omega)) fun h1 k1 => ⟨rfl, I.turnedAll (t' := s.toks) hf fun c o hc e => ?_⟩
    simp only [List.mem_cons, List.not_mem_nil, or_false, not_or] at hc
    exact k1 c o hc.1 hc.2.2.1 hc.2.2.2.1 hc.2.2.2.2 e
  self := fun _ _ _ _ _ st h => wpAny_pyIter_zip st.zz h
section
variable {X : Cx}
def iZip (K : PySem.W.Frag) (b1 b2 : Bool) (ta : TA) : TI := fun σ H R => ta σ H fun vs H1 => ∃ a1 a2 xs ys, vs = [.ref a1, .ref a2] ∧ SqB K b1 H1 a1 xs ∧ SqB K b2 H1 a2 ys ∧ R (Itz K b1 b2 a1 a2) H1
theorem pi_zip {a b : Expr} {ta : TA} {p pos tpos : Pos} {tes : List Expr} {tn : Nat} (b1 b2 : Bool) (hg : Gl X "zip") (hm : X.mg "zip" = none) (ha : PA X [a, b] ta) (hs : starEach [a, b] X.env = [(false, eval a X.env), (false, eval b X.env)] := by rfl) (hs2 : starEach [b] X.env = [(false, eval b X.env)] := by rfl) :
    PI X (.Tuple tes tn tpos) (.Call (.Name "zip" p) [a, b] [] pos) (iZip X.K b1 b2 ta) := by
  intro pins s σ H R I h
  refine Call_ (ld_blt I hg hm boot_zip (PyProof.Rows.callWith_type1 (thn (ha pos pins s σ H _ I h) fun us s1 ⟨vs, H1, I1, r1, q1⟩ => ?_) (by rw [hs, hs2]) (by rw [hs2]; rfl)))
  obtain ⟨a1, a2, xs, ys, e, q1, q2, q⟩ := q1
  subst e
  obtain ⟨u, v, rfl, ru, rv⟩ := vals2 r1
  cases ru
  cases rv
  obtain ⟨its, w1, p1, _⟩ := I1.seqB q1
  obtain ⟨its2, w2, p2, _⟩ := I1.seqB q2
  have l1 : a1 < s1.heap.objs.size := by obtain ⟨o, e, _⟩ := p1; exact Heap.lt_size e
  have l2 : a2 < s1.heap.objs.size := by obtain ⟨o, e, _⟩ := p2; exact Heap.lt_size e
  refine call_zip p1 p2 fun h' st k => ?_
  refine wpAny_pyIter_zip st.zz ⟨_, _, _, _, H1, rfl, I1.kept (t' := s1.toks) k, turn_zip (zapart_new l1 l2), st, fun c hc => ?_, q⟩
  have hle : s1.heap.objs.size ≤ c := by
    simp only [List.mem_cons, List.not_mem_nil, or_false] at hc
    rcases hc with rfl | rfl | rfl | rfl | rfl
    · exact Nat.le_add_right _ 4
    · exact Nat.le_add_right _ 2
    · exact Nat.le_add_right _ 3
    · exact Nat.le_refl _
    · exact Nat.le_add_right _ 1
  exact I1.fpOk hle (I1.hok.fresh hle)
end
end L2

namespace L2
open PySem PySem.Spec PyProof.Rows
/-! ### sum of ints -/
theorem preSum_list (ns : List Int) : ∀ k, k ≤ ns.length → preSum (fun i => ns.getD i 0) k = (ns.take k).sum
  | 0, _ => by simp [preSum]
  | k + 1, h => by
    have e : ns.take (k + 1) = ns.take k ++ [ns.getD k 0] := by
      rw [List.take_add_one, List.getElem?_eq_getElem (by omega)]
      simp [List.getD, List.getElem?_eq_getElem (show k < ns.length by omega)]
    rw [preSum, preSum_list ns k (by omega), e, List.sum_append]
    simp
theorem ints_get {ns : List Int} {its : List Value} (r : Vals (ns.map V.int) its) {i : Nat} {v : Value} (e : its.toArray[i]? = some v) : ∃ t, v = .int (ns.getD i 0) t := by
  have e' : its[i]? = some v := by simpa using e
  have hi : i < its.length := (List.getElem?_eq_some_iff.mp e').1
  have hl := r.length
  rw [List.length_map] at hl
  have hx : (ns.map V.int)[i]? = some (V.int (ns.getD i 0)) := by
    rw [List.getElem?_map, List.getElem?_eq_getElem (show i < ns.length by omega)]
    simp [List.getD, List.getElem?_eq_getElem (show i < ns.length by omega)]
  obtain ⟨u, hu, ru⟩ := r.get hx
  rw [e'] at hu
  cases hu
  exact ru
section
variable {X : Cx}
def rSum (K : PySem.W.Frag) (b : Bool) : List V → Hp → VK → Prop := fun xs H Q => ∃ (p : Addr) (ns : List Int), xs = [.ref p] ∧ SqB K b H p (ns.map V.int) ∧ Q (.int ns.sum) H
theorem call_sum (hc : X.calm = true) (b : Bool) : CallR X (.builtin "sum") (rSum X.K b) := by
  intro pins s σ H xs us Q I r h
  obtain ⟨p, ns, rfl, hq, q⟩ := h
  obtain ⟨u, rfl, ru⟩ := vals1 r
  cases ru
  obtain ⟨its, rv, zs, hz⟩ := I.seqB hq
  have hlen := rv.length
  rw [List.length_map] at hlen
  have hlt : p < s.heap.objs.size := by obtain ⟨o, e, _⟩ := zs; exact Heap.lt_size e
  refine call_sum_walkG (iter_of zs ?_)
  have sum_eq : preSum (fun i => ns.getD i 0) its.toArray.size = ns.sum := by
    rw [List.size_toArray, ← hlen, preSum_list ns _ (Nat.le_refl _), List.take_length]
  have fin : ∀ (h' : Heap) (tk : Nat) (t' : Tok), (∀ c o, c ∉ [s.heap.objs.size] → (s.heap.push (itOb b p)).get? c = some o → h'.get? c = some o) → EP X pins σ Q (.int (preSum (fun i => ns.getD i 0) its.toArray.size) t') { s with heap := h', toks := tk } := by
    intro h' tk t' k
    rw [sum_eq]
    exact ⟨.int ns.sum, H, I.kept fun c o e => k c o (by simp only [List.mem_singleton]; exact Nat.ne_of_lt (Heap.lt_size e)) (Heap.get?_push_of_some _ e), ⟨_, rfl⟩, q⟩
  have hfp : ∀ c ∈ [s.heap.objs.size, p], c < (s.heap.push (itOb b p)).objs.size := fun c hc => by
    rw [Heap.size_push]
    simp only [List.mem_cons, List.not_mem_nil, or_false] at hc
    rcases hc with rfl | rfl
    · exact Nat.lt_succ_self _
    · exact Nat.lt_succ_of_lt hlt
  cases b with
  | true => exact ⟨_, _, _, _, _, _, fun i => ns.getD i 0, rfl, Walks.tuple (A := X.A.in1) (I.ok.hd hc) _ p (Nat.ne_of_lt hlt) its.toArray, ⟨⟨_, Heap.get?_push_size _ rfl, rfl, rfl⟩, zs.at fun o e => Heap.get?_push_of_some _ e⟩, hfp, fun i v e => ints_get rv e, fin⟩
  | false => exact ⟨_, _, _, _, _, _, fun i => ns.getD i 0, rfl, Walks.list (A := X.A.in1) (I.ok.hd hc) _ p (Nat.ne_of_lt hlt) its.toArray, ⟨⟨_, Heap.get?_push_size _ rfl, rfl, rfl⟩, zs.at fun o e => Heap.get?_push_of_some _ e⟩, hfp, fun i v e => ints_get rv e, fin⟩

/-! ### isinstance -/
def rIsi (K : PySem.W.Frag) : List V → Hp → VK → Prop := fun xs H Q => ∃ (x c : V) (t : Value) (b : Bool), xs = [x, c] ∧ TyOf K H x t ∧
  ((∃ n, c = .ty n ∧ PySem.W.kitOne K t (.type n) = some b) ∨ ∃ (p : Addr) (ns : List String), c = .ref p ∧ H p = some (.tup (ns.map V.ty)) ∧ PySem.W.kitAny K t (ns.map Value.type) = some b) ∧ Q (.bl b) H
theorem vals_ty : ∀ {ns : List String} {us : List Value}, Vals (ns.map V.ty) us → us = ns.map Value.type
  | [], _, r => by cases r; rfl
  | n :: ns, _, r => by
    rw [List.map_cons] at r
    cases r with
    | cons r1 r2 => rw [vals_ty r2, (show _ = Value.type n from r1)]; rfl
theorem isinst_tup {pins : List (Addr × Obj)} {σ : St} {H : Hp} {s : Shared} {A : Around} {E : Value → Shared → Prop} {Q : Value → Shared → Prop} {x : V} {u t : Value} {p : Addr} {ns : List String} {b : Bool} (I : Inv X pins σ H s) (rx : RelV x u) (ty : TyOf X.K H x t)
    (hp : H p = some (.tup (ns.map V.ty))) (e : PySem.W.kitAny X.K t (ns.map Value.type) = some b) (h : ∀ tk, Q (.bool b) { s with toks := tk }) : wpAny (model X.prog X.w) A (call (.builtin "isinstance") [u, .ref p]) Q E s := by
  obtain ⟨_, its, rv, o, ho, hc, n, hd⟩ := I.hok p _ hp
  have ei := vals_ty rv
  subst ei
  obtain ⟨oc, od, odt, osl⟩ := o
  simp only at hc hd
  subst hc hd
  cases ty with
  | non => cases (show u = Value.none from rx); exact PySem.W.kia_tup PySem.W.kitx_none I.kIn True.intro ho e (fun z => nomatch z) h
  | bl y => cases (show u = Value.bool y from rx); exact PySem.W.kia_tup PySem.W.kitx_bool I.kIn True.intro ho e (fun z => nomatch z) h
  | int i => obtain ⟨t, q⟩ := (show ∃ t, u = Value.int i t from rx); cases q; exact PySem.W.kia_tup PySem.W.kitx_int I.kIn True.intro ho e (fun z => nomatch z) h
  | str y => obtain ⟨t, q⟩ := (show ∃ t, u = Value.str y t from rx); cases q; exact PySem.W.kia_tup PySem.W.kitx_str I.kIn True.intro ho e (fun z => nomatch z) h
  | flt y => obtain ⟨t, q⟩ := (show ∃ t, u = Value.float y t from rx); cases q; exact PySem.W.kia_tup PySem.W.kitx_float I.kIn True.intro ho e (fun z => nomatch z) h
  | @lst a xs ea =>
    cases (show u = Value.ref a from rx)
    obtain ⟨_, _, n, _, h1⟩ := (show ObjOk X.prog X.w H s.heap a (.lst xs) from I.hok a _ ea)
    exact PySem.W.kia_tup PySem.W.kitx_list I.kIn ⟨_, h1, rfl⟩ ho e (fun z => nomatch z) h
  | @frz a ob xs ea =>
    cases (show u = Value.ref a from rx)
    obtain ⟨_, _, _, n, _, h1⟩ := (show ObjOk X.prog X.w H s.heap a (.frz ob (.lst xs)) from I.hok a _ ea)
    exact PySem.W.kia_tup PySem.W.kitx_list I.kIn ⟨_, h1, rfl⟩ ho e (fun z => nomatch z) h
  | @tup a xs ea =>
    cases (show u = Value.ref a from rx)
    obtain ⟨_, _, _, p⟩ := (show ObjOk X.prog X.w H s.heap a (.tup xs) from I.hok a _ ea)
    obtain ⟨o, h1, h2, _⟩ := p
    exact PySem.W.kia_tup PySem.W.kitx_tuple I.kIn ⟨o, h1, h2⟩ ho e (fun z => nomatch z) h
  | @dK a kvs ea =>
    cases (show u = Value.ref a from rx)
    obtain ⟨_, _, vs, _, p⟩ := (show ObjOk X.prog X.w H s.heap a (.dK kvs) from I.hok a _ ea)
    obtain ⟨o, es, ep, h1, h2, _⟩ := p
    exact PySem.W.kia_tup PySem.W.kitx_dict I.kIn ⟨o, h1, h2.1⟩ ho e (fun z => nomatch z) h
  | @dT a kvs ea =>
    cases (show u = Value.ref a from rx)
    obtain ⟨_, _, xs, _, o, es, ep, h1, h2, _⟩ := (show ObjOk X.prog X.w H s.heap a (.dT kvs) from I.hok a _ ea)
    exact PySem.W.kia_tup PySem.W.kitx_dict I.kIn ⟨o, h1, h2.1⟩ ho e (fun z => nomatch z) h
  | @ins a C dx fs ea cl ha hn htk hm =>
    cases (show u = Value.ref a from rx)
    obtain ⟨mA, O, _⟩ := ins_get I.hok ea
    obtain ⟨od, J, _⟩ := O.look
    exact PySem.W.kia_tup (PySem.W.kitx_own (cl.get _) cl.hd ha hn htk hm) I.kIn J ho e (fun z => nomatch z) h
theorem call_isi : CallR X (.builtin "isinstance") (rIsi X.K) := by
  intro pins s σ H xs us Q I r h
  obtain ⟨x, c, t, b, rfl, ty, hc, q⟩ := h
  obtain ⟨u, w', rfl, ru, rw'⟩ := vals2 r
  have fin : ∀ tk, EP X pins σ Q (.bool b) { s with toks := tk } := fun tk => ⟨.bl b, H, I.tok tk, rfl, q⟩
  rcases hc with ⟨n, rfl, e⟩ | ⟨p, ns, rfl, hp, e⟩
  · cases (show w' = Value.type n from rw')
    exact isinst_ok I ru ty e fin
  · cases (show w' = Value.ref p from rw')
    exact isinst_tup I ru ty hp e fin
/-- a type's name as a value -/
theorem pe_ty {x : Str} {n : String} {pos : Pos} (hg : Gl X x) (hm : X.mg x = none) (hv : bootBuiltins x = some (.type n)) (hn : x ≠ "__name__" := by decide) (hd : (x == ("__debug__" : Str)) = false := by decide) : PE X (.Name x pos) (tC (.ty n)) :=
  pe_bltn hg hm hv rfl hn hd
end
end L2

namespace L2
open PySem PySem.Spec PyProof.Rows
/-! ### == and != of lists, of tuples, whose items are flat -/
def eqVs (xs ys : List V) : Bool := xs.length == ys.length && (List.range xs.length).all fun j => eqV (xs.getD j .non) (ys.getD j .non)
theorem eqV_refl {x : V} (f : flatV x = true) : eqV x x = true := by
  cases x <;> simp [eqV] <;> exact absurd (show false = true from f) Bool.false_ne_true
theorem eqVs_refl {xs : List V} (f : xs.all flatV = true) : eqVs xs xs = true := by
  unfold eqVs
  rw [beq_self_eq_true, Bool.true_and, List.all_eq_true]
  intro j hj
  have hj' : j < xs.length := List.mem_range.mp hj
  refine eqV_refl ?_
  rw [List.all_eq_true] at f
  simp only [List.getD, List.getElem?_eq_getElem hj', Option.getD_some]
  exact f _ (List.getElem_mem hj')
theorem eqVs_len {xs ys : List V} (h : xs.length ≠ ys.length) : eqVs xs ys = false := by
  unfold eqVs
  rw [beq_eq_false_iff_ne.mpr h, Bool.false_and]
section
variable {X : Cx}
def rEqS (K : PySem.W.Frag) (b neg : Bool) : R2 := fun x y H Q => ∃ p q xs ys, x = .ref p ∧ y = .ref q ∧ SqB K b H p xs ∧ SqB K b H q ys ∧ xs.all flatV = true ∧ ys.all flatV = true ∧ Q (.bl (if neg then !eqVs xs ys else eqVs xs ys)) H
theorem eqs_items {A : Around} {s : Shared} {xs ys : List V} {its its2 : List Value} (r1 : Vals xs its) (r2 : Vals ys its2) (f1 : xs.all flatV = true) (f2 : ys.all flatV = true) :
    ∀ (j : Nat) (h1 : j < its.toArray.size) (h2 : j < its2.toArray.size), SeqAt.EqAt A s its.toArray[j] its2.toArray[j] (eqV (xs.getD j .non) (ys.getD j .non)) := by
  intro j h1 h2
  have l1 := r1.length
  have l2 := r2.length
  rw [List.size_toArray] at h1 h2
  have g1 : xs[j]? = some (xs.getD j .non) := by simp [List.getD, List.getElem?_eq_getElem (show j < xs.length by omega)]
  have g2 : ys[j]? = some (ys.getD j .non) := by simp [List.getD, List.getElem?_eq_getElem (show j < ys.length by omega)]
  obtain ⟨u1, e1, q1⟩ := r1.get g1
  obtain ⟨u2, e2, q2⟩ := r2.get g2
  have z1 : its.toArray[j] = u1 := by
    have := List.getElem?_eq_some_iff.mp e1
    simpa using this.2
  have z2 : its2.toArray[j] = u2 := by
    have := List.getElem?_eq_some_iff.mp e2
    simpa using this.2
  rw [z1, z2]
  rw [List.all_eq_true] at f1 f2
  exact eqAt_V q1 q2 (f1 _ (List.mem_of_getElem? g1)) (f2 _ (List.mem_of_getElem? g2))
theorem op_eq_seq (b : Bool) (hu : X.A.units < cLine) : OpR X (compareOp .Eq) (rEqS X.K b false) := by
  intro pins s σ H x y v u Q I rx ry h
  obtain ⟨p, q, xs, ys, rfl, rfl, hp, hq, f1, f2, k⟩ := h
  cases rx
  cases ry
  obtain ⟨its, r1, z1, _⟩ := I.seqB hp
  obtain ⟨its2, r2, z2, _⟩ := I.seqB hq
  have l1 := r1.length
  have l2 := r2.length
  have fin : ∀ c : Bool, c = eqVs xs ys → EP X pins σ Q (.bool c) s := fun c e => ⟨.bl c, H, I, rfl, by rw [e]; exact k⟩
  cases b with
  | false =>
    by_cases hl : xs.length = ys.length
    · refine SeqAt.eq_listAt z1 z2 (by rw [List.size_toArray, List.size_toArray]; omega) hu (eqs_items r1 r2 f1 f2) (fin _ ?_)
      unfold eqVs
      rw [hl, beq_self_eq_true, Bool.true_and, List.size_toArray, ← l1, hl]
    · refine SeqAt.eq_list_lengthsAt z1 z2 (by rw [List.size_toArray, List.size_toArray, bne_iff_ne]; omega) hu (fin _ ?_)
      rw [eqVs_len hl]
  | true =>
    refine SeqAt.eq_tupleAt z1 z2 hu (eqs_items r1 r2 f1 f2) (fin _ ?_)
    rw [List.size_toArray, List.size_toArray, ← l1, ← l2]
    by_cases hl : xs.length = ys.length
    · unfold eqVs
      rw [hl, beq_self_eq_true, Bool.true_and, Bool.and_true, Nat.min_self]
    · rw [eqVs_len hl, beq_eq_false_iff_ne.mpr hl, Bool.and_false]
theorem op_ne_seq (b : Bool) (hu : X.A.units < cLine) : OpR X (compareOp .NotEq) (rEqS X.K b true) := by
  intro pins s σ H x y v u Q I rx ry h
  obtain ⟨p, q, xs, ys, rfl, rfl, hp, hq, f1, f2, k⟩ := h
  cases rx
  cases ry
  obtain ⟨its, r1, z1, _⟩ := I.seqB hp
  obtain ⟨its2, r2, z2, _⟩ := I.seqB hq
  have l1 := r1.length
  have l2 := r2.length
  have fin : ∀ c : Bool, c = !eqVs xs ys → EP X pins σ Q (.bool c) s := fun c e => ⟨.bl c, H, I, rfl, by rw [e]; exact k⟩
  cases b with
  | false =>
    by_cases hl : xs.length = ys.length
    · refine SeqAt.RcNeAt.lists z1 z2 (by rw [List.size_toArray, List.size_toArray]; omega) hu (eqs_items r1 r2 f1 f2) _ _ _ _ (fin _ ?_)
      unfold eqVs
      rw [hl, beq_self_eq_true, Bool.true_and, List.size_toArray, ← l1, hl]
    · refine SeqAt.RcNeAt.lists_lengths z1 z2 (by rw [List.size_toArray, List.size_toArray, bne_iff_ne]; omega) hu _ _ _ _ (fin _ ?_)
      rw [eqVs_len hl]; rfl
  | true =>
    refine SeqAt.RcNeAt.tuples z1 z2 hu (eqs_items r1 r2 f1 f2) _ _ _ _ (fin _ ?_)
    rw [List.size_toArray, List.size_toArray, ← l1, ← l2]
    by_cases hl : xs.length = ys.length
    · unfold eqVs
      rw [hl, beq_self_eq_true, Bool.true_and, Bool.and_true, Nat.min_self]
    · rw [eqVs_len hl, beq_eq_false_iff_ne.mpr hl, Bool.and_false]
end
end L2

namespace L2
open PySem PySem.Spec PyProof.Rows
/-! ### the same rules over a named K: for a comprehension's block, whose reading may not lean on the block -/
section
variable {X : Cx} {K : PySem.W.Frag}
theorem ixL (h : X.K = K) : IxR X (rIxL K) := h ▸ ix_list
theorem ixT (h : X.K = K) : IxR X (rIxT K) := h ▸ ix_tup
def rLen (K : PySem.W.Frag) : List V → Hp → VK → Prop := fun xs H Q => ∃ p ys, xs = [.ref p] ∧ (SqL K H p ys ∨ SqT K H p ys) ∧ Q (.int ys.length) H
theorem cLen (h : X.K = K) : CallR X (.builtin "len") (rLen K) := h ▸ call_len_seq
theorem cSum (h : X.K = K) (hc : X.calm = true) (b : Bool) : CallR X (.builtin "sum") (rSum K b) := h ▸ call_sum hc b
theorem cIsi (h : X.K = K) : CallR X (.builtin "isinstance") (rIsi K) := h ▸ call_isi
def rTuple (K : PySem.W.Frag) : List V → Hp → VK → Prop := fun xs H Q => ∃ p ys, xs = [.ref p] ∧ ((SqL K H p ys ∧ ∀ l, H l = none → Q (.ref l) (upd H l (.tup ys))) ∨ (SqT K H p ys ∧ Q (.ref p) H))
theorem cTuple (h : X.K = K) : CallR X (.type "tuple") (rTuple K) := h ▸ call_tuple_of
def rList (K : PySem.W.Frag) : List V → Hp → VK → Prop := fun xs H Q => ∃ p ys, xs = [.ref p] ∧ (SqL K H p ys ∨ SqT K H p ys) ∧ ∀ l, H l = none → Q (.ref l) (upd H l (.lst ys))
theorem cList (h : X.K = K) : CallR X (.type "list") (rList K) := h ▸ call_list_of
theorem oEq (h : X.K = K) (b : Bool) (hu : X.A.units < cLine) : OpR X (compareOp .Eq) (rEqS K b false) := h ▸ op_eq_seq b hu
theorem oNe (h : X.K = K) (b : Bool) (hu : X.A.units < cLine) : OpR X (compareOp .NotEq) (rEqS K b true) := h ▸ op_ne_seq b hu
theorem piL {tg l : Expr} {tl : TE} (h : X.K = K) (hl : PE X l tl) : PI X tg l (iList K tl) := h ▸ pi_list hl
theorem piT {tg l : Expr} {tl : TE} (h : X.K = K) (hl : PE X l tl) : PI X tg l (iTup K tl) := h ▸ pi_tup hl
theorem piZ {a b : Expr} {ta : TA} {p pos tpos : Pos} {tes : List Expr} {tn : Nat} (h : X.K = K) (b1 b2 : Bool) (hg : Gl X "zip") (hm : X.mg "zip" = none) (ha : PA X [a, b] ta) (hs : starEach [a, b] X.env = [(false, eval a X.env), (false, eval b X.env)] := by rfl) (hs2 : starEach [b] X.env = [(false, eval b X.env)] := by rfl) :
    PI X (.Tuple tes tn tpos) (.Call (.Name "zip" p) [a, b] [] pos) (iZip K b1 b2 ta) := h ▸ pi_zip b1 b2 hg hm ha hs hs2
theorem pgT {es : List Expr} {k : Nat} {t : TGs} {n : Nat} {pos : Pos} (h : X.K = K) (hc : X.calm = true) (hh : PGs X es t) (hn : (assignEach es X.env).length = n := by rfl) (hst : (assignEach es X.env).findIdx? (·.1) = none := by rfl) :
    PG X (.Tuple es k pos) (gTup K n t) := h ▸ pg_tup hc hh hn hst
end
end L2

namespace HT
open PySem PyProof.Rows
section
variable {prog : Program} {w : World} {A : Around} {E : Value → Shared → Prop} {s : Shared}
/-- the whole of a tuple is the tuple itself -/
theorem getItem_tuple_all {t sl : Addr} {items : Array Value} {vl vu : Value} {lo hi : Option Int} {Q : Value → Shared → Prop} (ht : IsTup s.heap t items) (hs : s.heap.IsSliceOf sl vl vu .none) (pl : IsPart vl lo) (pu : IsPart vu hi)
    (hw : sIx items.size 0 lo = 0 ∧ sIx items.size items.size hi = items.size) (h : Q (.ref t) s) : wpAny (model prog w) A (getItem (.ref t) (.ref sl)) Q E s := by
  obtain ⟨os, hos, hcs, hds⟩ := id hs
  have hTs : s.TypeIs (.ref sl) "slice" := ⟨os, hos, hcs⟩
  unfold getItem
  try with_reducible refine wpAny_holding ?_
  first | refine wpAny_bind (wpAny_pure ?_) | skip
  refine wpAny_bind (wpAny_sequenceKey ht.typeIs (by decide) ?_)
  refine wpAny_bind (wpAny_callSpecial?_slot (name := Str.ofString "__getitem__") ht.typeIs PyProof.Rows.slot_tuple_getitem (wpAny_call_entry PyProof.Rows.slot_tuple_getitem ht.typeIs entry_tuple_getitem ?_ (args_tuple_getitem _ _)))
  show wpAny _ _ (Builtin.Tuple.tupleItemsOf (.ref t) >>= _) _ _ s
  refine wpAny_bind (tupleItemsOf_ ht (wpAny_bind (wpAny_typeOf hTs ?_)))
  rw [if_pos (by decide)]
  refine wpAny_bind (sliceApplied_gen hs pl pu ?_)
  have yes : (((sIx items.size 0 lo : Nat) : Int) == 0 && (1 : Int) == 1 && (sIx items.size items.size hi - sIx items.size 0 lo) == items.size) = true := by
    rw [hw.1, hw.2]; simp
  show wpAny _ _ (if (((sIx items.size 0 lo : Nat) : Int) == 0 && (1 : Int) == 1 && (sIx items.size items.size hi - sIx items.size 0 lo) == items.size) = true then _ else _) _ _ s
  rw [if_pos yes]
  unfold Builtin.Tuple.tupleIsExact
  refine wpAny_bind (wpAny_bind (wpAny_typeOf ht.typeIs (wpAny_pure ?_)))
  exact wpAny_bind (wpAny_rule (wpAny_pure ⟨_, rfl, wpAny_pure h⟩))
end
end HT
namespace L2
open PySem PySem.Spec PyProof.Rows
section
variable {X : Cx} {K : PySem.W.Frag}
/-- cutting a list of any items -/
def cutL {α : Type} (xs : List α) (lo hi : Option Int) : List α := (xs.drop (HT.sIx xs.length 0 lo)).take (HT.sIx xs.length xs.length hi - HT.sIx xs.length 0 lo)
theorem cutV_map (ns : List Int) (lo hi : Option Int) : cutV (ns.map V.int) lo hi = (cutL ns lo hi).map V.int := by
  unfold cutV cutL
  rw [List.length_map, List.map_take, List.map_drop]
theorem Same.tup {K : PySem.W.Frag} {H H' : Hp} {a : Addr} {xs : List V} (e : Same H H') (h : SqT K H a xs) : SqT K H' a xs := by
  rcases h with (h | ⟨o, h⟩) | h
  · exact .inl (.inl (e _ _ h))
  · exact .inl (.inr ⟨o, e _ _ h⟩)
  · exact .inr h
theorem Same.lay {H : Hp} {p : Addr} {o : HO} (h : H p = none) : Same H (upd H p o) := fun b o' e => by rw [upd_ne (ne_of_none e h)]; exact e
end
end L2

namespace L2
open PySem PySem.Spec PyProof.Rows
/-! ### min, max of a list, by a key or plain, with a default -/
def mmL (b : Bool) : String := if b then "min.loop" else "max.loop"
def mmI (b : Bool) : String := if b then "min" else "max"
def mmOp (b : Bool) : CmpOp := if b then .Lt else .Gt
/-- the place of the best of the first i: bt i j: i is better than j -/
def pick (bt : Nat → Nat → Bool) : Nat → Option Nat
  | 0 => none
  | i + 1 => match pick bt i with
    | none => some i
    | some j => if bt i j then some i else some j
theorem pick_lt {bt : Nat → Nat → Bool} : ∀ {n j : Nat}, pick bt n = some j → j < n
  | 0, _, h => by cases h
  | n + 1, j, h => by
    unfold pick at h
    cases e : pick bt n with
    | none => rw [e] at h; cases h; exact Nat.lt_succ_self _
    | some k =>
      rw [e] at h
      have := pick_lt e
      simp only at h
      split at h
      · cases h; exact Nat.lt_succ_self _
      · cases h; omega
theorem pick_none {bt : Nat → Nat → Bool} : ∀ {n : Nat}, pick bt n = none → n = 0
  | 0, _ => rfl
  | n + 1, h => by
    unfold pick at h
    cases e : pick bt n with
    | none => rw [e] at h; cases h
    | some k => rw [e] at h; simp only at h; split at h <;> cases h
theorem den_builtin {P : Program} {w : World} {id : String} {args : Args} {b : Builtin} (hb : entryFor table id = some b) : (model P w).den (.builtin id args) = b args := by
  show (match entryFor table id with | some b => b args | none => unsupported ((withoutEnding? id "#data").getD id)) = _
  rw [hb]
abbrev bestOb (its : Array Value) (c : Nat) : Obj := { cls := .type "list", data := .seq its c }
/-- what the loop keeps: nothing yet, or the best item with its key's value -/
def Kept (xs : List V) (KV : Nat → V → Prop) (jb : Option Nat) (its : Array Value) : Prop := match jb with
  | none => its = #[]
  | some j => ∃ x y u v, xs[j]? = some x ∧ RelV x u ∧ KV j y ∧ RelV y v ∧ its = #[u, v]
section
variable {X : Cx} {pins : List (Addr × Obj)} {σ : St} {H0 : Hp} {a I S : Addr} {xs : List V} {KV : Nat → V → Prop} {bt : Nat → Nat → Bool} {key : Value} {kw : List (Str × Value)} {R : Result → Shared → Prop}
theorem mm_loop (b : Bool) (hc : X.calm = true) (hSI : S ≠ I)
    (hl : SqL X.K H0 a xs)
    (hkey : (key = .none ∧ ∀ i x, xs[i]? = some x → KV i x) ∨ ∃ q, key = .ref q ∧ ∀ i x u (pins : List (Addr × Obj)) s H, xs[i]? = some x → Inv X pins σ H s → RelV x u → Same H0 H →
      wpAny (model X.prog X.w) X.A.in1 (call (.ref q) [u]) (fun v s' => ∃ y H', Inv X pins σ H' s' ∧ RelV y v ∧ KV i y ∧ Same H H') (fun _ _ => False) s)
    (hcmp : ∀ i j y z v u s H (pins : List (Addr × Obj)) (Q : Value → Shared → Prop) (E : Value → Shared → Prop), KV i y → KV j z → Inv X pins σ H s → Same H0 H → RelV y v → RelV z u → Q (.bool (bt i j)) s → wpAny (model X.prog X.w) X.A.in1 (richCompare (mmOp b) v u) Q E s)
    (hR : ∀ s' H', Inv X pins σ H' s' → Same H0 H' → match pick bt xs.length with
      | none => ∀ d dn r, kw = (dn, d) :: r → R (.ok (.ret d)) s'
      | some j => ∀ x u, xs[j]? = some x → RelV x u → R (.ok (.ret u)) s')
    (hkw : kw = [] → 0 < xs.length) {s : Shared} (I0 : Inv X pins σ H0 s) (it0 : s.heap.IsListIter I a 0) (fI : FpOk X pins H0 I) (fS : FpOk X pins H0 S) {c0 : Nat} (s0 : s.heap.get? S = some (bestOb #[] c0)) :
    codeAny (model X.prog X.w) X.A (.builtin (mmL b) ⟨[.ref I, key, .ref S], kw⟩) R s := by
  have hn1 : (toString "min" ++ toString ".loop" : String) = "min.loop" := by decide
  have hn2 : (toString "max" ++ toString ".loop" : String) = "max.loop" := by decide
  have stI : ∀ {H' : Hp}, H' I = none → FpOk X pins H' I := fun h => ⟨h, fI.2⟩
  have stS : ∀ {H' : Hp}, H' S = none → FpOk X pins H' S := fun h => ⟨h, fS.2⟩
  have quiet : (Code.builtin (mmL b) ⟨[.ref I, key, .ref S], kw⟩).quiet = true := by
    cases b
    · exact plainId_quiet PySem.F.plain_max_loop _
    · exact plainId_quiet PySem.F.plain_min_loop _
  refine codeAny_loop quiet (fun n s' => ∃ i H its c, Inv X pins σ H s' ∧ Same H0 H ∧ s'.heap.IsListIter I a i ∧ H I = none ∧ H S = none ∧ s'.heap.get? S = some (bestOb its c) ∧ Kept xs KV (pick bt i) its ∧ i ≤ xs.length ∧ n = xs.length - i) ?_ xs.length
    ⟨0, H0, #[], c0, I0, Same.refl _, it0, fI.1, fS.1, s0, rfl, Nat.zero_le _, rfl⟩
  rintro n s1 ⟨i, H, its, c, I1, S1, hit, hI, hS, hob, hk, hi, rfl⟩
  obtain ⟨vs, rv, pl, hz⟩ := I1.list (S1.seq hl)
  have hlen := rv.length
  have isz : its.size ≤ 2 := by
    cases e : pick bt i with
    | none => rw [e] at hk; rw [show its = #[] from hk]; decide
    | some j => rw [e] at hk; obtain ⟨_, _, _, _, _, _, _, _, rfl⟩ := hk; exact Nat.le_refl 2
  have hh : X.A.in1.handled = none := I1.ok.hd hc
  cases hv : vs[i]? with
  | none =>
    have hil : i = xs.length := by
      have := List.getElem?_eq_none_iff.mp hv
      omega
    cases b
    all_goals
      first | rw [show mmL false = "max.loop" from rfl] | rw [show mmL true = "min.loop" from rfl]
      first | rw [Around.under_plainId PySem.F.plain_max_loop _] | rw [Around.under_plainId PySem.F.plain_min_loop _]
      first | rw [den_builtin PySem.F.entry_max_loop] | rw [den_builtin PySem.F.entry_min_loop]
      show wpAny _ X.A.in1 (seqItems? (.ref S) >>= _) _ _ _
      refine wpAny_bind (wpAny_seqItems hob rfl ?_)
      show wpAny _ X.A.in1 (tryCatch (pyNext (.ref I)) _ >>= _) _ _ _
      refine wpAny_bind (wpAny_tryCatch (wpAny_pyNext_list_end hh hit pl.isList (by simpa using hv) fun h' k' => ?_))
      have I2 : Inv X pins σ H { s1 with heap := h' } := I1.turned (t' := s1.toks) (fun b' o hb e => k' b' o hb e) hI fI.2.1 fI.2.2.2.1 fI.2.2.2.2.1 fI.2.2.2.2.2
      have hob2 := k' S _ hSI hob
      cases e : pick bt i with
      | none =>
        rw [e] at hk
        have hk : its = #[] := hk
        subst hk
        cases kw with
        | nil => exact absurd (pick_none e) (by have := hkw rfl; omega)
        | cons p r =>
          refine wpAny_bind (wpAny_rule (wpAny_pure ?_))
          have := hR _ H I2 S1
          rw [← hil, e] at this
          exact this p.2 p.1 r rfl
      | some j =>
        rw [e] at hk
        obtain ⟨x, y, u, v, g1, g2, g3, g4, rfl⟩ := hk
        show wpAny _ X.A.in1 (updateSeq S (fun _ => #[]) >>= _) _ _ _
        refine wpAny_bind (wpAny_updateSeq hob2 rfl (wpAny_bind (wpAny_letGo (wpAny_pure ?_))))
        have := hR _ H (I2.turned (it := S) (h' := h'.update S (Obj.mapSeq fun _ => #[])) (t' := s1.toks) (fun b' o hb e => (Heap.get?_update_other _ _ (Ne.symm hb)).trans e) hS fS.2.1 fS.2.2.2.1 fS.2.2.2.2.1 fS.2.2.2.2.2) S1
        rw [← hil, e] at this
        exact this x u g1 g2
  | some u =>
    have hil : i < vs.length := (List.getElem?_eq_some_iff.mp hv).1
    obtain ⟨x, hx⟩ : ∃ x, xs[i]? = some x := ⟨xs[i]'(by omega), List.getElem?_eq_getElem (by omega)⟩
    obtain ⟨u', hu', ru⟩ := rv.get hx
    rw [hv] at hu'
    cases hu'
    -- behind the key: the comparison, the store
    have tail : ∀ (s2 : Shared) (H2 : Hp) (y : V) (v : Value) (o2 : Obj), Inv X (pins ++ [(I, o2), (S, bestOb its c)]) σ H2 s2 → Same H H2 → RelV y v → KV i y → (o2.cls = .type "list_iterator" ∧ o2.data = .fields #[.ref a, .int ((i + 1 : Nat) : Int) 0]) →
        ∀ jn, jn = pick bt (i + 1) → ∀ its', Kept xs KV jn its' → its'.size = 2 → ∀ T : Nat, ∃ m, m < xs.length - i ∧ ∃ i' H' its c, Inv X pins σ H' { s2 with heap := s2.heap.update S (Obj.mapSeq fun _ => its'), toks := T } ∧ Same H0 H' ∧ (s2.heap.update S (Obj.mapSeq fun _ => its')).IsListIter I a i' ∧ H' I = none ∧ H' S = none ∧ (s2.heap.update S (Obj.mapSeq fun _ => its')).get? S = some (bestOb its c) ∧ Kept xs KV (pick bt i') its ∧ i' ≤ xs.length ∧ m = xs.length - i' := by
      intro s2 H2 y v o2 J S2 ry hy ho jn hj its' hk' hz' T
      have q1 := J.pin (I, o2) (by simp)
      have q2 := J.pin (S, bestOb its c) (by simp)
      have J1 : Inv X pins σ H2 s2 := J.unpinned
      have g := get?_update_seq (c := "list") q2.1 (fun _ => its')
      refine ⟨xs.length - (i + 1), by omega, i + 1, H2, its', _, J1.turned (it := S) (fun b' o hb e => (Heap.get?_update_other _ _ (Ne.symm hb)).trans e) q2.2.1 fS.2.1 fS.2.2.2.1 fS.2.2.2.2.1 fS.2.2.2.2.2, S1.trans S2, ⟨o2, (Heap.get?_update_other _ _ hSI).trans q1.1, ho.1, ho.2⟩, q1.2.1, q2.2.1, g, by rw [← hj]; exact hk', by omega, rfl⟩
    have tail0 : ∀ (s2 : Shared) (H2 : Hp) (o2 : Obj), Inv X (pins ++ [(I, o2), (S, bestOb its c)]) σ H2 s2 → Same H H2 → (o2.cls = .type "list_iterator" ∧ o2.data = .fields #[.ref a, .int ((i + 1 : Nat) : Int) 0]) → Kept xs KV (pick bt (i + 1)) its →
        ∃ m, m < xs.length - i ∧ ∃ i' H' its c, Inv X pins σ H' s2 ∧ Same H0 H' ∧ s2.heap.IsListIter I a i' ∧ H' I = none ∧ H' S = none ∧ s2.heap.get? S = some (bestOb its c) ∧ Kept xs KV (pick bt i') its ∧ i' ≤ xs.length ∧ m = xs.length - i' := by
      intro s2 H2 o2 J S2 ho hk'
      have q1 := J.pin (I, o2) (by simp)
      have q2 := J.pin (S, bestOb its c) (by simp)
      exact ⟨xs.length - (i + 1), by omega, i + 1, H2, its, c, J.unpinned, S1.trans S2, ⟨o2, q1.1, ho.1, ho.2⟩, q1.2.1, q2.2.1, q2.1, hk', by omega, rfl⟩
    cases b
    all_goals
      first | rw [show mmL false = "max.loop" from rfl] | rw [show mmL true = "min.loop" from rfl]
      first | rw [Around.under_plainId PySem.F.plain_max_loop _] | rw [Around.under_plainId PySem.F.plain_min_loop _]
      first | rw [den_builtin PySem.F.entry_max_loop] | rw [den_builtin PySem.F.entry_min_loop]
      show wpAny _ X.A.in1 (seqItems? (.ref S) >>= _) _ _ _
      refine wpAny_bind (wpAny_seqItems hob rfl ?_)
      show wpAny _ X.A.in1 (tryCatch (pyNext (.ref I)) _ >>= _) _ _ _
      refine wpAny_bind (wpAny_tryCatch (wpAny_pyNext_list_item hit pl.isList (x := u) (by simpa using hv) fun h' hit' k' => ?_))
      have I2 : Inv X pins σ H { s1 with heap := h' } := I1.turned (t' := s1.toks) (fun b' o hb e => (k'.2 b' hb).trans e) hI fI.2.1 fI.2.2.2.1 fI.2.2.2.2.1 fI.2.2.2.2.2
      obtain ⟨o2, ho2, hoc, hod⟩ := hit'
      have hob2 : h'.get? S = some (bestOb its c) := (k'.2 S hSI).trans hob
      have I3 : Inv X (pins ++ [(I, o2), (S, bestOb its c)]) σ H { s1 with heap := h' } := I2.pins_of fun p hp => by
        rcases List.mem_append.mp hp with z | z
        · exact I2.pin p (List.mem_append_right _ z)
        · simp only [List.mem_cons, List.not_mem_nil, or_false] at z
          rcases z with rfl | rfl
          · exact ⟨ho2, hI, fI.2.1, fI.2.2.1, fun v q => by rw [hod] at q; cases q⟩
          · exact ⟨hob2, hS, fS.2.1, fS.2.2.1, fun v q => by cases q⟩
      rcases hkey with ⟨rfl, hk0⟩ | ⟨q, rfl, hq⟩
      · refine wpAny_bind (wpAny_pure ?_)
        have hy := hk0 i x hx
        cases e : pick bt i with
        | none =>
          rw [e] at hk
          have hk : its = #[] := hk
          subst hk
          have ep : pick bt (i + 1) = some i := by unfold pick; rw [e]
          refine wpAny_bind (wpAny_updateSeq hob2 rfl ?_)
          first | rw [hn1] | rw [hn2]
          exact wpAny_pure ⟨rfl, tail _ H x u o2 I3 (Same.refl _) ru hy ⟨hoc, hod⟩ _ ep.symm _ ⟨x, x, u, u, hx, ru, hy, ru, rfl⟩ rfl _⟩
        | some j =>
          rw [e] at hk
          obtain ⟨xo, yo, uo, vo, g1, g2, g3, g4, rfl⟩ := hk
          show wpAny _ X.A.in1 (tryCatch (holding [u, u] (richCompare _ u vo >>= _)) _ >>= _) _ _ _
          refine wpAny_bind (wpAny_tryCatch (wpAny_holding (wpAny_bind (hcmp i j x yo u vo _ H _ _ _ hy g3 I3 S1 ru g4 (wpAny_bind (wpAny_holding (wpAny_truthy_bool (wpAny_bind (wpAny_letGo (wpAny_pure ?_)))))))))) 
          cases eb : bt i j with
          | true =>
            have ep : pick bt (i + 1) = some i := by unfold pick; rw [e]; simp only [eb, if_true]
            refine wpAny_bind (wpAny_updateSeq hob2 rfl (wpAny_bind (wpAny_letGo ?_)))
            first | rw [hn1] | rw [hn2]
            exact wpAny_pure ⟨rfl, tail _ H x u o2 I3 (Same.refl _) ru hy ⟨hoc, hod⟩ _ ep.symm _ ⟨x, x, u, u, hx, ru, hy, ru, rfl⟩ rfl _⟩
          | false =>
            have ep : pick bt (i + 1) = some j := by unfold pick; rw [e]; simp only [eb, Bool.false_eq_true, if_false]
            refine wpAny_bind (wpAny_letGo ?_)
            first | rw [hn1] | rw [hn2]
            exact wpAny_pure ⟨rfl, tail0 _ H o2 I3 (Same.refl _) ⟨hoc, hod⟩ (by rw [ep]; exact ⟨xo, yo, uo, vo, g1, g2, g3, g4, rfl⟩)⟩
      · show wpAny _ X.A.in1 (tryCatch (holding [u] (call (.ref q) [u])) _ >>= _) _ _ _
        refine wpAny_bind (wpAny_tryCatch (wpAny_holding (wpAny_mono (hq i x u _ _ H hx I3 ru S1) (fun v s2 ⟨y, H2, J, ry, hy, S2⟩ => ?_) fun _ _ z => z.elim)))
        have hob3 := (J.pin (S, bestOb its c) (by simp)).1
        cases e : pick bt i with
        | none =>
          rw [e] at hk
          have hk : its = #[] := hk
          subst hk
          have ep : pick bt (i + 1) = some i := by unfold pick; rw [e]
          refine wpAny_bind (wpAny_updateSeq hob3 rfl ?_)
          first | rw [hn1] | rw [hn2]
          exact wpAny_pure ⟨rfl, tail _ H2 y v o2 J S2 ry hy ⟨hoc, hod⟩ _ ep.symm _ ⟨x, y, u, v, hx, ru, hy, ry, rfl⟩ rfl _⟩
        | some j =>
          rw [e] at hk
          obtain ⟨xo, yo, uo, vo, g1, g2, g3, g4, rfl⟩ := hk
          show wpAny _ X.A.in1 (tryCatch (holding [u, v] (richCompare _ v vo >>= _)) _ >>= _) _ _ _
          refine wpAny_bind (wpAny_tryCatch (wpAny_holding (wpAny_bind (hcmp i j y yo v vo _ H2 _ _ _ hy g3 J (S1.trans S2) ry g4 (wpAny_bind (wpAny_holding (wpAny_truthy_bool (wpAny_bind (wpAny_letGo (wpAny_pure ?_))))))))))
          cases eb : bt i j with
          | true =>
            have ep : pick bt (i + 1) = some i := by unfold pick; rw [e]; simp only [eb, if_true]
            refine wpAny_bind (wpAny_updateSeq hob3 rfl (wpAny_bind (wpAny_letGo ?_)))
            first | rw [hn1] | rw [hn2]
            exact wpAny_pure ⟨rfl, tail _ H2 y v o2 J S2 ry hy ⟨hoc, hod⟩ _ ep.symm _ ⟨x, y, u, v, hx, ru, hy, ry, rfl⟩ rfl _⟩
          | false =>
            have ep : pick bt (i + 1) = some j := by unfold pick; rw [e]; simp only [eb, Bool.false_eq_true, if_false]
            refine wpAny_bind (wpAny_letGo ?_)
            first | rw [hn1] | rw [hn2]
            exact wpAny_pure ⟨rfl, tail0 _ H2 o2 J S2 ⟨hoc, hod⟩ (by rw [ep]; exact ⟨xo, yo, uo, vo, g1, g2, g3, g4, rfl⟩)⟩
end
end L2

namespace L2
open PySem PySem.Spec PyProof.Rows
theorem argsD (b : Bool) (a d : Value) : argsOk (mmI b) ⟨[a], [(Str.ofString "default", d)]⟩ := by cases b <;> (unfold argsOk; kernel_rfl)
theorem argsKD (b : Bool) (a v d : Value) : argsOk (mmI b) ⟨[a], [(Str.ofString "key", v), (Str.ofString "default", d)]⟩ := by cases b <;> (unfold argsOk; kernel_rfl)
theorem args1 (b : Bool) (a : Value) : argsOk (mmI b) ⟨[a], []⟩ := by cases b <;> (unfold argsOk; kernel_rfl)
section
variable {X : Cx} {pins : List (Addr × Obj)} {σ : St} {H : Hp} {s : Shared} {a : Addr} {xs : List V} {KV : Nat → V → Prop} {bt : Nat → Nat → Bool} {Q : VK}
/-- the three forms of a call: plain; with a default; with a key and a default -/
inductive MmKw : List (Str × Value) → Value → List (Str × Value) → Prop
  | one : MmKw [] .none []
  | dflt (d : Value) : MmKw [(Str.ofString "default", d)] .none [(Str.ofString "default", d)]
  | key (q : Addr) (d : Value) : MmKw [(Str.ofString "key", .ref q), (Str.ofString "default", d)] (.ref q) [(Str.ofString "default", d)]
theorem mm_call (b : Bool) {kws kw : List (Str × Value)} {key : Value} (hkw : MmKw kws key kw) (hc : X.calm = true) (I0 : Inv X pins σ H s) (hl : SqL X.K H a xs)
    (hkey : (key = .none ∧ ∀ i x, xs[i]? = some x → KV i x) ∨ ∃ q, key = .ref q ∧ ∀ i x u (pins : List (Addr × Obj)) s H', xs[i]? = some x → Inv X pins σ H' s → RelV x u → Same H H' →
      wpAny (model X.prog X.w) X.A.in1 (call (.ref q) [u]) (fun v s' => ∃ y H2, Inv X pins σ H2 s' ∧ RelV y v ∧ KV i y ∧ Same H' H2) (fun _ _ => False) s)
    (hcmp : ∀ i j y z v u s H' (pins : List (Addr × Obj)) (Q : Value → Shared → Prop) (E : Value → Shared → Prop), KV i y → KV j z → Inv X pins σ H' s → Same H H' → RelV y v → RelV z u → Q (.bool (bt i j)) s → wpAny (model X.prog X.w) X.A.in1 (richCompare (mmOp b) v u) Q E s)
    (hn : kw = [] → 0 < xs.length) (hd : ∀ dn d r, kw = (dn, d) :: r → d = .none)
    (hQ : ∀ H', Same H H' → match pick bt xs.length with | none => Q .non H' | some j => ∀ x, xs[j]? = some x → Q x H') :
    wpAny (model X.prog X.w) X.A (call (.builtin (mmI b)) [.ref a] kws) (EP X pins σ Q) X.xe s := by
  have hn1 : (toString "min" ++ toString ".loop" : String) = "min.loop" := by decide
  have hn2 : (toString "max" ++ toString ".loop" : String) = "max.loop" := by decide
  obtain ⟨vs, rv, pl, hz⟩ := I0.list hl
  have hls := pl.isList
  have e1 : (s.heap.push { cls := .type "list_iterator", data := .fields #[.ref a, .int 0 0] }).objs.size = s.heap.objs.size + 1 := Heap.size_push ..
  have I1 : Inv X pins σ H { s with heap := (s.heap.push { cls := .type "list_iterator", data := .fields #[.ref a, .int 0 0] }).push (bestOb #[] 0) } := I0.kept (t' := s.toks) fun b' o e => Heap.get?_push_of_some _ (Heap.get?_push_of_some _ e)
  have gI : ((s.heap.push { cls := .type "list_iterator", data := .fields #[.ref a, .int 0 0] }).push (bestOb #[] 0)).IsListIter s.heap.objs.size a 0 := ⟨_, Heap.get?_push_of_some _ (Heap.get?_push_size _ rfl), rfl, rfl⟩
  have gS : ((s.heap.push { cls := .type "list_iterator", data := .fields #[.ref a, .int 0 0] }).push (bestOb #[] 0)).get? (s.heap.push { cls := .type "list_iterator", data := .fields #[.ref a, .int 0 0] }).objs.size = some (bestOb #[] 0) := Heap.get?_push_size _ rfl
  have fI : FpOk X pins H s.heap.objs.size := I0.fpOk (Nat.le_refl _) (I0.hok.fresh (Nat.le_refl _))
  have fS : FpOk X pins H (s.heap.push { cls := .type "list_iterator", data := .fields #[.ref a, .int 0 0] }).objs.size := by
    rw [e1]; exact I0.fpOk (Nat.le_succ _) (I0.hok.fresh (Nat.le_succ _))
  have nSI : (s.heap.push { cls := .type "list_iterator", data := .fields #[.ref a, .int 0 0] }).objs.size ≠ s.heap.objs.size := by rw [e1]; exact Nat.ne_of_gt (Nat.lt_succ_self _)
  have lp : codeAny (model X.prog X.w) X.A (.builtin (mmL b) ⟨[.ref s.heap.objs.size, key, .ref (s.heap.push { cls := .type "list_iterator", data := .fields #[.ref a, .int 0 0] }).objs.size], kw⟩)
      (fun r s' => match r with | .ok (.ret v) => EP X pins σ Q v s' | .ok _ => False | .error e => X.xe e s') { s with heap := (s.heap.push { cls := .type "list_iterator", data := .fields #[.ref a, .int 0 0] }).push (bestOb #[] 0) } := by
    refine mm_loop b hc nSI hl hkey hcmp ?_ hn I1 gI fI fS gS
    intro s' H' I' S'
    have q := hQ H' S'
    cases e : pick bt xs.length with
    | none =>
      rw [e] at q
      intro d dn r hk
      have hd' := hd dn d r hk
      subst hd'
      exact ⟨.non, H', I', rfl, q⟩
    | some j =>
      rw [e] at q
      intro x u hx ru
      exact ⟨x, H', I', ru, q x hx⟩
  cases b with
  | false =>
    cases hkw with
    | one =>
      refine PyProof.Rows.kmk_tree PySem.F.kind_max PySem.F.plain_max PySem.F.entry_max (args1 false _) ?_
      show wpAny _ X.A.in1 (Builtin.Builtins.bindParams "max" ["key", "default"] 0 ⟨[], []⟩ >>= _) _ _ s
      refine wpAny_bind (wpAny_of_eq (show Builtin.Builtins.bindParams "max" ["key", "default"] 0 ⟨[], []⟩ = pure [none, none] from rfl) ?_)
      refine wpAny_bind (wpAny_pure ?_)
      refine wpAny_bind (wpAny_pyIter_list hls ?_)
      refine wpAny_bind (wpAny_newList ?_ (Nat.zero_le _))
      rw [hn2]
      exact wpAny_pure ⟨plainId_quiet PySem.F.plain_max_loop _, lp⟩
    | dflt d =>
      refine PyProof.Rows.kmk_tree PySem.F.kind_max PySem.F.plain_max PySem.F.entry_max (argsD false _ _) ?_
      show wpAny _ X.A.in1 (Builtin.Builtins.bindParams "max" ["key", "default"] 0 ⟨[], [(Str.ofString "default", d)]⟩ >>= _) _ _ s
      refine wpAny_bind (wpAny_of_eq (show Builtin.Builtins.bindParams "max" ["key", "default"] 0 ⟨[], [(Str.ofString "default", d)]⟩ = pure [none, some d] from rfl) ?_)
      refine wpAny_bind (wpAny_pure ?_)
      refine wpAny_bind (wpAny_pyIter_list hls ?_)
      refine wpAny_bind (wpAny_newList ?_ (Nat.zero_le _))
      rw [hn2]
      exact wpAny_pure ⟨plainId_quiet PySem.F.plain_max_loop _, lp⟩
    | key q d =>
      refine PyProof.Rows.kmk_tree PySem.F.kind_max PySem.F.plain_max PySem.F.entry_max (argsKD false _ _ _) ?_
      show wpAny _ X.A.in1 (Builtin.Builtins.bindParams "max" ["key", "default"] 0 ⟨[], [(Str.ofString "key", .ref q), (Str.ofString "default", d)]⟩ >>= _) _ _ s
      refine wpAny_bind (wpAny_of_eq (show Builtin.Builtins.bindParams "max" ["key", "default"] 0 ⟨[], [(Str.ofString "key", .ref q), (Str.ofString "default", d)]⟩ = pure [some (.ref q), some d] from rfl) ?_)
      refine wpAny_bind (wpAny_pure ?_)
      refine wpAny_bind (wpAny_pyIter_list hls ?_)
      refine wpAny_bind (wpAny_newList ?_ (Nat.zero_le _))
      rw [hn2]
      exact wpAny_pure ⟨plainId_quiet PySem.F.plain_max_loop _, lp⟩
  | true =>
    cases hkw with
    | one =>
      refine PyProof.Rows.kmk_tree PySem.F.kind_min PySem.F.plain_min PySem.F.entry_min (args1 true _) ?_
      show wpAny _ X.A.in1 (Builtin.Builtins.bindParams "min" ["key", "default"] 0 ⟨[], []⟩ >>= _) _ _ s
      refine wpAny_bind (wpAny_of_eq (show Builtin.Builtins.bindParams "min" ["key", "default"] 0 ⟨[], []⟩ = pure [none, none] from rfl) ?_)
      refine wpAny_bind (wpAny_pure ?_)
      refine wpAny_bind (wpAny_pyIter_list hls ?_)
      refine wpAny_bind (wpAny_newList ?_ (Nat.zero_le _))
      rw [hn1]
      exact wpAny_pure ⟨plainId_quiet PySem.F.plain_min_loop _, lp⟩
    | dflt d =>
      refine PyProof.Rows.kmk_tree PySem.F.kind_min PySem.F.plain_min PySem.F.entry_min (argsD true _ _) ?_
      show wpAny _ X.A.in1 (Builtin.Builtins.bindParams "min" ["key", "default"] 0 ⟨[], [(Str.ofString "default", d)]⟩ >>= _) _ _ s
      refine wpAny_bind (wpAny_of_eq (show Builtin.Builtins.bindParams "min" ["key", "default"] 0 ⟨[], [(Str.ofString "default", d)]⟩ = pure [none, some d] from rfl) ?_)
      refine wpAny_bind (wpAny_pure ?_)
      refine wpAny_bind (wpAny_pyIter_list hls ?_)
      refine wpAny_bind (wpAny_newList ?_ (Nat.zero_le _))
      rw [hn1]
      exact wpAny_pure ⟨plainId_quiet PySem.F.plain_min_loop _, lp⟩
    | key q d =>
      refine PyProof.Rows.kmk_tree PySem.F.kind_min PySem.F.plain_min PySem.F.entry_min (argsKD true _ _ _) ?_
      show wpAny _ X.A.in1 (Builtin.Builtins.bindParams "min" ["key", "default"] 0 ⟨[], [(Str.ofString "key", .ref q), (Str.ofString "default", d)]⟩ >>= _) _ _ s
      refine wpAny_bind (wpAny_of_eq (show Builtin.Builtins.bindParams "min" ["key", "default"] 0 ⟨[], [(Str.ofString "key", .ref q), (Str.ofString "default", d)]⟩ = pure [some (.ref q), some d] from rfl) ?_)
      refine wpAny_bind (wpAny_pure ?_)
      refine wpAny_bind (wpAny_pyIter_list hls ?_)
      refine wpAny_bind (wpAny_newList ?_ (Nat.zero_le _))
      rw [hn1]
      exact wpAny_pure ⟨plainId_quiet PySem.F.plain_min_loop _, lp⟩
end
end L2

namespace L2
open PySem PySem.Spec PyProof.Rows
section
variable {X : Cx} {K : PySem.W.Frag} {x : Str} {p pos : Pos} {e : Expr} {es : List Expr} {kws : List Keyword} {t tk : TA} {id : String} {ks : List Str}
/-- what the best is: None of no items, else the item at its place -/
def Best (bt : Nat → Nat → Bool) (xs : List V) (H : Hp) (Q : VK) : Prop := ∀ H', Same H H' → match pick bt xs.length with | none => Q .non H' | some j => ∀ x, xs[j]? = some x → Q x H'
/-- min or max of a list of ints that has some -/
def rMm1 (K : PySem.W.Frag) (b : Bool) : List V → Hp → VK → Prop := fun vs H Q => ∃ (a : Addr) (ns : List Int), vs = [.ref a] ∧ SqL K H a (ns.map V.int) ∧ 0 < ns.length ∧ Best (fun i j => if b then decide (ns.getD i 0 < ns.getD j 0) else decide (ns.getD j 0 < ns.getD i 0)) (ns.map V.int) H Q
theorem cMm1 (b : Bool) (hK : X.K = K) (hc : X.calm = true) : CallR X (.builtin (mmI b)) (rMm1 K b) := by
  subst hK
  intro pins s σ H vs us Q I r1 h
  obtain ⟨a, ns, rfl, hl, h0, hb⟩ := h
  obtain ⟨u, rfl, ru⟩ := vals1 r1
  cases ru
  refine mm_call (b := b) (KV := fun i y => y = .int (ns.getD i 0)) (bt := fun i j => if b then decide (ns.getD i 0 < ns.getD j 0) else decide (ns.getD j 0 < ns.getD i 0)) .one hc I hl (.inl ⟨rfl, fun i x hx => ?_⟩) ?_ (fun _ => by rw [List.length_map]; exact h0) (fun dn d r z => nomatch z) hb
  · rw [List.getElem?_map] at hx
    cases e : ns[i]? with
    | none => rw [e] at hx; cases hx
    | some n => rw [e] at hx; cases hx; simp [List.getD, e]
  · rintro i j y z v w' s' H' pins' Q' E' rfl rfl I' S' ry rz hq
    obtain ⟨t1, rfl⟩ := ry
    obtain ⟨t2, rfl⟩ := rz
    cases b with
    | true =>
      show wpAny _ _ (compareOp .Lt _ _) _ _ _
      exact lt_int hq
    | false =>
      show wpAny _ _ (compareOp .Gt _ _) _ _ _
      exact gt_int hq
end
end L2

namespace L2
open PySem PySem.Spec PyProof.Rows
section
variable {X : Cx} {K : PySem.W.Frag}
end
end L2

namespace L2
open PySem PySem.Spec PyProof.Rows
end L2

namespace L2
open PySem PySem.Spec PyProof.Rows
/-! ### a, b = a list of that length -/
section
variable {prog : Program} {w : World} {A : Around} {E : Value → Shared → Prop} {s : Shared}
end
section
variable {X : Cx} {K : PySem.W.Frag} {pos : Pos}
end
end L2

namespace L2
open PySem PySem.Spec PyProof.Rows
/-! ### lists of pairs as tables -/
section
variable {κ : Type} [DecidableEq κ]
def valV (kvs : List (κ × V)) (k : κ) : Option V := (kvs.find? fun kv => decide (kv.1 = k)).map (·.2)
/-- in its place, or at the end -/
def putK (kvs : List (κ × V)) (k : κ) (v : V) : List (κ × V) :=
  if (kvs.any fun kv => decide (kv.1 = k)) = true then kvs.map (fun kv => if kv.1 = k then (kv.1, v) else kv) else kvs ++ [(k, v)]
def dropK (kvs : List (κ × V)) (k : κ) : List (κ × V) := kvs.filter fun kv => decide (kv.1 ≠ k)

theorem valV_pos {p : κ × V} {r : List (κ × V)} {k : κ} (e : p.1 = k) : valV (p :: r) k = some p.2 := by simp [valV, List.find?_cons, e]
theorem valV_neg {p : κ × V} {r : List (κ × V)} {k : κ} (e : ¬ p.1 = k) : valV (p :: r) k = valV r k := by simp [valV, List.find?_cons, e]
theorem valV_any (k : κ) : ∀ kvs : List (κ × V), (kvs.any fun kv => decide (kv.1 = k)) = (valV kvs k).isSome
  | [] => rfl
  | p :: r => by
    rw [List.any_cons]
    by_cases e : p.1 = k
    · simp only [valV_pos e, decide_eq_true e, Bool.true_or, Option.isSome_some]
    · rw [valV_neg e, decide_eq_false e, Bool.false_or]; exact valV_any k r
theorem RelO.isSome_eq {o : Option V} {u : Option Value} (r : RelO o u) : o.isSome = u.isSome := by
  cases o with
  | none => cases u with
    | none => rfl
    | some _ => exact (show False from r).elim
  | some _ => cases u with
    | none => exact (show False from r).elim
    | some _ => rfl
theorem RelO.getD {o : Option V} {u : Option Value} {d : V} {d' : Value} (r : RelO o u) (rd : RelV d d') : RelV (o.getD d) (u.getD d') := by
  cases o with
  | none => cases u with
    | none => exact rd
    | some _ => exact (show False from r).elim
  | some _ => cases u with
    | none => exact (show False from r).elim
    | some _ => exact r

/-- raw tables of the same keys -/
theorem KV.val {kvs : List (κ × V)} {vs : List (κ × Value)} (r : KV kvs vs) (k : κ) : RelO (valV kvs k) (valueAt vs k) := by
  unfold KV at r
  induction r with
  | nil => exact True.intro
  | @cons p q ps qs h t ih =>
    obtain ⟨h1, h2⟩ := h
    by_cases e : p.1 = k
    · have e' : q.1 = k := h1.symm.trans e
      have b : valueAt (q :: qs) k = some q.2 := by simp [valueAt, List.find?_cons, e']
      rw [valV_pos e, b]; exact h2
    · have e' : ¬ q.1 = k := fun z => e (h1.trans z)
      have b : valueAt (q :: qs) k = valueAt qs k := by simp [valueAt, List.find?_cons, e']
      rw [valV_neg e, b]; exact ih
theorem KV.any {kvs : List (κ × V)} {vs : List (κ × Value)} (r : KV kvs vs) (k : κ) : (kvs.any fun kv => decide (kv.1 = k)) = vs.any fun kv => decide (kv.1 = k) := by
  unfold KV at r
  induction r with
  | nil => rfl
  | cons h t ih => rw [List.any_cons, List.any_cons, ih, h.1]
theorem KV.repl {kvs : List (κ × V)} {vs : List (κ × Value)} (r : KV kvs vs) (k : κ) {y : V} {u : Value} (ry : RelV y u) :
    KV (kvs.map fun kv => if kv.1 = k then (kv.1, y) else kv) (vs.map fun kv => if kv.1 = k then (kv.1, u) else kv) := by
  unfold KV at r ⊢
  induction r with
  | nil => exact .nil
  | @cons p q ps qs h t ih =>
    rw [List.map_cons, List.map_cons]
    refine .cons ?_ ih
    obtain ⟨h1, h2⟩ := h
    by_cases e : p.1 = k
    · rw [if_pos e, if_pos (h1.symm.trans e)]; exact ⟨h1, ry⟩
    · rw [if_neg e, if_neg (fun z => e (h1.trans z))]; exact ⟨h1, h2⟩
theorem KV.put {kvs : List (κ × V)} {vs : List (κ × Value)} (r : KV kvs vs) (k : κ) {y : V} {u : Value} (ry : RelV y u) : KV (putK kvs k y) (stored vs k u) := by
  unfold putK stored
  rw [r.any k]
  by_cases e : (vs.any fun kv => decide (kv.1 = k)) = true
  · rw [if_pos e, if_pos e]; exact r.repl k ry
  · rw [if_neg e, if_neg e]; exact Paired.snoc r ⟨rfl, ry⟩
theorem KV.drop {kvs : List (κ × V)} {vs : List (κ × Value)} (r : KV kvs vs) (k : κ) : KV (dropK kvs k) (without vs k) := by
  unfold KV at r ⊢
  unfold dropK without
  induction r with
  | nil => exact .nil
  | @cons p q ps qs h t ih =>
    obtain ⟨h1, h2⟩ := h
    rw [List.filter_cons, List.filter_cons]
    by_cases e : p.1 = k
    · have a : ¬ decide (p.1 ≠ k) = true := by simp [e]
      have b : ¬ decide (q.1 ≠ k) = true := by simp [h1.symm.trans e]
      rw [if_neg a, if_neg b]; exact ih
    · have e' : ¬ q.1 = k := fun z => e (h1.trans z)
      have a : decide (p.1 ≠ k) = true := by simp [e]
      have b : decide (q.1 ≠ k) = true := by simp [e']
      rw [if_pos a, if_pos b]; exact .cons ⟨h1, h2⟩ ih
theorem KV.keys {kvs : List (κ × V)} {vs : List (κ × Value)} (r : KV kvs vs) : kvs.map (·.1) = vs.map (·.1) := by
  unfold KV at r
  induction r with
  | nil => rfl
  | cons h t ih => rw [List.map_cons, List.map_cons, ih, h.1]
theorem KV.length {kvs : List (κ × V)} {vs : List (κ × Value)} (r : KV kvs vs) : kvs.length = vs.length := Paired.length r
end


/-! ### a tracked dict, its keys ints and texts or tuples of these -/
/-- raw entries of a dict with tuple keys -/
abbrev KT (H : Hp) : List (List Key × V) → List (List Key × Addr × Value) → Prop := Paired fun p q => p.1 = q.1 ∧ H q.2.1 = some (.tup (p.1.map kV)) ∧ RelV p.2 q.2.2
theorem KT.val {H : Hp} {kvs : List (List Key × V)} {xs : List (List Key × Addr × Value)} (r : KT H kvs xs) (k : List Key) : RelO (valV kvs k) ((atKey xs k).map (·.2)) := by
  induction r with
  | nil => exact True.intro
  | @cons p q ps qs h t ih =>
    obtain ⟨h1, _, h2⟩ := h
    by_cases e : p.1 = k
    · have e' : q.1 = k := h1.symm.trans e
      have b : atKey (q :: qs) k = some q.2 := by simp [atKey, List.find?_cons, e']
      rw [valV_pos e, b]; exact h2
    · have e' : ¬ q.1 = k := fun z => e (h1.trans z)
      have b : atKey (q :: qs) k = atKey qs k := by simp [atKey, List.find?_cons, e']
      rw [valV_neg e, b]; exact ih
theorem KT.repl {H : Hp} {kvs : List (List Key × V)} {xs : List (List Key × Addr × Value)} (r : KT H kvs xs) (k : List Key) {y : V} {u : Value} (ry : RelV y u) :
    KT H (kvs.map fun kv => if kv.1 = k then (kv.1, y) else kv) (xs.map (putAt k u)) := by
  induction r with
  | nil => exact .nil
  | @cons p q ps qs h t ih =>
    rw [List.map_cons, List.map_cons]
    refine .cons ?_ ih
    obtain ⟨h1, h2, h3⟩ := h
    unfold putAt
    by_cases e : p.1 = k
    · rw [if_pos e, if_pos (h1.symm.trans e)]; exact ⟨h1, h2, ry⟩
    · rw [if_neg e, if_neg (fun z => e (h1.trans z))]; exact ⟨h1, h2, h3⟩
theorem KT.put {H : Hp} {kvs : List (List Key × V)} {xs : List (List Key × Addr × Value)} (r : KT H kvs xs) (k : List Key) {b : Addr} {y : V} {u : Value} (hb : H b = some (.tup (k.map kV))) (ry : RelV y u) :
    KT H (putK kvs k y) (storedH xs k b u) := by
  have e : (kvs.any fun kv => decide (kv.1 = k)) = (atKey xs k).isSome := by
    rw [valV_any, (r.val k).isSome_eq, Option.isSome_map]
  unfold putK storedH
  rw [e]
  by_cases q : (atKey xs k).isSome = true
  · rw [if_pos q, if_pos q]; exact r.repl k ry
  · rw [if_neg q, if_neg q]; exact Paired.snoc r ⟨rfl, hb, ry⟩
theorem KT.keeps {H H' : Hp} {kvs : List (List Key × V)} {xs : List (List Key × Addr × Value)} (r : KT H kvs xs) (ht : ∀ b ys, H b = some (.tup ys) → H' b = some (.tup ys)) : KT H' kvs xs :=
  Paired.mapP r fun _ _ z => ⟨z.1, ht _ _ z.2.1, z.2.2⟩

section
variable {P : Program} {w : World} {H : Hp} {h : Heap} {a : Addr}
end

/-- what the dict at a holds at the key y -/
def DGet (H : Hp) (a : Addr) (y : V) (r : Option V) : Prop :=
  (∃ kvs k, Rd H a (.dK kvs) ∧ y = kV k ∧ r = valV kvs k) ∨ ∃ kvs k b, Rd H a (.dT kvs) ∧ y = .ref b ∧ H b = some (.tup (k.map kV)) ∧ r = valV kvs k
/-- the heap behind a[y] = v -/
def DPut (H : Hp) (a : Addr) (y v : V) (H' : Hp) : Prop :=
  (∃ kvs k, H a = some (.dK kvs) ∧ y = kV k ∧ kvs.length < sizeLine ∧ H' = upd H a (.dK (putK kvs k v))) ∨
  ∃ kvs k b, H a = some (.dT kvs) ∧ y = .ref b ∧ H b = some (.tup (k.map kV)) ∧ kvs.length < sizeLine ∧ H' = upd H a (.dT (putK kvs k v))
theorem DGet.k {H : Hp} {a : Addr} {kvs : List (Key × V)} {k : Key} (e : H a = some (.dK kvs)) : DGet H a (kV k) (valV kvs k) := .inl ⟨kvs, k, .inl e, rfl, rfl⟩
theorem DGet.t {H : Hp} {a b : Addr} {kvs : List (List Key × V)} {k : List Key} (e : H a = some (.dT kvs)) (eb : H b = some (.tup (k.map kV))) : DGet H a (.ref b) (valV kvs k) := .inr ⟨kvs, k, b, .inl e, rfl, eb, rfl⟩
theorem DPut.k {H : Hp} {a : Addr} {kvs : List (Key × V)} {k : Key} {v : V} (e : H a = some (.dK kvs)) (hl : kvs.length < sizeLine) : DPut H a (kV k) v (upd H a (.dK (putK kvs k v))) := .inl ⟨kvs, k, e, rfl, hl, rfl⟩
theorem DPut.t {H : Hp} {a b : Addr} {kvs : List (List Key × V)} {k : List Key} {v : V} (e : H a = some (.dT kvs)) (eb : H b = some (.tup (k.map kV))) (hl : kvs.length < sizeLine) :
    DPut H a (.ref b) v (upd H a (.dT (putK kvs k v))) := .inr ⟨kvs, k, b, e, rfl, eb, hl, rfl⟩


section
variable {X : Cx} {pins : List (Addr × Obj)} {σ : St} {H : Hp} {s : Shared} {a : Addr} {y v : V} {u r : Value} {o : Option V} {A : Around} {E : Value → Shared → Prop}

end

section
variable {X : Cx} {pins : List (Addr × Obj)} {σ : St} {H : Hp} {s : Shared} {a : Addr} {kvs : List (Key × V)} {k : Key} {u : Value} {A : Around} {E : Value → Shared → Prop}
end


/-! ### readings and rules -/
section
variable {X : Cx} {o i e value : Expr} {pos pos' tpos : Pos} {td ty tv : TE}
end


/-! ### displays -/
section
variable {X : Cx} {pos : Pos}
end
end L2

namespace L2
open PySem PySem.Spec PyProof.Rows
/-! ### a dict's keys one by one, whatever they are -/
def RawD (h : Heap) (d : Addr) (es : Array DictEntry) (ep : Nat) : Prop := ∃ o, h.get? d = some o ∧ o.ExactDict ∧ o.data = .dict es ep
theorem RawD.typeIs {s : Shared} {d : Addr} {es : Array DictEntry} {ep : Nat} (h : RawD s.heap d es ep) : s.TypeIs (.ref d) "dict" := let ⟨o, e, hx, _⟩ := h; ⟨o, e, hx.1⟩
theorem RawD.at {h h' : Heap} {d : Addr} {es : Array DictEntry} {ep : Nat} (x : RawD h d es ep) (k : ∀ o, h.get? d = some o → h'.get? d = some o) : RawD h' d es ep := let ⟨o, e, r⟩ := x; ⟨o, k _ e, r⟩
section
variable {prog : Program} {w : World} {A : Around} {E : Value → Shared → Prop} {s : Shared} {d it : Addr} {es : Array DictEntry} {ep i : Nat}
end
end L2

namespace L2
open PySem PySem.Spec PyProof.Rows
/-! ### the sort of what is in order already -/
section
variable {prog : Program} {w : World} {A : Around} {E : Value → Shared → Prop} {κ : SortKind} {it : Array Keyed}
end
section
variable {prog : Program} {w : World} {A : Around} {E : Value → Shared → Prop} {s : Shared} {a : Addr} {vs : List Value}
theorem pairs_snd (vs : List Value) : (pairsOf vs).map (·.2) = vs.toArray := by
  apply Array.toList_inj.mp
  rw [Array.toList_map, pairsOf_toList]
  simp [List.map_snd_zip]
end
end L2

namespace L2
open PySem PySem.Spec PyProof.Rows
/-! ### sorted(d): a dict whose keys are pairs of ints, in order -/
theorem Paired.at' {α β : Type} {F : α → β → Prop} : ∀ {l : List α} {m : List β} {i : Nat} {x : α}, Paired F l m → l[i]? = some x → ∃ y, m[i]? = some y ∧ F x y
  | _, _, _, _, .nil, e => by simp at e
  | _, _, 0, _, .cons r _, e => by simp at e; subst e; exact ⟨_, rfl, r⟩
  | _, _, i + 1, x, .cons _ t, e => by simp at e; obtain ⟨y, h1, h2⟩ := Paired.at' t e; exact ⟨y, by simpa using h1, h2⟩
end L2

namespace L2
open PySem PySem.Spec PyProof.Rows
/-! ### d != {}, d == {} -/
section
variable {prog : Program} {w : World} {A : Around} {E : Value → Shared → Prop} {s : Shared} {a b : Addr} {es : Array DictEntry} {ep ep' : Nat}
end
theorem sz0 (kvs : List (List Key × V)) : (kvs.length == 0) = kvs.isEmpty := by cases kvs <;> rfl
end L2

namespace L2
open PySem PySem.Spec PyProof.Rows
/-! ### t < u, tuples whose items are compared one by one -/
inductive LexAt (A : Around) (s : Shared) (fin : Bool) : List (Value × Value) → Bool → Prop
  | nil : LexAt A s fin [] fin
  | eq {p q : Value} {r : List (Value × Value)} {b : Bool} : SeqAt.EqAt A s p q true → LexAt A s fin r b → LexAt A s fin ((p, q) :: r) b
  | ne {p q : Value} {r : List (Value × Value)} {b : Bool} : SeqAt.EqAt A s p q false → (∀ (prog : Program) (w : World) (E : Value → Shared → Prop) (Q : Value → Shared → Prop), Q (.bool b) s → wpAny (model prog w) A (richCompare .Lt p q) Q E s) → LexAt A s fin ((p, q) :: r) b
section
open PySem.SeqAt
open PySem.AutoSeq1 (wpAny_loadPart')
open PySem.MeetsSeq PySem.MeetsSeq2 PySem.MeetsSeq3
end
end L2

namespace L2
open PySem PySem.Spec PyProof.Rows
theorem int_of {x : Int} {u : Value} (r : RelV (.int x) u) : ∃ t, u = .int x t := r
end L2

namespace L2
open PySem PySem.Spec PyProof.Rows
/-! ### for v in d.values() -/
section
variable {prog : Program} {w : World} {A : Around} {E : Value → Shared → Prop} {s : Shared} {d it vw : Addr} {es : Array DictEntry} {ep i : Nat}
end
end L2

namespace L2
open PySem PySem.Spec PyProof.Rows
/-! ### the same of a dict that may be frozen -/
end L2

namespace L2
open PySem PySem.Spec PyProof.Rows
section
variable {X : Cx} {a b c d : Expr} {ta tb tc td : TE} {pos : Pos}
end
/-! ### sorted(xs), fewer than 64 ints -/
end L2

namespace HT
open PySem PyProof.Rows
section
variable {prog : Program} {w : World} {A : Around} {E : Value → Shared → Prop} {s : Shared}
end
end HT
namespace L2
open PySem PySem.Spec PyProof.Rows
section
variable {X : Cx} {K : PySem.W.Frag} {e st : Expr} {te ts : TE} {p2 pos : Pos}
end
end L2

namespace L2
open PySem PySem.Spec PyProof.Rows
end L2

namespace L2
open PySem PySem.Spec PyProof.Rows
/-! ### t > u, tuples whose items are compared one by one -/
inductive LexG (A : Around) (s : Shared) (fin : Bool) : List (Value × Value) → Bool → Prop
  | nil : LexG A s fin [] fin
  | eq {p q : Value} {r : List (Value × Value)} {b : Bool} : SeqAt.EqAt A s p q true → LexG A s fin r b → LexG A s fin ((p, q) :: r) b
  | ne {p q : Value} {r : List (Value × Value)} {b : Bool} : SeqAt.EqAt A s p q false → (∀ (prog : Program) (w : World) (E : Value → Shared → Prop) (Q : Value → Shared → Prop), Q (.bool b) s → wpAny (model prog w) A (richCompare .Gt p q) Q E s) → LexG A s fin ((p, q) :: r) b
section
open PySem.SeqAt
open PySem.AutoSeq1 (wpAny_loadPart')
open PySem.MeetsSeq PySem.MeetsSeq2 PySem.MeetsSeq3
end
end L2

namespace L2
open PySem PySem.Spec PyProof.Rows
end L2

namespace L2
open PySem PySem.Spec PyProof.Rows
/-! ### lo, lo + st, lo + 2 st, .. (n of them) -/
section
variable {X : Cx} {tg : Expr}
/-! ### reversed(list) -/
/-! ### reversed(range(n)) -/
/-! ### {k: v} -/
end
end L2

namespace L2
open PySem PySem.Spec PyProof.Rows
section
variable {X : Cx} {K : PySem.W.Frag}
/-! ### a list of ints, by places -/
def fl (n : Nat) (f : Nat → Int) : List V := (List.range n).map fun j => V.int (f j)
def updf (f : Nat → Int) (i : Nat) (x : Int) : Nat → Int := fun j => if j = i then x else f j
end
end L2

namespace L2
open PySem PySem.Spec PyProof.Rows
/-! ### min, max of a list of ints -/
theorem pick_le {f : Nat → Int} : ∀ {n j : Nat}, pick (fun i j => decide (f i < f j)) n = some j → ∀ i, i < n → f j ≤ f i
  | 0, _, h => by cases h
  | n + 1, j, h => by
    unfold pick at h
    cases e : pick (fun i j => decide (f i < f j)) n with
    | none =>
      rw [e] at h; cases h
      have := pick_none e
      intro i hi
      have : i = n := by omega
      subst this
      exact Int.le_refl _
    | some k =>
      rw [e] at h
      have ih := pick_le e
      simp only [decide_eq_true_eq] at h
      intro i hi
      split at h
      · cases h
        by_cases z : i = n
        · subst z; exact Int.le_refl _
        · have := ih i (by omega); omega
      · cases h
        by_cases z : i = n
        · subst z; omega
        · exact ih i (by omega)
section
variable {X : Cx} {K : PySem.W.Frag}
/-- b: min, else max -/
def rMmI (K : PySem.W.Frag) (b : Bool) : List V → Hp → VK → Prop := fun vs H Q => ∃ (a : Addr) (ns : List Int), vs = [.ref a] ∧ SqL K H a (ns.map V.int) ∧ 0 < ns.length ∧
  ∀ m H', m ∈ ns → (∀ x ∈ ns, if b then m ≤ x else x ≤ m) → Same H H' → Q (.int m) H'
theorem cMmI (b : Bool) (hK : X.K = K) (hc : X.calm = true) : CallR X (.builtin (mmI b)) (rMmI K b) := by
  intro pins s σ H xs us Q I r h
  refine cMm1 b hK hc pins s σ H xs us Q I r ?_
  obtain ⟨a, ns, e, hl, hn, k⟩ := h
  refine ⟨a, ns, e, hl, hn, fun H' S => ?_⟩
  cases b with
  | true =>
    cases e : pick (fun i j => if true = true then decide (ns.getD i 0 < ns.getD j 0) else decide (ns.getD j 0 < ns.getD i 0)) (ns.map V.int).length with
    | none => have := pick_none e; rw [List.length_map] at this; omega
    | some j =>
      simp only [if_true] at e
      have hj := pick_lt e
      have hle := pick_le (f := fun i => ns.getD i 0) e
      intro x hx
      rw [List.length_map] at hj hle
      rw [List.getElem?_map, List.getElem?_eq_getElem hj] at hx
      cases hx
      refine k _ _ (List.getElem_mem hj) (fun x hx => ?_) S
      obtain ⟨i, hi, rfl⟩ := List.getElem_of_mem hx
      have := hle i hi
      simpa [List.getD, List.getElem?_eq_getElem hj, List.getElem?_eq_getElem hi] using this
  | false =>
    cases e : pick (fun i j => if false = true then decide (ns.getD i 0 < ns.getD j 0) else decide (ns.getD j 0 < ns.getD i 0)) (ns.map V.int).length with
    | none => have := pick_none e; rw [List.length_map] at this; omega
    | some j =>
      simp only [Bool.false_eq_true, if_false] at e
      have hj := pick_lt e
      have e' : pick (fun i j => decide ((fun i => - ns.getD i 0) i < (fun i => - ns.getD i 0) j)) (ns.map V.int).length = some j := by
        rw [← e]; congr 1; funext i j; congr 1; apply propext; show -_ < -_ ↔ _; omega
      have hle := pick_le (f := fun i => - ns.getD i 0) e'
      intro x hx
      rw [List.length_map] at hj hle
      rw [List.getElem?_map, List.getElem?_eq_getElem hj] at hx
      cases hx
      refine k _ _ (List.getElem_mem hj) (fun x hx => ?_) S
      obtain ⟨i, hi, rfl⟩ := List.getElem_of_mem hx
      have := hle i hi
      simp only [List.getD, List.getElem?_eq_getElem hj, List.getElem?_eq_getElem hi, Option.getD_some] at this
      rw [if_neg (by decide)]
      omega
end
end L2

namespace L2
open PySem PySem.Spec PyProof.Rows
/-! ### a call of what a name holds -/
end L2

namespace L2
open PySem PySem.Spec PyProof.Rows
section
variable {X : Cx} {K : PySem.W.Frag}
/-- t[lo:hi] of a tracked tuple is a tracked one -/
def rSlTB : V → Option Int → Option Int → Hp → VK → Prop := fun x lo hi H Q => ∃ a xs, x = .ref a ∧ H a = some (.tup xs) ∧ ∀ q H', Same H H' → H' q = some (.tup (cutV xs lo hi)) → Q (.ref q) H'
theorem slTB : SlR X rSlTB := by
  intro pins s σ H x v vl vu lo hi sl Q I rx hs pl pu h
  obtain ⟨a, xs, rfl, hx, q1⟩ := h
  by_cases hw : HT.sIx xs.length 0 lo = 0 ∧ HT.sIx xs.length xs.length hi = xs.length
  · cases rx
    obtain ⟨its, r, ht, hz⟩ := I.tuple (SqT.of hx)
    have hlen : its.toArray.size = xs.length := by rw [List.size_toArray]; exact r.length.symm
    refine ⟨"tuple", _, PyProof.Rows.slot_tuple_getitem.lookup, ht.typeIs, HT.getItem_tuple_all ht hs pl pu (by rw [hlen]; exact hw) ⟨.ref a, H, I, rfl, q1 a H (Same.refl H) ?_⟩⟩
    have e : cutV xs lo hi = xs := by
      unfold cutV
      rw [hw.1, hw.2]; simp
    rw [e]; exact hx
  · exact sl_tup pins s σ H (.ref a) v vl vu lo hi sl Q I rx hs pl pu ⟨a, xs, rfl, SqT.of hx, hw, fun p hp => q1 p _ (fun b o e => by rw [upd_ne (ne_of_none e hp)]; exact e) upd_same⟩
/-- t + u of tracked tuples -/
def rCatB : R2 := fun x y H Q => ∃ a b xs ys, x = .ref a ∧ y = .ref b ∧ H a = some (.tup xs) ∧ H b = some (.tup ys) ∧ xs.length + ys.length ≤ sizeLine ∧ ∀ q H', Same H H' → H' q = some (.tup (xs ++ ys)) → Q (.ref q) H'
theorem oCatB : OpR X (binaryOp .Add) rCatB := by
  intro pins s σ H x y v u Q I rx ry h
  obtain ⟨a, b, xs, ys, rfl, rfl, ha, hb, hz, q⟩ := h
  by_cases hx : xs = []
  · subst hx
    cases rx
    cases ry
    obtain ⟨its, r1, p1, _⟩ := I.tuple (SqT.of ha)
    obtain ⟨its2, r2, p2, _⟩ := I.tuple (SqT.of hb)
    cases r1
    obtain ⟨⟨cls, dd, data, sl⟩, ho, hc, n, hd⟩ := id p1
    obtain ⟨⟨cls2, dd2, data2, sl2⟩, ho2, hc2, n2, hd2⟩ := id p2
    simp only at hc hd hc2 hd2
    subst hc hd hc2 hd2
    exact concat_meets ⟨_, ho, rfl⟩ ⟨_, ho2, rfl⟩ noFill_tuple_add seq_tuple_add PySem.F.slot_tuple_add PySem.F.entry_tuple_add (PySem.F.args_tuple_add_2 _ _)
      (tuple_addW0 a b _ _ n n2 dd dd2 sl sl2 rfl) ⟨ho, ho2, ⟨.ref b, H, I, rfl, q b H (Same.refl _) hb⟩⟩
  · exact op_catT pins s σ H (.ref a) (.ref b) v u Q I rx ry ⟨a, b, xs, ys, rfl, rfl, SqT.of ha, SqT.of hb, hx, hz, fun e => by subst e; exact q a H (Same.refl _) (by rw [List.append_nil]; exact ha), fun _ p hp => q p _ (Same.lay hp) upd_same⟩
end
end L2

namespace L2
open PySem PySem.Spec PyProof.Rows
/-! ### == and != of what is nested: tuples, lists, None, to a depth -/
def EqD (K : PySem.W.Frag) (H : Hp) : Nat → V → V → Bool → Prop
  | 0, x, y, b => flatV x = true ∧ flatV y = true ∧ b = eqV x y
  | n + 1, x, y, b => (flatV x = true ∧ flatV y = true ∧ b = eqV x y) ∨
    (∃ (c : Bool) (p q : Addr) (xs ys : List V) (e : Nat → Bool), x = .ref p ∧ y = .ref q ∧ SqB K c H p xs ∧ SqB K c H q ys ∧ (∀ (j : Nat) (x' y' : V), xs[j]? = some x' → ys[j]? = some y' → EqD K H n x' y' (e j)) ∧
      b = ((xs.length == ys.length) && (List.range xs.length).all e) ∧ (p = q → b = true)) ∨
    (∃ (c : Bool) (p : Addr) (xs : List V), x = .ref p ∧ y = .non ∧ SqB K c H p xs ∧ b = false) ∨
    (∃ (c : Bool) (p : Addr) (xs : List V), x = .non ∧ y = .ref p ∧ SqB K c H p xs ∧ b = false)
section
variable {X : Cx} {pins : List (Addr × Obj)} {σ : St} {H : Hp} {s : Shared}
end
section
variable {K : PySem.W.Frag} {H : Hp}
theorem EqD.flat {n : Nat} {x y : V} (h1 : flatV x = true) (h2 : flatV y = true) : EqD K H n x y (eqV x y) := by
  cases n with
  | zero => exact ⟨h1, h2, rfl⟩
  | succ n => exact .inl ⟨h1, h2, rfl⟩
theorem EqD.int {n : Nat} (i j : Int) : EqD K H n (.int i) (.int j) (i == j) := EqD.flat rfl rfl
theorem EqD.int_t {n : Nat} (i : Int) : EqD K H n (.int i) (.int i) true := by
  have := EqD.int (K := K) (H := H) (n := n) i i
  rw [beq_self_eq_true] at this
  exact this
/-- two lists, or two tuples, alike item by item -/
theorem EqD.seq {n : Nat} {c : Bool} {p q : Addr} {xs ys : List V} (hp : SqB K c H p xs) (hq : SqB K c H q ys) (hl : xs.length = ys.length) (h : ∀ (j : Nat) (x y : V), xs[j]? = some x → ys[j]? = some y → EqD K H n x y true) : EqD K H (n + 1) (.ref p) (.ref q) true := by
  refine .inr (.inl ⟨c, p, q, xs, ys, fun _ => true, rfl, rfl, hp, hq, h, ?_, fun _ => rfl⟩)
  rw [hl, beq_self_eq_true, Bool.true_and]
  exact (List.all_eq_true.mpr fun _ _ => rfl).symm
theorem EqD.ints {n : Nat} {c : Bool} {p q : Addr} {ns : List Int} (hp : SqB K c H p (ns.map V.int)) (hq : SqB K c H q (ns.map V.int)) : EqD K H (n + 1) (.ref p) (.ref q) true :=
  EqD.seq hp hq rfl fun j x y h1 h2 => by
    rw [h1] at h2
    cases h2
    rw [List.getElem?_map] at h1
    obtain ⟨i, _, rfl⟩ := Option.map_eq_some_iff.mp h1
    exact EqD.int_t i
theorem SqB.t {p : Addr} {xs : List V} (h : H p = some (.tup xs)) : SqB K true H p xs := SqT.of h
theorem SqB.l {p : Addr} {xs : List V} (h : H p = some (.lst xs)) : SqB K false H p xs := SqL.of h
end
end L2

namespace L2
open PySem PySem.Spec PyProof.Rows
/-! ### xs[::-1] of a list -/
section
variable {X : Cx} {K : PySem.W.Frag} {e st : Expr} {te ts : TE} {p2 pos : Pos}
end
end L2

/-! # isinstance of an exception of an own class -/
namespace L2
open PySem PySem.Spec PyProof.Rows

/-- what a class of exceptions must have, as the fragment's deciders tell it -/
structure XCls (K : PySem.W.Frag) (C : Addr) : Prop where
  ga : PySem.W.findIn K (.ref C) "__getattribute__" = some (some (.builtin "BaseException.__getattribute__"))
  gn : PySem.W.findIn K (.ref C) "__getattr__" = some none
  cl : PySem.W.findIn K (.ref C) "__class__" = some (some (.builtin "object.__class__"))
  ob : PySem.W.mroIn K C (.type "object") = some true
  bx : PySem.W.mroIn K C (.type "BaseException") = some true
  is : (PySem.W.clsIn K C).isSome = true

section
variable {prog : Program} {w : World} {A : Around} {E : Value → Shared → Prop} {h : Heap} {g : Array GenState} {d : Drawn} {t : Nat} {os : OsState} {a C : Addr} {o : Obj} {K : PySem.W.Frag}

end

end L2

namespace L2
open PySem PySem.Spec PyProof.Rows

/-! ### isinstance of an exception -/
section
variable {X : Cx}
end

/-! ### an exception on its way: its record, its traceback -/
/-- the exception at a, of the class at C; its traceback (the record at T), if there is one -/
def XRec (h : Heap) (a C : Addr) (T : Option Addr) : Prop := ∃ oe vs, h.get? a = some oe ∧ oe.cls = .ref C ∧ oe.data = .fields vs ∧
  match T with
  | none => vs[1]? = some .none
  | some t => vs[1]? = some (.ref t) ∧ t ≠ a ∧ ∃ oT ts, h.get? t = some oT ∧ oT.data = .fields ts ∧ ts[3]? = some .none

section
variable {X : Cx} {pins : List (Addr × Obj)} {σ : St} {H H' : Hp} {s : Shared} {h' : Heap} {ch : List Addr}
/-- records that are newer than the entry may have turned (or been filled anew) -/
abbrev Cx.exs (X : Cx) (ch : List Addr) : Cx := { X with ex := X.ex ++ ch }
theorem Inv.exs (I : Inv X pins σ H s) (hch : ∀ b ∈ ch, X.s₀.heap.get? b = none ∧ b ≠ X.env.locals ∧ (∀ x c, X.env.cells.lookup x = some c → c ≠ b)) : Inv (X.exs ch) pins σ H s := by
  have nb : ∀ b o, X.s₀.heap.get? b = some o → b ∉ ch := fun b o e hb => by rw [(hch b hb).1] at e; cases e
  have ok := I.ok
  refine ⟨⟨ok.mod, ok.kind, ok.glob, ok.blt, ok.above, ok.inj, ok.has, ok.cab, ok.hd, ok.frames, ok.stk, fun b hb => ?_, ok.bs, ok.bsz, fun b o e hb => ?_, fun b hb hf => ?_, ok.funs, ok.frf⟩, I.os, I.bare,
    ⟨fun b o e n hb hx => I.base.keep b o e n hb fun z => hx (List.mem_append_left _ z), fun b o e n hb hx => I.base.slot b o e n hb fun z => hx (List.mem_append_left _ z), fun b o e n hx => I.base.free b o e n fun z => hx (List.mem_append_left _ z), fun b o e hx => I.base.there b o e fun z => hx (List.mem_append_left _ z), I.base.tups, I.base.frzs, I.base.tbls⟩,
    I.loc, I.cell, I.free, I.freeC, I.pin, I.hok, I.len⟩
  · rcases List.mem_append.mp hb with z | z
    · exact ok.exf b z
    · exact ⟨(hch b z).2.1, (hch b z).2.2⟩
  · rcases List.mem_append.mp hb with z | z
    · exact ok.noex b o e z
    · exact nb b o (ok.bs b o e).1 z
  · rcases List.mem_append.mp hb with z | z
    · exact ok.exfs b z hf
    · obtain ⟨_, o, ho, _⟩ := ok.funs.mem hf
      exact nb b o ho z
theorem Inv.unexs (I : Inv (X.exs ch) pins σ H s) (ok : X.Ok) (hch : ∀ b ∈ ch, X.s₀.heap.get? b = none) : Inv X pins σ H s := by
  have nb : ∀ b o, X.s₀.heap.get? b = some o → b ∉ X.ex → b ∉ X.ex ++ ch := fun b o e n hb => by
    rcases List.mem_append.mp hb with z | z
    · exact n z
    · rw [hch b z] at e; cases e
  exact ⟨ok, I.os, I.bare, ⟨fun b o e n hb hx => I.base.keep b o e n hb (nb b o e hx), fun b o e n hb hx => I.base.slot b o e n hb (nb b o e hx), fun b o e n hx => I.base.free b o e n (nb b o e hx), fun b o e hx => I.base.there b o e (nb b o e hx), I.base.tups, I.base.frzs, I.base.tbls⟩,
    I.loc, I.cell, I.free, I.freeC, I.pin, I.hok, I.len⟩
/-- what was there when the state was s is neither of these: so they are no frame, no cell, no pin -/
theorem Inv.news (I : Inv X pins σ H s) (hn : ∀ b ∈ ch, X.s₀.heap.get? b = none ∧ H b = none ∧ b ∉ frs X.stack ∧ b ≠ X.env.locals ∧ (∀ x c, X.env.cells.lookup x = some c → c ≠ b) ∧ ∀ p ∈ X.pn ++ pins, p.1 ≠ b)
    (hk : (PySem.W.hideAll s.heap (ch ++ frs X.stack)).StaysIn h') (hs : ∀ b o, s.heap.get? b = some o → (∀ vs, o.data ≠ .fields vs) → ∃ sl, h'.get? b = some { o with slots := sl }) (t' : Nat) :
    Inv X pins σ H { s with heap := h', toks := t' } := by
  have kp : ∀ b o, s.heap.get? b = some o → b ∉ frs X.stack → b ∉ ch → h'.get? b = some o := fun b o e n1 n2 => hk b o (PySem.W.hideAll_get _ e fun z => (List.mem_append.mp z).elim n2 n1)
  have fs : ∀ b o, s.heap.get? b = some o → b ∈ frs X.stack → ∃ sl, h'.get? b = some { o with slots := sl } := fun b o e hb => by
    obtain ⟨_, o', ho', hd⟩ := I.stack.mem hb
    rw [e] at ho'; cases ho'
    exact hs b o e hd
  have hch' : ∀ b ∈ ch, X.s₀.heap.get? b = none ∧ b ≠ X.env.locals ∧ (∀ x c, X.env.cells.lookup x = some c → c ≠ b) := fun b hb => ⟨(hn b hb).1, (hn b hb).2.2.2.1, (hn b hb).2.2.2.2.1⟩
  refine Inv.unexs (ch := ch) ((I.exs hch').call (g' := s.gens) (d' := s.drawn) (ch := ch) ⟨fun b o e n hb hx => kp b o e hb hx, fun b o e n hb hx => fs b o e hb, fun b o e n hx => n, fun b o e hx => ?_, fun b xs e => e, fun b o u e => e, fun b ps e => ⟨#[], by rw [e]; simp⟩⟩ (fun b u e => ?_) I.bare fun b hb => ?_) I.ok fun b hb => (hn b hb).1
  · by_cases hf : b ∈ frs X.stack
    · obtain ⟨sl, q⟩ := fs b o e hf
      exact ⟨_, q⟩
    · exact ⟨o, kp b o e hf hx⟩
  · have nf : ∀ c u, H c = some u → c ∉ frs X.stack ∧ c ∉ ch := fun c u q => ⟨fun z => (by rw [I.stkFree c z] at q; cases q), fun z => (by rw [(hn c z).2.1] at q; cases q)⟩
    refine (I.hok b u e).stay (fun c v hc q => ?_) (fun _ q => q) fun _ _ q => q
    rcases hc with z | z
    · exact kp c v q (z ▸ nf b u e).1 (z ▸ nf b u e).2
    · exact kp c v q (nf c _ z).1 (nf c _ z).2
  · exact ⟨.inl (List.mem_append_right _ hb), (hn b hb).2.2.2.1, (hn b hb).2.2.2.2.1, (hn b hb).2.2.2.2.2⟩
end
end L2

namespace L2
open PySem PySem.Spec PyProof.Rows

/-- new since the entry, and no frame, no cell, no pin, not tracked -/
def Nw (X : Cx) (pins : List (Addr × Obj)) (H : Hp) (b : Addr) : Prop :=
  X.s₀.heap.get? b = none ∧ H b = none ∧ b ∉ frs X.stack ∧ b ≠ X.env.locals ∧ (∀ x c, X.env.cells.lookup x = some c → c ≠ b) ∧ ∀ p ∈ X.pn ++ pins, p.1 ≠ b
/-- the exception at a, of the class at C, is on its way -/
structure Fly (X : Cx) (pins : List (Addr × Obj)) (σ : St) (H : Hp) (s : Shared) (a C : Addr) (T : Option Addr) : Prop where
  inv : Inv X pins σ H s
  xrec : XRec s.heap a C T
  na : Nw X pins H a
  nt : ∀ t, T = some t → Nw X pins H t
/-- a def's body -/
structure Full (X : Cx) : Prop where
  stk : X.stack = X.env :: X.outer
  fr : X.env.frame = some X.env.locals
  ex : X.ex = []

section
variable {X : Cx} {pins : List (Addr × Obj)} {σ : St} {H : Hp} {s : Shared} {a C : Addr} {T : Option Addr} {h' : Heap}
/-- what was not there is new -/
theorem Inv.nw (I : Inv X pins σ H s) (f : Full X) {b : Addr} (e : s.heap.get? b = none) : Nw X pins H b := by
  have ne : ∀ c o, s.heap.get? c = some o → c ≠ b := fun c o q z => by rw [z, e] at q; cases q
  refine ⟨?_, ?_, fun z => ?_, fun z => ?_, fun x c q z => ?_, fun p hp z => ?_⟩
  · cases q : X.s₀.heap.get? b with
    | none => rfl
    | some o =>
      obtain ⟨o', q'⟩ := I.base.there b o q (by rw [f.ex]; simp)
      exact absurd rfl (ne b o' q')
  · cases q : H b with
    | none => rfl
    | some u =>
      have lt := I.hok.lt q
      exfalso
      have ok := I.hok b u q
      cases u with
      | lst xs => obtain ⟨_, _, _, _, q'⟩ := ok; exact ne b _ q' rfl
      | tup xs => obtain ⟨_, _, _, ⟨o, q', _⟩⟩ := ok; exact ne b _ q' rfl
      | dK kvs => obtain ⟨_, _, _, _, o, _, _, q', _⟩ := ok; exact ne b _ q' rfl
      | dT kvs => obtain ⟨_, _, _, _, o, _, _, q', _⟩ := ok; exact ne b _ q' rfl
      | set S n => obtain ⟨o, _, _, _, q', _⟩ := ok; exact ne b _ q' rfl
      | ins C dx fs => obtain ⟨_, _, _, q', _⟩ := ok; exact ne b _ q' rfl
      | own y => obtain ⟨_, q'⟩ := ok; exact ne b _ q' rfl
      | xd fs => obtain ⟨_, ⟨_, _, _, q', _⟩, _⟩ := ok; exact ne b _ q' rfl
      | rng lo hi => obtain ⟨_, _, _, q'⟩ := ok; exact ne b _ q' rfl
      | frz ob u => obtain ⟨q', _⟩ := ok; exact ne b _ q' rfl
      | tbl ps => exact ne b _ (show s.heap.get? b = some _ from ok) rfl
      | met f y => exact ne b _ (show s.heap.get? b = some _ from ok) rfl
      | ext φ => obtain ⟨_, ⟨_, q'⟩, _⟩ := ok; exact ne b _ q' rfl
  · obtain ⟨_, o, ho, _⟩ := I.stack.mem z
    exact ne b o ho rfl
  · obtain ⟨m, ⟨o, _, _, ho, _⟩, _⟩ := I.loc
    exact ne _ o ho z.symm
  · obtain ⟨v, o, ho, _⟩ := I.cell x c q
    exact ne c o ho z
  · exact ne _ _ (I.pin p hp).1 z

/-- the heap but the exception, its traceback, the frames -/
abbrev bareX (X : Cx) (h : Heap) (a : Addr) (T : Option Addr) : Heap := PySem.W.hideAll h ((a :: T.toList) ++ frs X.stack)
theorem Fly.frames (F : Fly X pins σ H s a C T) : s.heap.FunFrames (bareX X s.heap a T) X.stack :=
  PySem.W.funFrames_hide F.inv.stack fun env he b hb => List.mem_append_right _ (List.mem_filterMap.mpr ⟨env, he, hb⟩)
theorem Fly.bareStays (F : Fly X pins σ H s a C T) : (bareX X s.heap a T).StaysIn s.heap := fun b o e => PySem.W.of_hideAll _ e
theorem Fly.bareNone (F : Fly X pins σ H s a C T) : (bareX X s.heap a T).get? a = none := PySem.W.hideAll_none _ (by simp)
/-- behind a step of the exception in this frame -/
theorem Fly.on (F : Fly X pins σ H s a C T) (f : Full X) (st : (bareX X s.heap a T).StaysIn h') (ff : h'.FunFrames (bareX X s.heap a T) X.stack) (tr : h'.Traced (bareX X s.heap a T) a (.ref C)) (sl : s.heap.UpToSlots h') :
    ∃ t', Fly X pins σ H { s with heap := h' } a C (some t') := by
  have I := F.inv
  have hch : ∀ b ∈ a :: T.toList, Nw X pins H b := fun b hb => by
    rcases List.mem_cons.mp hb with rfl | hb
    · exact F.na
    · exact F.nt b (by simpa using hb)
  have I' : Inv X pins σ H { s with heap := h' } := I.news hch st sl s.toks
  obtain ⟨oe, vs, t', oT, ts, he, hcl, hd, h1, hn, hne, hT, hdT, h3⟩ := tr
  refine ⟨t', I', ⟨oe, vs, he, hcl, hd, h1, hne, oT, ts, hT, hdT, h3⟩, F.na, fun t e => ?_⟩
  cases e
  cases q : s.heap.get? t' with
  | none => exact I.nw f q
  | some o =>
    by_cases hm : t' ∈ (a :: T.toList) ++ frs X.stack
    · rcases List.mem_append.mp hm with z | z
      · exact hch t' z
      · obtain ⟨_, o', ho', hnf⟩ := ff.mem z
        rw [hT] at ho'; cases ho'
        exact absurd hdT (hnf ts)
    · have := PySem.W.hideAll_get _ q hm
      rw [hn] at this
      cases this

theorem Fly.leave (F : Fly X pins σ H s a C T) (f : Full X) {M : Model} {Q : Unit → Shared → Prop} {E : Value → Shared → Prop} (k : ∀ s' t, Fly X pins σ H s' a C (some t) → Q () s') : wpAny M X.A (leaving X.env (.ref a)) Q E s := by
  have hfr : X.A.frames = some (X.env :: X.outer) := by rw [← f.stk]; exact F.inv.ok.frames
  have hl : s.heap.FunFrames (bareX X s.heap a T) (X.env :: X.outer) := by rw [← f.stk]; exact F.frames
  obtain ⟨oe, vs, he, hcl, hd, h1⟩ := F.xrec
  cases T with
  | none =>
    refine wpAny_leaving_first hfr hl f.fr he F.bareStays F.bareNone hd h1 fun h' ⟨k1, k2, k3, k4⟩ => ?_
    rw [hcl] at k3
    obtain ⟨t', F'⟩ := F.on f k1 (by rw [f.stk]; exact k2) k3 k4
    exact k _ t' F'
  | some t =>
    obtain ⟨h1, hne, oT, ts, hT, hdT, h3⟩ := h1
    refine wpAny_leaving_next hfr hl f.fr (cls := .ref C) ⟨oe, vs, t, oT, ts, he, hcl, hd, h1, PySem.W.hideAll_none _ (by simp), hne, hT, hdT, h3⟩ F.bareStays F.bareNone fun h' ⟨k1, k2, k3, k4⟩ => ?_
    obtain ⟨t', F'⟩ := F.on f k1 (by rw [f.stk]; exact k2) k3 k4
    exact k _ t' F'

end

/-! ### how an exception lies behind a call -/
def CXx (P : Program) (w : World) : CXT := fun outer H s E e s' => ∃ (a C t : Addr) (H' : Hp), e = .ref a ∧ s'.os = s.os ∧ AllBare s'.gens ∧ Un (frs outer) [] H H' s.heap s'.heap ∧ HOk P w H' s'.heap ∧
  XRec s'.heap a C (some t) ∧ s.heap.get? a = none ∧ s.heap.get? t = none ∧ H' a = none ∧ H' t = none ∧ E (.ref C) none H'
section
variable {X : Cx} {pins : List (Addr × Obj)} {σ : St} {H : Hp} {s s' : Shared} {a C : Addr} {E : XK} {e : Value}
/-- it leaves the frame -/
theorem Fly.out {T : Option Addr} (F : Fly X pins σ H s a C T) (f : Full X) {M : Model} {E' : Value → Shared → Prop} (q : E (.ref C) none H) :
    wpAny M X.A (leaving X.env (.ref a)) (fun _ s' => CXx X.prog X.w X.outer X.H₀ X.s₀ E (.ref a) s') E' s :=
  F.leave f fun s' t F' => ⟨a, C, t, H, rfl, F'.inv.os, F'.inv.bare, by have := F'.inv.base; rw [f.ex] at this; exact this, F'.inv.hok, F'.xrec, F'.na.1, (F'.nt t rfl).1, F'.na.2.1, (F'.nt t rfl).2.1, q⟩
end
section
variable {P : Program} {w : World} {K : PySem.W.Frag} {mg : Str → Option Value} {base : Heap} {N : List Str} {qual : Str} {scope : Scope} {f : Addr} {cd : Value} {A : Around} {outer : List Env} {s : Shared} {H : Hp} {E E' : XK}
end
end L2

namespace L2
open PySem PySem.Spec PyProof.Rows

/-! ### raise C(text) -/
section
variable {X : Cx}
end
end L2

namespace L2
open PySem PySem.Spec PyProof.Rows

/-- what the class behind except must have -/
structure XSup (K : PySem.W.Frag) (S : Addr) : Prop where
  ty : PySem.W.typeIn K (.ref S) = some (.type "type")
  bx : PySem.W.mroIn K S (.type "BaseException") = some true
  is : (PySem.W.clsIn K S).isSome = true
section
variable {X : Cx} {pins : List (Addr × Obj)} {σ : St} {H : Hp} {s : Shared} {a C t : Addr} {h' : Heap}
/-- the exception and its traceback are pinned -/
theorem Fly.pin (F : Fly X pins σ H s a C (some t)) : ∃ oe oT : Obj, Inv X (pins ++ [(a, oe), (t, oT)]) σ H s ∧ oe.cls = .ref C ∧
    ∀ (X' : Cx) (s' : Shared), Inv X' (pins ++ [(a, oe), (t, oT)]) σ H s' → Inv X pins σ H s' → s'.heap.get? a = some oe ∧ Fly X pins σ H s' a C (some t) := by
  obtain ⟨oe, vs, he, hcl, hd, h1, hne, oT, ts, hT, hdT, h3⟩ := F.xrec
  have ff : ∀ b ∈ frs X.stack, ∀ o vs, s.heap.get? b = some o → o.data = .fields vs → False := fun b hb o vs e q => by
    obtain ⟨_, o', ho', hnf⟩ := F.inv.stack.mem hb
    rw [e] at ho'; cases ho'
    exact hnf vs q
  have fs : ∀ b ∈ X.fs, b ∈ frs X.stack ∨ True := fun _ _ => .inr trivial
  have nfs : ∀ b o vs, s.heap.get? b = some o → o.data = .fields vs → b ∉ X.fs := fun b o vs e q hb => by
    obtain ⟨_, o', ho', hnf⟩ := F.inv.funs.mem hb
    rw [e] at ho'; cases ho'
    exact hnf vs q
  refine ⟨oe, oT, F.inv.pins_of fun p hp => ?_, hcl, fun X' s' I' I => ?_⟩
  · rcases List.mem_append.mp hp with z | z
    · exact F.inv.pin p (List.mem_append_right _ z)
    · rcases List.mem_cons.mp z with rfl | z
      · exact ⟨he, F.na.2.1, F.na.2.2.2.1, nfs _ _ _ he hd, fun v q => by rw [hd] at q; cases q⟩
      · rcases List.mem_cons.mp z with rfl | z
        · exact ⟨hT, (F.nt t rfl).2.1, (F.nt t rfl).2.2.2.1, nfs _ _ _ hT hdT, fun v q => by rw [hdT] at q; cases q⟩
        · exact nomatch z
  · have e1 := (I'.pin (a, oe) (List.mem_append_right _ (List.mem_append_right _ (.head _)))).1
    have e2 := (I'.pin (t, oT) (List.mem_append_right _ (List.mem_append_right _ (.tail _ (.head _))))).1
    exact ⟨e1, I, ⟨oe, vs, e1, hcl, hd, h1, hne, oT, ts, e2, hdT, h3⟩, F.na, F.nt⟩
end

/-! ### try .. except C as n -/
section
variable {X : Cx} {pins p2 : List (Addr × Obj)} {σ : St} {H : Hp} {s : Shared} {E : Value → Shared → Prop} {e : Value}
end
end L2

namespace L2
open PySem PySem.Spec PyProof.Rows
section
variable {X : Cx}
/-! ### x is not True, for None and bools -/
def rNotB : R2 := fun x y H Q => ∃ c, y = .bl c ∧ (x = .non ∨ ∃ b, x = .bl b) ∧ Q (.bl (!decide (x = .bl c))) H
theorem op_notB : OpR X (compareOp .IsNot) rNotB := by
  intro pins s σ H x y v u Q I rx ry h
  obtain ⟨c, rfl, hx, q⟩ := h
  cases ry
  rcases hx with rfl | ⟨b, rfl⟩
  · cases rx
    show wpAny _ _ (do return Value.bool (!(← isSame Value.none (Value.bool c)))) _ _ _
    unfold isSame
    exact wpAny_bind (wpAny_pure (wpAny_pure (fin_bl I q (by cases c <;> rfl))))
  · cases rx
    show wpAny _ _ (do return Value.bool (!(← isSame (Value.bool b) (Value.bool c)))) _ _ _
    unfold isSame
    exact wpAny_bind (wpAny_pure (wpAny_pure (fin_bl I q (by cases b <;> cases c <;> rfl))))
end
end L2

namespace L2
open PySem PySem.Spec PyProof.Rows
/-! ### t > u, tuples whose items are compared one by one -/
inductive LexE (A : Around) (s : Shared) (fin : Bool) : List (Value × Value) → Bool → Prop
  | nil : LexE A s fin [] fin
  | eq {p q : Value} {r : List (Value × Value)} {b : Bool} : SeqAt.EqAt A s p q true → LexE A s fin r b → LexE A s fin ((p, q) :: r) b
  | ne {p q : Value} {r : List (Value × Value)} {b : Bool} : SeqAt.EqAt A s p q false → (∀ (prog : Program) (w : World) (E : Value → Shared → Prop) (Q : Value → Shared → Prop), Q (.bool b) s → wpAny (model prog w) A (richCompare .LtE p q) Q E s) → LexE A s fin ((p, q) :: r) b
section
open PySem.SeqAt
open PySem.AutoSeq1 (wpAny_loadPart')
open PySem.MeetsSeq PySem.MeetsSeq2 PySem.MeetsSeq3
end
end L2

namespace L2
open PySem PySem.Spec PyProof.Rows
/-! ### min, max of a tuple of ints -/
section
variable {X : Cx} {pins : List (Addr × Obj)} {σ : St} {H0 : Hp} {a I S : Addr} {xs : List V} {KV : Nat → V → Prop} {bt : Nat → Nat → Bool} {key : Value} {kw : List (Str × Value)} {R : Result → Shared → Prop}
end
section
variable {X : Cx} {pins : List (Addr × Obj)} {σ : St} {H : Hp} {s : Shared} {a : Addr} {xs : List V} {KV : Nat → V → Prop} {bt : Nat → Nat → Bool} {Q : VK}
end
section
variable {X : Cx} {K : PySem.W.Frag}
end
end L2

namespace L2
open PySem PySem.Spec PyProof.Rows
/-! ### the general sort: by a comparison that only answers -/
def gallop' : Bool → Keyed → Array Keyed → Nat → Nat → Nat → StateT SortSt Sem (Option Nat) := sortPriv% PySem.Builtin.gallop
def mergeLo' : Array Keyed → Array Keyed → StateT SortSt Sem (Array Keyed) := sortPriv% PySem.Builtin.mergeLo
def mergeHi' : Array Keyed → Array Keyed → StateT SortSt Sem (Array Keyed) := sortPriv% PySem.Builtin.mergeHi
def beyond' (left : Bool) (key : Keyed) (arr : Array Keyed) (base i : Nat) : StateT SortSt Sem (Option Bool) := do
  let x ← elem' arr (base + i)
  if left then lt' x key else return (← lt' key x).map (!·)
section
variable {prog : Program} {w : World} {A : Around} {E : Value → Shared → Prop} {s : Shared} {κ : SortKind} {LT : Keyed → Keyed → Bool} {S : Keyed → Prop}
/-- the comparison of what S has is LT's, and nothing changes -/
def LtIs (prog : Program) (w : World) (A : Around) (E : Value → Shared → Prop) (s : Shared) (κ : SortKind) (S : Keyed → Prop) (LT : Keyed → Keyed → Bool) : Prop :=
  ∀ (x y : Keyed) (st : SortSt) (Q : Option Bool → SortSt → Prop), S x → S y → kindOf st = κ → Q (some (LT x y)) st → wpS (model prog w) A E s (lt' x y) Q st
def bey (LT : Keyed → Keyed → Bool) (left : Bool) (key : Keyed) (arr : Array Keyed) (base i : Nat) : Bool :=
  match arr[base + i]? with
  | some x => if left then LT x key else !LT key x
  | none => false
theorem wpS_elem {arr : Array Keyed} {i : Nat} {x : Keyed} {st : SortSt} {Q : Keyed → SortSt → Prop} (e : arr[i]? = some x) (h : Q x st) : wpS (model prog w) A E s (elem' arr i) Q st := by
  rw [elem'_eq, e]
  exact wpS_pure h
theorem wpS_beyond (hl : LtIs prog w A E s κ S LT) {left : Bool} {key : Keyed} {arr : Array Keyed} {base i : Nat} {st : SortSt} {Q : Option Bool → SortSt → Prop} (hk : S key) (ha : ∀ (j : Nat) (x : Keyed), arr[j]? = some x → S x) (hi : base + i < arr.size) (hs : kindOf st = κ)
    (h : Q (some (bey LT left key arr base i)) st) : wpS (model prog w) A E s (beyond' left key arr base i) Q st := by
  have e : arr[base + i]? = some arr[base + i] := Array.getElem?_eq_getElem hi
  unfold beyond'
  refine wpS_bind (wpS_elem e ?_)
  unfold bey at h
  rw [e] at h
  dsimp only at h
  cases left with
  | true =>
    rw [if_pos rfl] at h ⊢
    exact hl _ _ st _ (ha _ _ e) hk hs h
  | false =>
    rw [if_neg (by decide)] at h ⊢
    exact wpS_bind (hl _ _ st _ hk (ha _ _ e) hs (wpS_pure h))
end
end L2

namespace L2
open PySem PySem.Spec PyProof.Rows
section
variable {prog : Program} {w : World} {A : Around} {E : Value → Shared → Prop} {s : Shared} {κ : SortKind} {LT : Keyed → Keyed → Bool} {S : Keyed → Prop}
/-- a loop that halves, whatever its text: F's step, told by what it does -/
theorem wpS_search {n : Nat} {st : SortSt} {Q : Option Nat → SortSt → Prop} {B : Nat → Bool} {F : Nat → Option (Option Nat) × Nat × Nat → StateT SortSt Sem (ForInStep (Option (Option Nat) × Nat × Nat))} {G : Option (Option Nat) × Nat × Nat → StateT SortSt Sem (Option Nat)}
    (hF : ∀ (i lo hi : Nat) (Q' : ForInStep (Option (Option Nat) × Nat × Nat) → SortSt → Prop), hi ≤ n → (hi ≤ lo → Q' (.done (none, lo, hi)) st) → (lo < hi → B (lo + (hi - lo) / 2) = true → Q' (.yield (none, lo + (hi - lo) / 2 + 1, hi)) st) → (lo < hi → B (lo + (hi - lo) / 2) = false → Q' (.yield (none, lo, lo + (hi - lo) / 2)) st) → wpS (model prog w) A E s (F i (none, lo, hi)) Q' st)
    (hG : ∀ k, Q (some k) st → wpS (model prog w) A E s (G (none, k, k)) Q st) (hm : ∀ i j, i ≤ j → j < n → B j = true → B i = true)
    (h : ∀ k, k ≤ n → (∀ i, i < k → B i = true) → (∀ i, k ≤ i → i < n → B i = false) → Q (some k) st) (lo0 hi0 : Nat) (h1 : lo0 ≤ hi0) (h2 : hi0 ≤ n) (h3 : ∀ i, i < lo0 → B i = true) (h4 : ∀ i, hi0 ≤ i → i < n → B i = false) :
    wpS (model prog w) A E s (forIn [0:n] (none, lo0, hi0) F >>= G) Q st := by
  refine wpS_bind (wpS_mono (wpS_forRange (I := fun i c st' => st' = st ∧ ∃ lo hi, c = (none, lo, hi) ∧ lo ≤ hi ∧ hi ≤ n ∧ (∀ i, i < lo → B i = true) ∧ (∀ i, hi ≤ i → i < n → B i = false) ∧ hi - lo ≤ n - i)
    (Q := fun c st' => st' = st ∧ ∃ k, c = (none, k, k) ∧ k ≤ n ∧ (∀ i, i < k → B i = true) ∧ (∀ i, k ≤ i → i < n → B i = false)) ?_ ?_ ⟨rfl, lo0, hi0, rfl, h1, h2, h3, h4, by omega⟩) ?_)
  · rintro i c st' _ hi' ⟨rfl, lo, hi, rfl, g1, g2, g3, g4, g5⟩
    refine hF i lo hi _ g2 (fun ho => ?_) (fun ho e => ?_) (fun ho e => ?_)
    · have : lo = hi := by omega
      subst this
      exact ⟨rfl, lo, rfl, g2, g3, g4⟩
    · exact ⟨rfl, _, _, rfl, by omega, g2, fun i hi => hm i _ (by omega) (by omega) e, g4, by omega⟩
    · refine ⟨rfl, _, _, rfl, by omega, by omega, g3, fun i hi1 hi2 => ?_, by omega⟩
      cases e3 : B i with
      | false => rfl
      | true => rw [hm _ i hi1 hi2 e3] at e; cases e
  · rintro c st' ⟨rfl, lo, hi, rfl, g1, g2, g3, g4, g5⟩
    have : lo = hi := by omega
    subst this
    exact ⟨rfl, lo, rfl, g2, g3, g4⟩
  · rintro c st' ⟨rfl, k, rfl, g1, g2, g3⟩
    exact hG k (h k g1 g2 g3)
theorem wpS_gallop (hl : LtIs prog w A E s κ S LT) {left : Bool} {key : Keyed} {arr : Array Keyed} {base n hint : Nat} {st : SortSt} {Q : Option Nat → SortSt → Prop} (hk : S key) (ha : ∀ (j : Nat) (x : Keyed), arr[j]? = some x → S x) (hn : base + n ≤ arr.size) (hh : hint < n) (hs : kindOf st = κ)
    (hm : ∀ i j, i ≤ j → j < n → bey LT left key arr base j = true → bey LT left key arr base i = true)
    (h : ∀ k, k ≤ n → (∀ i, i < k → bey LT left key arr base i = true) → (∀ i, k ≤ i → i < n → bey LT left key arr base i = false) → Q (some k) st) : wpS (model prog w) A E s (gallop' left key arr base n hint) Q st := by
  unfold gallop'
  k_delta "gallop"
  have hb : ∀ i {Q' : Option Bool → SortSt → Prop}, i < n → Q' (some (bey LT left key arr base i)) st → wpS (model prog w) A E s (beyond' left key arr base i) Q' st := fun i Q' hi q => wpS_beyond hl hk ha (by omega) hs q
  generalize bey LT left key arr base = B at hm h hb
  refine wpS_bind (hb hint hh ?_)
  dsimp only
  cases e : B hint with
  | true =>
    rw [if_pos rfl]
    refine wpS_bind (wpS_mono (wpS_forRange (I := fun i c st' => st' = st ∧ ∃ l o, c = (none, l, o) ∧ l < o ∧ hint + l < n ∧ B (hint + l) = true ∧ i + 1 ≤ o)
      (Q := fun c st' => st' = st ∧ ∃ l o, c = (none, l, o) ∧ l < o ∧ hint + l < n ∧ B (hint + l) = true ∧ (n - hint ≤ o ∨ (hint + o < n ∧ B (hint + o) = false))) ?_ ?_ ⟨rfl, 0, 1, rfl, by omega, by omega, by rw [Nat.add_zero]; exact e, by omega⟩) ?_)
    · rintro i c st' _ hi ⟨rfl, l, o, rfl, h1, h2, h3, h4⟩
      dsimp only
      by_cases ho : o ≥ n - hint
      · rw [if_pos ho]
        exact wpS_pure ⟨rfl, l, o, rfl, h1, h2, h3, .inl ho⟩
      · rw [if_neg ho]
        refine wpS_bind (hb (hint + o) (by omega) ?_)
        dsimp only
        cases e2 : B (hint + o) with
        | true => exact wpS_pure ⟨rfl, o, 2 * o + 1, rfl, by omega, by omega, e2, by omega⟩
        | false => exact wpS_pure ⟨rfl, l, o, rfl, h1, h2, h3, .inr ⟨by omega, e2⟩⟩
    · rintro c st' ⟨rfl, l, o, rfl, h1, h2, h3, h4⟩
      exact ⟨rfl, l, o, rfl, h1, h2, h3, .inl (by omega)⟩
    · rintro c st' ⟨rfl, l, o, rfl, h1, h2, h3, h4⟩
      refine wpS_search (fun i lo hi Q' hn' q1 q2 q3 => by
        dsimp only
        by_cases ho : lo ≥ hi
        · rw [if_pos ho]
          exact wpS_pure (q1 ho)
        · rw [if_neg ho]
          refine wpS_bind (hb (lo + (hi - lo) / 2) (by omega) ?_)
          dsimp only
          cases e9 : B (lo + (hi - lo) / 2) with
          | true => exact wpS_pure (q2 (by omega) e9)
          | false => exact wpS_pure (q3 (by omega) e9)) (fun k q => wpS_pure q) hm h (hint + l + 1) (hint + min o (n - hint)) (by omega) (by omega) (fun i hi => hm i _ (by omega) h2 h3) (fun i hi1 hi2 => ?_)
      rcases h4 with h4 | ⟨h4, h5⟩
      · omega
      · cases e3 : B i with
        | false => rfl
        | true => rw [hm _ i (by omega) hi2 e3] at h5; cases h5
  | false =>
    rw [if_neg (by decide)]
    refine wpS_bind (wpS_mono (wpS_forRange (I := fun i c st' => st' = st ∧ ∃ l o, c = (none, l, o) ∧ l < o ∧ l ≤ hint ∧ B (hint - l) = false ∧ i + 1 ≤ o)
      (Q := fun c st' => st' = st ∧ ∃ l o, c = (none, l, o) ∧ l < o ∧ l ≤ hint ∧ B (hint - l) = false ∧ (hint + 1 ≤ o ∨ (o ≤ hint ∧ B (hint - o) = true))) ?_ ?_ ⟨rfl, 0, 1, rfl, by omega, by omega, e, by omega⟩) ?_)
    · rintro i c st' _ hi ⟨rfl, l, o, rfl, h1, h2, h3, h4⟩
      dsimp only
      by_cases ho : o ≥ hint + 1
      · rw [if_pos ho]
        exact wpS_pure ⟨rfl, l, o, rfl, h1, h2, h3, .inl ho⟩
      · rw [if_neg ho]
        refine wpS_bind (hb (hint - o) (by omega) ?_)
        dsimp only
        cases e2 : B (hint - o) with
        | true => exact wpS_pure ⟨rfl, l, o, rfl, h1, h2, h3, .inr ⟨by omega, e2⟩⟩
        | false => exact wpS_pure ⟨rfl, o, 2 * o + 1, rfl, by omega, by omega, e2, by omega⟩
    · rintro c st' ⟨rfl, l, o, rfl, h1, h2, h3, h4⟩
      exact ⟨rfl, l, o, rfl, h1, h2, h3, .inl (by omega)⟩
    · rintro c st' ⟨rfl, l, o, rfl, h1, h2, h3, h4⟩
      refine wpS_search (fun i lo hi Q' hn' q1 q2 q3 => by
        dsimp only
        by_cases ho : lo ≥ hi
        · rw [if_pos ho]
          exact wpS_pure (q1 ho)
        · rw [if_neg ho]
          refine wpS_bind (hb (lo + (hi - lo) / 2) (by omega) ?_)
          dsimp only
          cases e9 : B (lo + (hi - lo) / 2) with
          | true => exact wpS_pure (q2 (by omega) e9)
          | false => exact wpS_pure (q3 (by omega) e9)) (fun k q => wpS_pure q) hm h (hint + 1 - min o (hint + 1)) (hint - l) (by omega) (by omega) (fun i hi => ?_) (fun i hi1 hi2 => ?_)
      · rcases h4 with h4 | ⟨h4, h5⟩
        · omega
        · exact hm i _ (by omega) (by omega) h5
      · cases e3 : B i with
        | false => rfl
        | true => rw [hm _ i hi1 hi2 e3] at h3; cases h3
end
end L2

namespace L2
open PySem PySem.Spec PyProof.Rows
/-! ### two runs, merged -/
/-- LT orders what S has: le x y is LT y x = false -/
structure Ord {α : Type} (S : α → Prop) (LT : α → α → Bool) : Prop where
  asym : ∀ x y, S x → S y → LT x y = true → LT y x = false
  trans : ∀ x y z, S x → S y → S z → LT y x = false → LT z y = false → LT z x = false
abbrev leO {α : Type} (LT : α → α → Bool) (x y : α) : Prop := LT y x = false
/-- what is laid out, what is left of the two runs, all of it -/
structure MI {α : Type} (S : α → Prop) (LT : α → α → Bool) (T out ra rb : List α) : Prop where
  perm : (out ++ (ra ++ rb)).Perm T
  so : out.Pairwise (leO LT)
  sa : ra.Pairwise (leO LT)
  sb : rb.Pairwise (leO LT)
  below : ∀ x ∈ out, ∀ y ∈ ra ++ rb, leO LT x y
  all : ∀ x ∈ T, S x
section
variable {α : Type} {S : α → Prop} {LT : α → α → Bool} {T out ra rb ra' rb' : List α} {x y : α}
theorem MI.inA (m : MI S LT T out ra rb) (h : x ∈ ra) : S x := m.all x (m.perm.mem_iff.mp (List.mem_append_right _ (List.mem_append_left _ h)))
theorem MI.inB (m : MI S LT T out ra rb) (h : x ∈ rb) : S x := m.all x (m.perm.mem_iff.mp (List.mem_append_right _ (List.mem_append_right _ h)))
/-- some of the first run, none above what the second has -/
theorem MI.takeA {c : List α} (m : MI S LT T out (c ++ ra) rb) (h : ∀ x ∈ c, ∀ y ∈ rb, leO LT x y) : MI S LT T (out ++ c) ra rb := by
  have sa := List.pairwise_append.mp m.sa
  refine ⟨?_, List.pairwise_append.mpr ⟨m.so, sa.1, fun x hx y hy => m.below x hx y (List.mem_append_left _ (List.mem_append_left _ hy))⟩, sa.2.1, m.sb, fun x hx y hy => ?_, m.all⟩
  · refine List.Perm.trans ?_ m.perm
    rw [List.append_assoc, List.append_assoc]
  · rcases List.mem_append.mp hx with hx | hx
    · rcases List.mem_append.mp hy with hy | hy
      · exact m.below x hx y (List.mem_append_left _ (List.mem_append_right _ hy))
      · exact m.below x hx y (List.mem_append_right _ hy)
    · rcases List.mem_append.mp hy with hy | hy
      · exact sa.2.2 x hx y hy
      · exact h x hx y hy
theorem MI.takeB {c : List α} (m : MI S LT T out ra (c ++ rb)) (h : ∀ x ∈ c, ∀ y ∈ ra, leO LT x y) : MI S LT T (out ++ c) ra rb := by
  have sb := List.pairwise_append.mp m.sb
  refine ⟨?_, List.pairwise_append.mpr ⟨m.so, sb.1, fun x hx y hy => m.below x hx y (List.mem_append_right _ (List.mem_append_left _ hy))⟩, m.sa, sb.2.1, fun x hx y hy => ?_, m.all⟩
  · refine List.Perm.trans ?_ m.perm
    rw [List.append_assoc]
    refine List.Perm.append_left _ ?_
    rw [← List.append_assoc, ← List.append_assoc]
    exact List.Perm.append_right _ List.perm_append_comm
  · rcases List.mem_append.mp hx with hx | hx
    · rcases List.mem_append.mp hy with hy | hy
      · exact m.below x hx y (List.mem_append_left _ hy)
      · exact m.below x hx y (List.mem_append_right _ (List.mem_append_right _ hy))
    · rcases List.mem_append.mp hy with hy | hy
      · exact h x hx y hy
      · exact sb.2.2 x hx y hy
/-- one of the first run that is not above the second's first -/
theorem MI.pushA (o : Ord S LT) (m : MI S LT T out (x :: ra) (y :: rb)) (h : LT y x = false) : MI S LT T (out ++ [x]) ra (y :: rb) := by
  refine MI.takeA (c := [x]) m fun x' hx' z hz => ?_
  rw [List.mem_singleton] at hx'
  subst hx'
  rcases List.mem_cons.mp hz with rfl | hz'
  · exact h
  · exact o.trans x' y z (m.inA (List.mem_cons_self ..)) (m.inB (List.mem_cons_self ..)) (m.inB hz) h ((List.pairwise_cons.mp m.sb).1 z hz')
theorem MI.pushB (o : Ord S LT) (m : MI S LT T out (x :: ra) (y :: rb)) (h : LT y x = true) : MI S LT T (out ++ [y]) (x :: ra) rb := by
  refine MI.takeB (c := [y]) m fun y' hy' z hz => ?_
  rw [List.mem_singleton] at hy'
  subst hy'
  have h' := o.asym y' x (m.inB (List.mem_cons_self ..)) (m.inA (List.mem_cons_self ..)) h
  rcases List.mem_cons.mp hz with rfl | hz'
  · exact h'
  · exact o.trans y' x z (m.inB (List.mem_cons_self ..)) (m.inA (List.mem_cons_self ..)) (m.inA hz) h' ((List.pairwise_cons.mp m.sa).1 z hz')
/-- one run is at its end -/
theorem MI.endB (m : MI S LT T out ra []) : (out ++ ra).Perm T ∧ (out ++ ra).Pairwise (leO LT) := by
  have p := m.perm
  rw [List.append_nil] at p
  exact ⟨p, List.pairwise_append.mpr ⟨m.so, m.sa, fun x hx y hy => m.below x hx y (List.mem_append_left _ hy)⟩⟩
theorem MI.endA (m : MI S LT T out [] rb) : (out ++ rb).Perm T ∧ (out ++ rb).Pairwise (leO LT) :=
  ⟨m.perm, List.pairwise_append.mpr ⟨m.so, m.sb, fun x hx y hy => m.below x hx y hy⟩⟩
/-- the first run's last is above all that is left of the second -/
theorem MI.lastA (m : MI S LT T out [x] rb) (h : ∀ y ∈ rb, leO LT y x) : (out ++ rb ++ [x]).Perm T ∧ (out ++ rb ++ [x]).Pairwise (leO LT) := by
  have m' : MI S LT T (out ++ rb) [x] [] := MI.takeB (c := rb) (rb := []) (by rw [List.append_nil]; exact m) fun y hy z hz => by rw [List.mem_singleton] at hz; subst hz; exact h y hy
  exact m'.endB
end
end L2

namespace L2
open PySem PySem.Spec PyProof.Rows
/-! ### the merge from below -/
theorem drop_at {α : Type} {a : Array α} {i : Nat} {x : α} (e : a[i]? = some x) : a.toList.drop i = x :: a.toList.drop (i + 1) := by
  obtain ⟨h, e⟩ := Array.getElem?_eq_some_iff.mp e
  rw [List.drop_eq_getElem_cons (by simpa using h)]
  simp [e]
theorem mem_at {α : Type} {a : Array α} {i : Nat} {x : α} (e : a[i]? = some x) : x ∈ a.toList := by
  obtain ⟨h, e⟩ := Array.getElem?_eq_some_iff.mp e
  rw [← e]; simp
structure Lo (S : Keyed → Prop) (LT : Keyed → Keyed → Bool) (a b out : Array Keyed) (ia ib : Nat) : Prop where
  mi : MI S LT (a.toList ++ b.toList) out.toList (a.toList.drop ia) (b.toList.drop ib)
  sz : out.size = ia + ib
  ha : ia ≤ a.size
  hb : ib ≤ b.size
def Mg (LT : Keyed → Keyed → Bool) (a b r : Array Keyed) : Prop := r.toList.Perm (a.toList ++ b.toList) ∧ r.toList.Pairwise (leO LT)
section
variable {S : Keyed → Prop} {LT : Keyed → Keyed → Bool} {a b out : Array Keyed} {ia ib k : Nat} {x y : Keyed}
theorem Lo.pushB (o : Ord S LT) (h : Lo S LT a b out ia ib) (ea : a[ia]? = some x) (eb : b[ib]? = some y) (e : LT y x = true) : Lo S LT a b (out.push y) ia (ib + 1) := by
  have m := h.mi
  rw [drop_at ea, drop_at eb] at m
  have m' := m.pushB o e
  refine ⟨?_, by rw [Array.size_push, h.sz]; omega, h.ha, (Array.getElem?_eq_some_iff.mp eb).1⟩
  rw [Array.toList_push, drop_at ea]
  exact m'
theorem Lo.pushA (o : Ord S LT) (h : Lo S LT a b out ia ib) (ea : a[ia]? = some x) (eb : b[ib]? = some y) (e : LT y x = false) : Lo S LT a b (out.push x) (ia + 1) ib := by
  have m := h.mi
  rw [drop_at ea, drop_at eb] at m
  have m' := m.pushA o e
  refine ⟨?_, by rw [Array.size_push, h.sz]; omega, (Array.getElem?_eq_some_iff.mp ea).1, h.hb⟩
  rw [Array.toList_push, drop_at eb]
  exact m'
theorem drop_take {α : Type} (a : Array α) (i k : Nat) : a.toList.drop i = (a.extract i (i + k)).toList ++ a.toList.drop (i + k) := by
  rw [Array.toList_extract, List.extract_eq_take_drop, Nat.add_sub_cancel_left, ← List.drop_drop, List.take_append_drop]
theorem mem_ext {α : Type} {a : Array α} {i k : Nat} {x : α} (h : x ∈ (a.extract i (i + k)).toList) : ∃ j, j < k ∧ a[i + j]? = some x := by
  rw [Array.mem_toList_iff] at h
  obtain ⟨j, hj, e⟩ := Array.getElem_of_mem h
  rw [Array.size_extract] at hj
  refine ⟨j, by omega, ?_⟩
  rw [← e, Array.getElem_extract]
  exact Array.getElem?_eq_getElem _
theorem Lo.takeA (o : Ord S LT) (h : Lo S LT a b out ia ib) (hk : ia + k ≤ a.size) (eb : b[ib]? = some y) (c : ∀ i x, i < k → a[ia + i]? = some x → LT y x = false) : Lo S LT a b (out ++ a.extract ia (ia + k)) (ia + k) ib := by
  have m := h.mi
  rw [drop_take a ia k] at m
  refine ⟨?_, by rw [Array.size_append, Array.size_extract, h.sz]; omega, hk, h.hb⟩
  rw [Array.toList_append]
  refine m.takeA fun x hx z hz => ?_
  obtain ⟨i, hi, e⟩ := mem_ext hx
  have cx := c i x hi e
  have sx : S x := m.inA (List.mem_append_left _ hx)
  have sz := m.inB hz
  have sb := m.sb
  rw [drop_at eb] at hz sb
  rcases List.mem_cons.mp hz with rfl | hz'
  · exact cx
  · refine o.trans x y z sx (m.inB (by rw [drop_at eb]; exact List.mem_cons_self ..)) sz cx ((List.pairwise_cons.mp sb).1 z hz')
theorem Lo.takeB (o : Ord S LT) (h : Lo S LT a b out ia ib) (hk : ib + k ≤ b.size) (ea : a[ia]? = some x) (c : ∀ i y, i < k → b[ib + i]? = some y → LT y x = true) : Lo S LT a b (out ++ b.extract ib (ib + k)) ia (ib + k) := by
  have m := h.mi
  rw [drop_take b ib k] at m
  refine ⟨?_, by rw [Array.size_append, Array.size_extract, h.sz]; omega, h.ha, hk⟩
  rw [Array.toList_append]
  refine m.takeB fun y hy z hz => ?_
  obtain ⟨i, hi, e⟩ := mem_ext hy
  have sy : S y := m.inB (List.mem_append_left _ hy)
  have sz := m.inA hz
  have sx : S x := m.inA (by rw [drop_at ea]; exact List.mem_cons_self ..)
  have cy := o.asym y x sy sx (c i y hi e)
  have sa := m.sa
  rw [drop_at ea] at hz sa
  rcases List.mem_cons.mp hz with rfl | hz'
  · exact cy
  · exact o.trans y x z sy sx sz cy ((List.pairwise_cons.mp sa).1 z hz')
theorem ext_end {α : Type} (a : Array α) (i : Nat) : (a.extract i a.size).toList = a.toList.drop i := by
  rw [Array.toList_extract, List.extract_eq_take_drop, List.take_of_length_le]
  simp
theorem Lo.endB (h : Lo S LT a b out ia ib) (e : ib = b.size) : Mg LT a b (out ++ a.extract ia a.size ++ b.extract ib b.size) := by
  have m := h.mi
  have e2 : b.toList.drop ib = [] := by rw [e]; simp
  rw [e2] at m
  unfold Mg
  rw [Array.toList_append, Array.toList_append, ext_end, ext_end, e2, List.append_nil]
  exact m.endB
theorem Lo.endA (h : Lo S LT a b out ia ib) (e : ia = a.size) : Mg LT a b (out ++ a.extract ia a.size ++ b.extract ib b.size) := by
  have m := h.mi
  have e2 : a.toList.drop ia = [] := by rw [e]; simp
  rw [e2] at m
  unfold Mg
  rw [Array.toList_append, Array.toList_append, ext_end, ext_end, e2, List.append_nil]
  exact m.endA
theorem Lo.lastA (h : Lo S LT a b out ia ib) (e : ia + 1 = a.size) (hl : ∀ x, a[a.size - 1]? = some x → ∀ y ∈ b.toList, leO LT y x) : Mg LT a b (out ++ b.extract ib b.size ++ a.extract ia a.size) := by
  have m := h.mi
  have hi : ia < a.size := by omega
  have ea : a[ia]? = some a[ia] := Array.getElem?_eq_getElem hi
  have e2 : a.toList.drop ia = [a[ia]] := by rw [drop_at ea, e]; simp
  rw [e2] at m
  unfold Mg
  rw [Array.toList_append, Array.toList_append, ext_end, ext_end, e2]
  refine m.lastA fun y hy => hl _ ?_ y (List.mem_of_mem_drop hy)
  rw [show a.size - 1 = ia by omega]; exact ea
/-- bey ends once in what is in order -/
theorem bey_mono (o : Ord S LT) {left : Bool} {key : Keyed} {arr : Array Keyed} {base n : Nat} (hk : S key) (ha : ∀ (j : Nat) (x : Keyed), arr[j]? = some x → S x) (hn : base + n ≤ arr.size)
    (so : ∀ i j x y, i < j → j < n → arr[base + i]? = some x → arr[base + j]? = some y → leO LT x y) :
    ∀ i j, i ≤ j → j < n → bey LT left key arr base j = true → bey LT left key arr base i = true := by
  intro i j hij hj h
  by_cases e : i = j
  · subst e; exact h
  have ei : arr[base + i]? = some (arr[base + i]'(by omega)) := Array.getElem?_eq_getElem _
  have ej : arr[base + j]? = some (arr[base + j]'(by omega)) := Array.getElem?_eq_getElem _
  have si := ha _ _ ei
  have sj := ha _ _ ej
  have le := so i j _ _ (by omega) hj ei ej
  unfold bey at h ⊢
  rw [ei]
  rw [ej] at h
  dsimp only at h ⊢
  cases left with
  | true =>
    rw [if_pos rfl] at h ⊢
    cases g : LT (arr[base + i]'(by omega)) key with
    | true => rfl
    | false =>
      have := o.trans key _ _ hk si sj g le
      rw [this] at h; cases h
  | false =>
    rw [if_neg (by decide)] at h ⊢
    have h' : LT key (arr[base + j]'(by omega)) = false := by simpa using h
    have := o.trans _ _ key si sj hk le h'
    rw [this]; rfl
theorem bey_f {key x : Keyed} {arr : Array Keyed} {base i : Nat} {v : Bool} (h : bey LT false key arr base i = v) (e : arr[base + i]? = some x) : LT key x = !v := by
  unfold bey at h
  rw [e] at h
  dsimp only at h
  rw [if_neg (by decide)] at h
  rw [← h]; simp
theorem bey_t {key x : Keyed} {arr : Array Keyed} {base i : Nat} {v : Bool} (h : bey LT true key arr base i = v) (e : arr[base + i]? = some x) : LT x key = v := by
  unfold bey at h
  rw [e] at h
  dsimp only at h
  rw [if_pos rfl] at h
  exact h
theorem so_of {arr : Array Keyed} (sa : arr.toList.Pairwise (leO LT)) (base n : Nat) (hn : base + n ≤ arr.size) : ∀ i j x y, i < j → j < n → arr[base + i]? = some x → arr[base + j]? = some y → leO LT x y := by
  intro i j x y hij hj e1 e2
  obtain ⟨h1, rfl⟩ := Array.getElem?_eq_some_iff.mp e1
  obtain ⟨h2, rfl⟩ := Array.getElem?_eq_some_iff.mp e2
  have := List.pairwise_iff_getElem.mp sa (base + i) (base + j) (by simpa using h1) (by simpa using h2) (by omega)
  simpa using this
end
/-- but for minGallop the same -/
structure Sg (st st' : SortSt) : Prop where
  kind : kindOf st' = kindOf st
  arr : arrOf st' = arrOf st
  pend : pendingOf st' = pendingOf st
  failed : failedOf st' = failedOf st
theorem Sg.refl (st : SortSt) : Sg st st := ⟨rfl, rfl, rfl, rfl⟩
theorem Sg.set {st st' : SortSt} (h : Sg st st') (g : Nat) : Sg st (SortSt.mk' (kindOf st') (arrOf st') (pendingOf st') g (failedOf st')) := ⟨h.kind, h.arr, h.pend, h.failed⟩
section
variable {prog : Program} {w : World} {A : Around} {E : Value → Shared → Prop} {s : Shared} {κ : SortKind} {LT : Keyed → Keyed → Bool} {S : Keyed → Prop}
theorem wpS_mergeLo (o : Ord S LT) (hl : LtIs prog w A E s κ S LT) {a b : Array Keyed} {st : SortSt} {Q : Array Keyed → SortSt → Prop} (hs : kindOf st = κ) (ha : ∀ x ∈ a.toList, S x) (hb : ∀ x ∈ b.toList, S x) (sa : a.toList.Pairwise (leO LT)) (sb : b.toList.Pairwise (leO LT)) {x0 y0 : Keyed} (ea : a[0]? = some x0) (eb : b[0]? = some y0) (e0 : LT y0 x0 = true)
    (hlast : ∀ x, a[a.size - 1]? = some x → ∀ y ∈ b.toList, leO LT y x) (h : ∀ r st', Sg st st' → Mg LT a b r → Q r st') : wpS (model prog w) A E s (mergeLo' a b) Q st := by
  have hA : ∀ (j : Nat) (x : Keyed), a[j]? = some x → S x := fun j x e => ha x (mem_at e)
  have hB : ∀ (j : Nat) (x : Keyed), b[j]? = some x → S x := fun j x e => hb x (mem_at e)
  have ha0 := (Array.getElem?_eq_some_iff.mp ea).1
  have hb0 := (Array.getElem?_eq_some_iff.mp eb).1
  have at_ : ∀ {c : Array Keyed} {i : Nat}, i < c.size → ∃ x, c[i]? = some x := fun {c i} hi => ⟨c[i], Array.getElem?_eq_getElem hi⟩
  have L0 : Lo S LT a b #[] 0 0 := ⟨⟨by simp, .nil, by simpa using sa, by simpa using sb, fun x hx => by simp at hx, fun x hx => (List.mem_append.mp hx).elim (ha x) (hb x)⟩, rfl, Nat.zero_le _, Nat.zero_le _⟩
  have L1 : Lo S LT a b #[y0] 0 1 := L0.pushB o ea eb e0
  unfold mergeLo'
  k_delta "mergeLo"
  refine wpS_bind (wpS_lift (wpAny_rule ⟨rfl, ?_⟩))
  dsimp only
  refine wpS_bind (wpS_elem eb ?_)
  by_cases hb1 : 1 = b.size
  · rw [if_pos (by simpa using hb1)]
    exact wpS_pure (h _ _ (Sg.refl _) (L1.endB hb1))
  rw [if_neg (by simpa using hb1)]
  by_cases ha1 : 0 + 1 = a.size
  · rw [if_pos (by simpa using ha1)]
    exact wpS_pure (h _ _ (Sg.refl _) (L1.lastA ha1 hlast))
  rw [if_neg (by simpa using ha1)]
  refine wpS_bind (wpS_get ?_)
  refine wpS_bind (wpS_mono (wpS_forRange (I := fun i c st' => Sg st st' ∧ ∃ out ia ib mg, c = (none, out, ia, ib, mg) ∧ Lo S LT a b out ia ib ∧ ia + 1 < a.size ∧ ib < b.size ∧ 1 + i ≤ out.size)
    (Q := fun c st' => Sg st st' ∧ ∃ r z, c = (some r, z) ∧ Mg LT a b r) ?step ?fin ⟨Sg.refl _, _, _, _, _, rfl, L1, by omega, by omega, Nat.le_refl 1⟩) ?post)
  case fin =>
    rintro c st' ⟨g, out, ia, ib, mg, rfl, L, h1, h2, h3⟩
    have := L.sz
    omega
  case post =>
    rintro c st' ⟨g, r, z, rfl, m⟩
    exact wpS_pure (h _ _ g m)
  rintro i c st' _ hi ⟨g, out, ia, ib, mg, rfl, L, h1, h2, h3⟩
  dsimp only
  refine wpS_bind (wpS_mono (wpS_forRange (I := fun j c st'' => st'' = st' ∧ ∃ out ia ib ac bc, c = (none, out, ia, ib, ac, bc) ∧ Lo S LT a b out ia ib ∧ ia + 1 < a.size ∧ ib < b.size ∧ 1 + i + j ≤ out.size)
    (Q := fun c st'' => st'' = st' ∧ ((∃ r z, c = (some r, z) ∧ Mg LT a b r) ∨ ∃ out ia ib ac bc, c = (none, out, ia, ib, ac, bc) ∧ Lo S LT a b out ia ib ∧ ia + 1 < a.size ∧ ib < b.size ∧ 1 + i + 1 ≤ out.size)) ?_ ?_ ⟨rfl, _, _, _, _, _, rfl, L, h1, h2, h3⟩) ?_)
  · rintro j c st'' _ hj ⟨rfl, out, ia, ib, ac, bc, rfl, L, h1, h2, h3⟩
    dsimp only
    obtain ⟨x, ex⟩ := at_ (c := a) (i := ia) (by omega)
    obtain ⟨y, ey⟩ := at_ (c := b) h2
    have hsz := L.sz
    refine wpS_bind (wpS_elem ey (wpS_bind (wpS_elem ex (wpS_bind (hl y x _ _ (hB _ _ ey) (hA _ _ ex) (g.kind.trans hs) ?_)))))
    dsimp only
    cases e : LT y x with
    | true =>
      rw [if_pos rfl]
      refine wpS_bind (wpS_elem ey ?_)
      have L' := L.pushB o ex ey e
      have hs' := L'.sz
      by_cases hq : ib + 1 = b.size
      · rw [if_pos (by simpa using hq)]
        exact wpS_pure ⟨rfl, .inl ⟨_, _, rfl, L'.endB hq⟩⟩
      · rw [if_neg (by simpa using hq)]
        split
        · exact wpS_pure ⟨rfl, .inr ⟨_, _, _, _, _, rfl, L', h1, by omega, by omega⟩⟩
        · exact wpS_pure ⟨rfl, _, _, _, _, _, rfl, L', h1, by omega, by omega⟩
    | false =>
      rw [if_neg (by decide)]
      refine wpS_bind (wpS_elem ex ?_)
      have L' := L.pushA o ex ey e
      have hs' := L'.sz
      by_cases hq : ia + 1 + 1 = a.size
      · rw [if_pos (by simpa using hq)]
        exact wpS_pure ⟨rfl, .inl ⟨_, _, rfl, L'.lastA hq hlast⟩⟩
      · rw [if_neg (by simpa using hq)]
        split
        · exact wpS_pure ⟨rfl, .inr ⟨_, _, _, _, _, rfl, L', by omega, h2, by omega⟩⟩
        · exact wpS_pure ⟨rfl, _, _, _, _, _, rfl, L', by omega, h2, by omega⟩
  · rintro c st'' ⟨rfl, out, ia, ib, ac, bc, rfl, L, h1, h2, h3⟩
    have := L.sz
    omega
  rintro c st'' ⟨rfl, ⟨r, ⟨z1, z2, z3, z4, z5⟩, rfl, m⟩ | ⟨out, ia, ib, ac, bc, rfl, L, h1, h2, h3⟩⟩
  · exact wpS_pure ⟨g, _, _, rfl, m⟩
  dsimp only
  refine wpS_bind (wpS_lift (wpAny_rule ⟨rfl, ?_⟩))
  refine wpS_bind (wpS_mono (wpS_forRange (I := fun j c st'' => Sg st st'' ∧ ∃ out ia ib mg ac bc, c = (none, out, ia, ib, mg, ac, bc) ∧ Lo S LT a b out ia ib ∧ ia + 1 < a.size ∧ ib < b.size ∧ 1 + i + 1 + j ≤ out.size)
    (Q := fun c st'' => Sg st st'' ∧ ((∃ r z, c = (some r, z) ∧ Mg LT a b r) ∨ ∃ out ia ib mg ac bc, c = (none, out, ia, ib, mg, ac, bc) ∧ Lo S LT a b out ia ib ∧ ia + 1 < a.size ∧ ib < b.size ∧ 1 + i + 1 ≤ out.size)) ?_ ?_ ⟨g, _, _, _, _, _, _, rfl, L, h1, h2, h3⟩) ?_)
  · clear g L h1 h2 h3
    rintro j c st'' _ hj ⟨g, out, ia, ib, mg, ac, bc, rfl, L, h1, h2, h3⟩
    dsimp only
    have hsz := L.sz
    obtain ⟨y, ey⟩ := at_ (c := b) h2
    by_cases hm : mg > 1
    all_goals
      first | rw [if_pos hm] | rw [if_neg hm]
      refine wpS_bind (wpS_modify ?_)
      refine wpS_bind (wpS_elem ey ?_)
      refine wpS_bind (wpS_gallop hl (hB _ _ ey) hA (by omega) (by omega) (g.kind.trans hs) (bey_mono o (hB _ _ ey) hA (by omega) (so_of sa _ _ (by omega))) fun k hk k1 k2 => ?_)
      dsimp only
      have hL : Lo S LT a b (out ++ a.extract ia (ia + k)) (ia + k) ib := L.takeA o (by omega) ey fun i x hi e => bey_f (k1 i hi) e
      by_cases hk0 : k > 0
      · rw [if_pos hk0]
        by_cases hq : ia + k + 1 = a.size
        · rw [if_pos (by simpa using hq)]
          exact wpS_pure ⟨g.set _, .inl ⟨_, _, rfl, hL.lastA hq hlast⟩⟩
        rw [if_neg (by simpa using hq)]
        by_cases hq2 : ia + k = a.size
        · rw [if_pos (by simpa using hq2)]
          exact wpS_pure ⟨g.set _, .inl ⟨_, _, rfl, hL.endA hq2⟩⟩
        rw [if_neg (by simpa using hq2)]
        obtain ⟨x, ex⟩ := at_ (c := a) (i := ia + k) (by omega)
        refine wpS_bind (wpS_elem ey ?_)
        have L2 := hL.pushB o ex ey (bey_f (k2 k (Nat.le_refl _) (by omega)) ex)
        have z2 := L2.sz
        have z1 := hL.sz
        by_cases q2 : ib + 1 = b.size
        · rw [if_pos (by simpa using q2)]
          exact wpS_pure ⟨g.set _, .inl ⟨_, _, rfl, L2.endB q2⟩⟩
        rw [if_neg (by simpa using q2)]
        refine wpS_bind (wpS_elem ex ?_)
        refine wpS_bind (wpS_gallop hl (hA _ _ ex) hB (by omega) (by omega) (g.kind.trans hs) (bey_mono o (hA _ _ ex) hB (by omega) (so_of sb _ _ (by omega))) fun k' hk' k3 k4 => ?_)
        dsimp only
        have L3 := L2.takeB (k := k') o (by omega) ex fun i y hi e => bey_t (k3 i hi) e
        have z3 := L3.sz
        by_cases hk1 : k' > 0
        · rw [if_pos hk1]
          by_cases q3 : ib + 1 + k' = b.size
          · rw [if_pos (by simpa using q3)]
            exact wpS_pure ⟨g.set _, .inl ⟨_, _, rfl, L3.endB q3⟩⟩
          rw [if_neg (by simpa using q3)]
          obtain ⟨y', ey'⟩ := at_ (c := b) (i := ib + 1 + k') (by omega)
          refine wpS_bind (wpS_elem ex ?_)
          have L4 := L3.pushA o ex ey' (bey_t (k4 k' (Nat.le_refl _) (by omega)) ey')
          have z4 := L4.sz
          by_cases q4 : ia + k + 1 + 1 = a.size
          · rw [if_pos (by simpa using q4)]
            exact wpS_pure ⟨g.set _, .inl ⟨_, _, rfl, L4.lastA q4 hlast⟩⟩
          rw [if_neg (by simpa using q4)]
          by_cases q5 : (decide (k < 7) && decide (k' < 7)) = true
          · rw [if_pos q5]
            exact wpS_pure ⟨g.set _, .inr ⟨_, _, _, _, _, _, rfl, L4, by omega, by omega, by omega⟩⟩
          rw [if_neg q5]
          exact wpS_pure ⟨g.set _, _, _, _, _, _, _, rfl, L4, by omega, by omega, by omega⟩
        · rw [if_neg hk1]
          have k0 : k' = 0 := by omega
          subst k0
          obtain ⟨y', ey'⟩ := at_ (c := b) (i := ib + 1) (by omega)
          refine wpS_bind (wpS_elem ex ?_)
          have L4 := L2.pushA o ex ey' (bey_t (k4 0 (Nat.le_refl _) (by omega)) ey')
          have z4 := L4.sz
          by_cases q4 : ia + k + 1 + 1 = a.size
          · rw [if_pos (by simpa using q4)]
            exact wpS_pure ⟨g.set _, .inl ⟨_, _, rfl, L4.lastA q4 hlast⟩⟩
          rw [if_neg (by simpa using q4)]
          by_cases q5 : (decide (k < 7) && decide (0 < 7)) = true
          · rw [if_pos q5]
            exact wpS_pure ⟨g.set _, .inr ⟨_, _, _, _, _, _, rfl, L4, by omega, by omega, by omega⟩⟩
          rw [if_neg q5]
          exact wpS_pure ⟨g.set _, _, _, _, _, _, _, rfl, L4, by omega, by omega, by omega⟩
      · rw [if_neg hk0]
        have k0 : k = 0 := by omega
        subst k0
        obtain ⟨x, ex⟩ := at_ (c := a) (i := ia) (by omega)
        refine wpS_bind (wpS_elem ey ?_)
        have L2 := L.pushB o ex ey (bey_f (k2 0 (Nat.le_refl _) (by omega)) ex)
        have z2 := L2.sz
        have z1 := L.sz
        by_cases q2 : ib + 1 = b.size
        · rw [if_pos (by simpa using q2)]
          exact wpS_pure ⟨g.set _, .inl ⟨_, _, rfl, L2.endB q2⟩⟩
        rw [if_neg (by simpa using q2)]
        refine wpS_bind (wpS_elem ex ?_)
        refine wpS_bind (wpS_gallop hl (hA _ _ ex) hB (by omega) (by omega) (g.kind.trans hs) (bey_mono o (hA _ _ ex) hB (by omega) (so_of sb _ _ (by omega))) fun k' hk' k3 k4 => ?_)
        dsimp only
        have L3 := L2.takeB (k := k') o (by omega) ex fun i y hi e => bey_t (k3 i hi) e
        have z3 := L3.sz
        by_cases hk1 : k' > 0
        · rw [if_pos hk1]
          by_cases q3 : ib + 1 + k' = b.size
          · rw [if_pos (by simpa using q3)]
            exact wpS_pure ⟨g.set _, .inl ⟨_, _, rfl, L3.endB q3⟩⟩
          rw [if_neg (by simpa using q3)]
          obtain ⟨y', ey'⟩ := at_ (c := b) (i := ib + 1 + k') (by omega)
          refine wpS_bind (wpS_elem ex ?_)
          have L4 := L3.pushA o ex ey' (bey_t (k4 k' (Nat.le_refl _) (by omega)) ey')
          have z4 := L4.sz
          by_cases q4 : ia + 1 + 1 = a.size
          · rw [if_pos (by simpa using q4)]
            exact wpS_pure ⟨g.set _, .inl ⟨_, _, rfl, L4.lastA q4 hlast⟩⟩
          rw [if_neg (by simpa using q4)]
          by_cases q5 : (decide (0 < 7) && decide (k' < 7)) = true
          · rw [if_pos q5]
            exact wpS_pure ⟨g.set _, .inr ⟨_, _, _, _, _, _, rfl, L4, by omega, by omega, by omega⟩⟩
          rw [if_neg q5]
          exact wpS_pure ⟨g.set _, _, _, _, _, _, _, rfl, L4, by omega, by omega, by omega⟩
        · rw [if_neg hk1]
          have k0 : k' = 0 := by omega
          subst k0
          obtain ⟨y', ey'⟩ := at_ (c := b) (i := ib + 1) (by omega)
          refine wpS_bind (wpS_elem ex ?_)
          have L4 := L2.pushA o ex ey' (bey_t (k4 0 (Nat.le_refl _) (by omega)) ey')
          have z4 := L4.sz
          by_cases q4 : ia + 1 + 1 = a.size
          · rw [if_pos (by simpa using q4)]
            exact wpS_pure ⟨g.set _, .inl ⟨_, _, rfl, L4.lastA q4 hlast⟩⟩
          rw [if_neg (by simpa using q4)]
          by_cases q5 : (decide (0 < 7) && decide (0 < 7)) = true
          · rw [if_pos q5]
            exact wpS_pure ⟨g.set _, .inr ⟨_, _, _, _, _, _, rfl, L4, by omega, by omega, by omega⟩⟩
          rw [if_neg q5]
          exact wpS_pure ⟨g.set _, _, _, _, _, _, _, rfl, L4, by omega, by omega, by omega⟩
  · rintro c st'' ⟨g, out, ia, ib, mg, ac, bc, rfl, L, h1, h2, h3⟩
    have := L.sz
    omega
  · rintro c st'' ⟨g, ⟨r, ⟨z1, z2, z3, z4, z5, z6⟩, rfl, m⟩ | ⟨out, ia, ib, mg, ac, bc, rfl, L, h1, h2, h3⟩⟩
    · exact wpS_pure ⟨g, _, _, rfl, m⟩
    · dsimp only
      exact wpS_bind (wpS_modify (wpS_pure ⟨g.set _, _, _, _, _, rfl, L, h1, h2, by omega⟩))
end
end L2

namespace L2
open PySem PySem.Spec PyProof.Rows
/-! ### the merge from above -/
theorem Ord.flip {α : Type} {S : α → Prop} {LT : α → α → Bool} (o : Ord S LT) : Ord S (fun x y => LT y x) :=
  ⟨fun x y hx hy h => o.asym y x hy hx h, fun x y z hx hy hz h1 h2 => o.trans z y x hz hy hx h2 h1⟩
theorem take_at {α : Type} {a : Array α} {n : Nat} {x : α} (h : 1 ≤ n) (e : a[n - 1]? = some x) : (a.toList.take n).reverse = x :: (a.toList.take (n - 1)).reverse := by
  obtain ⟨m, rfl⟩ : ∃ m, n = m + 1 := ⟨n - 1, by omega⟩
  obtain ⟨hm, e⟩ := Array.getElem?_eq_some_iff.mp e
  simp only [Nat.add_sub_cancel] at hm e ⊢
  rw [List.take_succ_eq_append_getElem (by simpa using hm), List.reverse_append]
  simp [e]
structure Hi (S : Keyed → Prop) (LT : Keyed → Keyed → Bool) (a b : Array Keyed) (na nb : Nat) (out : Array Keyed) : Prop where
  mi : MI S (fun x y => LT y x) (a.toList ++ b.toList) out.toList (b.toList.take nb).reverse (a.toList.take na).reverse
  sz : out.size + na + nb = a.size + b.size
  ha : na ≤ a.size
  hb : nb ≤ b.size
section
variable {S : Keyed → Prop} {LT : Keyed → Keyed → Bool} {a b out : Array Keyed} {na nb k : Nat} {x y : Keyed}
theorem Hi.pushA (o : Ord S LT) (h : Hi S LT a b na nb out) (ha1 : 1 ≤ na) (hb1 : 1 ≤ nb) (ea : a[na - 1]? = some x) (eb : b[nb - 1]? = some y) (e : LT y x = true) : Hi S LT a b (na - 1) nb (out.push x) := by
  have m := h.mi
  rw [take_at ha1 ea, take_at hb1 eb] at m
  have m' := m.pushB o.flip e
  refine ⟨?_, by rw [Array.size_push]; have := h.sz; omega, by have := h.ha; omega, h.hb⟩
  rw [Array.toList_push, take_at hb1 eb]
  exact m'
theorem Hi.pushB (o : Ord S LT) (h : Hi S LT a b na nb out) (ha1 : 1 ≤ na) (hb1 : 1 ≤ nb) (ea : a[na - 1]? = some x) (eb : b[nb - 1]? = some y) (e : LT y x = false) : Hi S LT a b na (nb - 1) (out.push y) := by
  have m := h.mi
  rw [take_at ha1 ea, take_at hb1 eb] at m
  have m' := m.pushA o.flip e
  refine ⟨?_, by rw [Array.size_push]; have := h.sz; omega, h.ha, by have := h.hb; omega⟩
  rw [Array.toList_push, take_at ha1 ea]
  exact m'
theorem take_split {α : Type} (a : Array α) {k n : Nat} (h : k ≤ n) : (a.toList.take n).reverse = (a.extract k n).reverse.toList ++ (a.toList.take k).reverse := by
  have e : a.toList.take n = a.toList.take k ++ (a.extract k n).toList := by
    rw [Array.toList_extract, List.extract_eq_take_drop]
    have := List.take_append_drop k (a.toList.take n)
    rw [List.take_take, Nat.min_eq_left h, List.drop_take] at this
    exact this.symm
  rw [e, List.reverse_append, Array.toList_reverse]
theorem mem_ext2 {α : Type} {a : Array α} {k n : Nat} {x : α} (h : x ∈ (a.extract k n).reverse.toList) : ∃ j, k ≤ j ∧ j < n ∧ a[j]? = some x := by
  rw [Array.toList_reverse, List.mem_reverse, Array.mem_toList_iff] at h
  obtain ⟨j, hj, e⟩ := Array.getElem_of_mem h
  rw [Array.size_extract] at hj
  refine ⟨k + j, by omega, by omega, ?_⟩
  rw [← e, Array.getElem_extract]
  exact Array.getElem?_eq_getElem _
theorem Hi.takeA (o : Ord S LT) (h : Hi S LT a b na nb out) (hk : k ≤ na) (hb1 : 1 ≤ nb) (eb : b[nb - 1]? = some y) (c : ∀ i x, k ≤ i → i < na → a[i]? = some x → LT y x = true) : Hi S LT a b k nb (out ++ (a.extract k na).reverse) := by
  have m := h.mi
  rw [take_split a hk] at m
  refine ⟨?_, by rw [Array.size_append, Array.size_reverse, Array.size_extract]; have := h.sz; have := h.ha; omega, by have := h.ha; omega, h.hb⟩
  rw [Array.toList_append]
  refine m.takeB fun x hx z hz => ?_
  obtain ⟨i, i1, i2, e⟩ := mem_ext2 hx
  have sx : S x := m.inB (List.mem_append_left _ hx)
  have sy : S y := m.inA (by rw [take_at hb1 eb]; exact List.mem_cons_self ..)
  have sz := m.inA hz
  have cx := o.asym y x sy sx (c i x i1 i2 e)
  have sb := m.sa
  rw [take_at hb1 eb] at hz sb
  rcases List.mem_cons.mp hz with rfl | hz'
  · exact cx
  · exact o.trans z y x sz sy sx ((List.pairwise_cons.mp sb).1 z hz') cx
theorem Hi.takeB (o : Ord S LT) (h : Hi S LT a b na nb out) (hk : k ≤ nb) (ha1 : 1 ≤ na) (ea : a[na - 1]? = some x) (c : ∀ i y, k ≤ i → i < nb → b[i]? = some y → LT y x = false) : Hi S LT a b na k (out ++ (b.extract k nb).reverse) := by
  have m := h.mi
  rw [take_split b hk] at m
  refine ⟨?_, by rw [Array.size_append, Array.size_reverse, Array.size_extract]; have := h.sz; have := h.hb; omega, h.ha, by have := h.hb; omega⟩
  rw [Array.toList_append]
  refine m.takeA fun y hy z hz => ?_
  obtain ⟨i, i1, i2, e⟩ := mem_ext2 hy
  have sy : S y := m.inA (List.mem_append_left _ hy)
  have sx : S x := m.inB (by rw [take_at ha1 ea]; exact List.mem_cons_self ..)
  have sz := m.inB hz
  have cy := c i y i1 i2 e
  have sa := m.sb
  rw [take_at ha1 ea] at hz sa
  rcases List.mem_cons.mp hz with rfl | hz'
  · exact cy
  · exact o.trans z x y sz sx sy ((List.pairwise_cons.mp sa).1 z hz') cy
theorem ext0 {α : Type} (a : Array α) (n : Nat) : (a.extract 0 n).toList = a.toList.take n := by
  rw [Array.toList_extract, List.extract_eq_take_drop, List.drop_zero, Nat.sub_zero]
theorem mg_rev {l : List Keyed} {r : Array Keyed} (e : r.toList = l.reverse) (p : l.Perm (a.toList ++ b.toList)) (s : l.Pairwise (leO fun x y => LT y x)) : Mg LT a b r := by
  unfold Mg
  rw [e]
  exact ⟨l.reverse_perm.trans p, List.pairwise_reverse.mpr s⟩
theorem Hi.endA (h : Hi S LT a b na nb out) (e : na = 0) : Mg LT a b (a.extract 0 na ++ b.extract 0 nb ++ out.reverse) := by
  have m := h.mi
  subst e
  rw [List.take_zero, List.reverse_nil] at m
  obtain ⟨p, s⟩ := m.endB
  refine mg_rev ?_ p s
  rw [Array.toList_append, Array.toList_append, ext0, ext0, Array.toList_reverse, List.take_zero, List.nil_append, List.reverse_append, List.reverse_reverse]
theorem Hi.endB (h : Hi S LT a b na nb out) (e : nb = 0) : Mg LT a b (a.extract 0 na ++ b.extract 0 nb ++ out.reverse) := by
  have m := h.mi
  subst e
  rw [List.take_zero, List.reverse_nil] at m
  obtain ⟨p, s⟩ := m.endA
  refine mg_rev ?_ p s
  rw [Array.toList_append, Array.toList_append, ext0, ext0, Array.toList_reverse, List.take_zero, List.append_nil, List.reverse_append, List.reverse_reverse]
theorem Hi.firstB (h : Hi S LT a b na nb out) (e : nb = 1) (hl : ∀ y, b[0]? = some y → ∀ x ∈ a.toList, LT x y = false) : Mg LT a b (b.extract 0 nb ++ a.extract 0 na ++ out.reverse) := by
  have m := h.mi
  have hb := h.hb
  subst e
  have eb : b[1 - 1]? = some (b[0]'(by omega)) := Array.getElem?_eq_getElem _
  have eb' : (b.toList.take 1).reverse = [b[0]'(by omega)] := by rw [take_at (Nat.le_refl 1) eb]; simp
  rw [eb'] at m
  obtain ⟨p, s⟩ := m.lastA fun x hx => hl _ eb x (List.mem_of_mem_take (List.mem_reverse.mp hx))
  refine mg_rev ?_ p s
  rw [Array.toList_append, Array.toList_append, ext0, ext0, Array.toList_reverse, List.reverse_append, List.reverse_append, List.reverse_reverse, ← eb', List.reverse_reverse, List.append_assoc]
theorem bey_f0 {key x : Keyed} {arr : Array Keyed} {i : Nat} {v : Bool} (h : bey LT false key arr 0 i = v) (e : arr[i]? = some x) : LT key x = !v := bey_f h (by rw [Nat.zero_add]; exact e)
theorem bey_t0 {key x : Keyed} {arr : Array Keyed} {i : Nat} {v : Bool} (h : bey LT true key arr 0 i = v) (e : arr[i]? = some x) : LT x key = v := bey_t h (by rw [Nat.zero_add]; exact e)
end
section
variable {prog : Program} {w : World} {A : Around} {E : Value → Shared → Prop} {s : Shared} {κ : SortKind} {LT : Keyed → Keyed → Bool} {S : Keyed → Prop}
theorem wpS_mergeHi (o : Ord S LT) (hl : LtIs prog w A E s κ S LT) {a b : Array Keyed} {st : SortSt} {Q : Array Keyed → SortSt → Prop} (hs : kindOf st = κ) (ha : ∀ x ∈ a.toList, S x) (hb : ∀ x ∈ b.toList, S x) (sa : a.toList.Pairwise (leO LT)) (sb : b.toList.Pairwise (leO LT)) {x0 y0 : Keyed} (ea : a[a.size - 1]? = some x0) (eb : b[b.size - 1]? = some y0) (e0 : LT y0 x0 = true)
    (hlast : ∀ y, b[0]? = some y → ∀ x ∈ a.toList, LT x y = false) (h : ∀ r st', Sg st st' → Mg LT a b r → Q r st') : wpS (model prog w) A E s (mergeHi' a b) Q st := by
  have hA : ∀ (j : Nat) (x : Keyed), a[j]? = some x → S x := fun j x e => ha x (mem_at e)
  have hB : ∀ (j : Nat) (x : Keyed), b[j]? = some x → S x := fun j x e => hb x (mem_at e)
  have ha0 := (Array.getElem?_eq_some_iff.mp ea).1
  have hb0 := (Array.getElem?_eq_some_iff.mp eb).1
  have at_ : ∀ {c : Array Keyed} {i : Nat}, i < c.size → ∃ x, c[i]? = some x := fun {c i} hi => ⟨c[i], Array.getElem?_eq_getElem hi⟩
  have L0 : Hi S LT a b a.size b.size #[] := by
    refine ⟨⟨?_, .nil, ?_, ?_, fun x hx => by simp at hx, fun x hx => (List.mem_append.mp hx).elim (ha x) (hb x)⟩, by simp, Nat.le_refl _, Nat.le_refl _⟩
    · have e1 : a.toList.take a.size = a.toList := List.take_of_length_le (by simp)
      have e2 : b.toList.take b.size = b.toList := List.take_of_length_le (by simp)
      rw [e1, e2]
      show ([] ++ (b.toList.reverse ++ a.toList.reverse)).Perm _
      rw [List.nil_append, ← List.reverse_append]
      exact List.reverse_perm _
    · have e2 : b.toList.take b.size = b.toList := List.take_of_length_le (by simp)
      rw [e2]
      exact List.pairwise_reverse.mpr sb
    · have e1 : a.toList.take a.size = a.toList := List.take_of_length_le (by simp)
      rw [e1]
      exact List.pairwise_reverse.mpr sa
  have L1 : Hi S LT a b (a.size - 1) b.size #[x0] := L0.pushA o (by omega) (by omega) ea eb e0
  unfold mergeHi'
  k_delta "mergeHi"
  refine wpS_bind (wpS_lift (wpAny_rule ⟨rfl, ?_⟩))
  dsimp only
  refine wpS_bind (wpS_elem ea ?_)
  by_cases ha1 : a.size - 1 = 0
  · rw [if_pos (by simpa using ha1)]
    exact wpS_pure (h _ _ (Sg.refl _) (L1.endA ha1))
  rw [if_neg (by simpa using ha1)]
  by_cases hb1 : b.size = 1
  · rw [if_pos (by simpa using hb1)]
    exact wpS_pure (h _ _ (Sg.refl _) (L1.firstB hb1 hlast))
  rw [if_neg (by simpa using hb1)]
  refine wpS_bind (wpS_get ?_)
  refine wpS_bind (wpS_mono (wpS_forRange (I := fun i c st' => Sg st st' ∧ ∃ na nb out mg, c = (none, na, nb, out, mg) ∧ Hi S LT a b na nb out ∧ 1 ≤ na ∧ 2 ≤ nb ∧ 1 + i ≤ out.size)
    (Q := fun c st' => Sg st st' ∧ ∃ r z, c = (some r, z) ∧ Mg LT a b r) ?step ?fin ⟨Sg.refl _, _, _, _, _, rfl, L1, by omega, by omega, Nat.le_refl 1⟩) ?post)
  case fin =>
    rintro c st' ⟨g, na, nb, out, mg, rfl, L, h1, h2, h3⟩
    have := L.sz
    omega
  case post =>
    rintro c st' ⟨g, r, z, rfl, m⟩
    exact wpS_pure (h _ _ g m)
  rintro i c st' _ hi ⟨g, na, nb, out, mg, rfl, L, h1, h2, h3⟩
  dsimp only
  refine wpS_bind (wpS_mono (wpS_forRange (I := fun j c st'' => st'' = st' ∧ ∃ na nb out ac bc, c = (none, na, nb, out, ac, bc) ∧ Hi S LT a b na nb out ∧ 1 ≤ na ∧ 2 ≤ nb ∧ 1 + i + j ≤ out.size)
    (Q := fun c st'' => st'' = st' ∧ ((∃ r z, c = (some r, z) ∧ Mg LT a b r) ∨ ∃ na nb out ac bc, c = (none, na, nb, out, ac, bc) ∧ Hi S LT a b na nb out ∧ 1 ≤ na ∧ 2 ≤ nb ∧ 1 + i + 1 ≤ out.size)) ?_ ?_ ⟨rfl, _, _, _, _, _, rfl, L, h1, h2, h3⟩) ?_)
  · rintro j c st'' _ hj ⟨rfl, na, nb, out, ac, bc, rfl, L, h1, h2, h3⟩
    dsimp only
    have hna := L.ha
    have hnb := L.hb
    obtain ⟨x, ex⟩ := at_ (c := a) (i := na - 1) (by omega)
    obtain ⟨y, ey⟩ := at_ (c := b) (i := nb - 1) (by omega)
    have hsz := L.sz
    refine wpS_bind (wpS_elem ey (wpS_bind (wpS_elem ex (wpS_bind (hl y x _ _ (hB _ _ ey) (hA _ _ ex) (g.kind.trans hs) ?_)))))
    dsimp only
    cases e : LT y x with
    | true =>
      rw [if_pos rfl]
      refine wpS_bind (wpS_elem ex ?_)
      have L' := L.pushA o h1 (by omega) ex ey e
      have hs' := L'.sz
      by_cases hq : na - 1 = 0
      · rw [if_pos (by simpa using hq)]
        exact wpS_pure ⟨rfl, .inl ⟨_, _, rfl, L'.endA hq⟩⟩
      · rw [if_neg (by simpa using hq)]
        split
        · exact wpS_pure ⟨rfl, .inr ⟨_, _, _, _, _, rfl, L', by omega, h2, by omega⟩⟩
        · exact wpS_pure ⟨rfl, _, _, _, _, _, rfl, L', by omega, h2, by omega⟩
    | false =>
      rw [if_neg (by decide)]
      refine wpS_bind (wpS_elem ey ?_)
      have L' := L.pushB o h1 (by omega) ex ey e
      have hs' := L'.sz
      by_cases hq : nb - 1 = 1
      · rw [if_pos (by simpa using hq)]
        exact wpS_pure ⟨rfl, .inl ⟨_, _, rfl, L'.firstB hq hlast⟩⟩
      · rw [if_neg (by simpa using hq)]
        split
        · exact wpS_pure ⟨rfl, .inr ⟨_, _, _, _, _, rfl, L', h1, by omega, by omega⟩⟩
        · exact wpS_pure ⟨rfl, _, _, _, _, _, rfl, L', h1, by omega, by omega⟩
  · rintro c st'' ⟨rfl, na, nb, out, ac, bc, rfl, L, h1, h2, h3⟩
    have := L.sz
    omega
  rintro c st'' ⟨rfl, ⟨r, ⟨z1, z2, z3, z4, z5⟩, rfl, m⟩ | ⟨na, nb, out, ac, bc, rfl, L, h1, h2, h3⟩⟩
  · exact wpS_pure ⟨g, _, _, rfl, m⟩
  dsimp only
  refine wpS_bind (wpS_lift (wpAny_rule ⟨rfl, ?_⟩))
  refine wpS_bind (wpS_mono (wpS_forRange (I := fun j c st'' => Sg st st'' ∧ ∃ na nb out mg ac bc, c = (none, na, nb, out, mg, ac, bc) ∧ Hi S LT a b na nb out ∧ 1 ≤ na ∧ 2 ≤ nb ∧ 1 + i + 1 + j ≤ out.size)
    (Q := fun c st'' => Sg st st'' ∧ ((∃ r z, c = (some r, z) ∧ Mg LT a b r) ∨ ∃ na nb out mg ac bc, c = (none, na, nb, out, mg, ac, bc) ∧ Hi S LT a b na nb out ∧ 1 ≤ na ∧ 2 ≤ nb ∧ 1 + i + 1 ≤ out.size)) ?_ ?_ ⟨g, _, _, _, _, _, _, rfl, L, h1, h2, h3⟩) ?_)
  · clear g L h1 h2 h3
    rintro j c st'' _ hj ⟨g, na, nb, out, mg, ac, bc, rfl, L, h1, h2, h3⟩
    dsimp only
    have hsz := L.sz
    have hna := L.ha
    have hnb := L.hb
    obtain ⟨y, ey⟩ := at_ (c := b) (i := nb - 1) (by omega)
    by_cases hm : mg > 1
    all_goals
      first | rw [if_pos hm] | rw [if_neg hm]
      refine wpS_bind (wpS_modify ?_)
      refine wpS_bind (wpS_elem ey ?_)
      refine wpS_bind (wpS_gallop hl (hB _ _ ey) hA (by omega) (by omega) (g.kind.trans hs) (bey_mono o (hB _ _ ey) hA (by omega) (so_of sa _ _ (by omega))) fun k hk k1 k2 => ?_)
      dsimp only
      have hL : Hi S LT a b k nb (out ++ (a.extract k na).reverse) := L.takeA o hk (by omega) ey fun i x i1 i2 e => bey_f0 (k2 i i1 i2) e
      by_cases hk0 : na - k > 0
      · rw [if_pos hk0]
        by_cases hq : k = 0
        · rw [if_pos (by simpa using hq)]
          exact wpS_pure ⟨g.set _, .inl ⟨_, _, rfl, hL.endA hq⟩⟩
        rw [if_neg (by simpa using hq)]
        obtain ⟨x, ex⟩ := at_ (c := a) (i := k - 1) (by omega)
        refine wpS_bind (wpS_elem ey ?_)
        have L2 := hL.pushB o (by omega) (by omega) ex ey (bey_f0 (k1 (k - 1) (by omega)) ex)
        have z2 := L2.sz
        have z1 := hL.sz
        by_cases q2 : nb - 1 = 1
        · rw [if_pos (by simpa using q2)]
          exact wpS_pure ⟨g.set _, .inl ⟨_, _, rfl, L2.firstB q2 hlast⟩⟩
        rw [if_neg (by simpa using q2)]
        refine wpS_bind (wpS_elem ex ?_)
        refine wpS_bind (wpS_gallop hl (hA _ _ ex) hB (by omega) (by omega) (g.kind.trans hs) (bey_mono o (hA _ _ ex) hB (by omega) (so_of sb _ _ (by omega))) fun k' hk' k3 k4 => ?_)
        dsimp only
        have L3 := L2.takeB (k := k') o hk' (by omega) ex fun i y i1 i2 e => bey_t0 (k4 i i1 i2) e
        have z3 := L3.sz
        by_cases hk1 : nb - 1 - k' > 0
        · rw [if_pos hk1]
          by_cases q3 : k' = 1
          · rw [if_pos (by simpa using q3)]
            exact wpS_pure ⟨g.set _, .inl ⟨_, _, rfl, L3.firstB q3 hlast⟩⟩
          rw [if_neg (by simpa using q3)]
          by_cases q6 : k' = 0
          · rw [if_pos (by simpa using q6)]
            exact wpS_pure ⟨g.set _, .inl ⟨_, _, rfl, L3.endB q6⟩⟩
          rw [if_neg (by simpa using q6)]
          obtain ⟨y', ey'⟩ := at_ (c := b) (i := k' - 1) (by omega)
          refine wpS_bind (wpS_elem ex ?_)
          have L4 := L3.pushA o (by omega) (by omega) ex ey' (bey_t0 (k3 (k' - 1) (by omega)) ey')
          have z4 := L4.sz
          by_cases q4 : k - 1 = 0
          · rw [if_pos (by simpa using q4)]
            exact wpS_pure ⟨g.set _, .inl ⟨_, _, rfl, L4.endA q4⟩⟩
          rw [if_neg (by simpa using q4)]
          by_cases q5 : (decide (na - k < 7) && decide (nb - 1 - k' < 7)) = true
          · rw [if_pos q5]
            exact wpS_pure ⟨g.set _, .inr ⟨_, _, _, _, _, _, rfl, L4, by omega, by omega, by omega⟩⟩
          rw [if_neg q5]
          exact wpS_pure ⟨g.set _, _, _, _, _, _, _, rfl, L4, by omega, by omega, by omega⟩
        · rw [if_neg hk1]
          obtain ⟨y', ey'⟩ := at_ (c := b) (i := nb - 1 - 1) (by omega)
          refine wpS_bind (wpS_elem ex ?_)
          have L4 := L2.pushA o (by omega) (by omega) ex ey' (bey_t0 (k3 (nb - 1 - 1) (by omega)) ey')
          have z4 := L4.sz
          by_cases q4 : k - 1 = 0
          · rw [if_pos (by simpa using q4)]
            exact wpS_pure ⟨g.set _, .inl ⟨_, _, rfl, L4.endA q4⟩⟩
          rw [if_neg (by simpa using q4)]
          by_cases q5 : (decide (na - k < 7) && decide (nb - 1 - k' < 7)) = true
          · rw [if_pos q5]
            exact wpS_pure ⟨g.set _, .inr ⟨_, _, _, _, _, _, rfl, L4, by omega, by omega, by omega⟩⟩
          rw [if_neg q5]
          exact wpS_pure ⟨g.set _, _, _, _, _, _, _, rfl, L4, by omega, by omega, by omega⟩
      · rw [if_neg hk0]
        have k0 : k = na := by omega
        subst k0
        obtain ⟨x, ex⟩ := at_ (c := a) (i := k - 1) (by omega)
        refine wpS_bind (wpS_elem ey ?_)
        have L2 := L.pushB o (by omega) (by omega) ex ey (bey_f0 (k1 (k - 1) (by omega)) ex)
        have z2 := L2.sz
        have z1 := L.sz
        by_cases q2 : nb - 1 = 1
        · rw [if_pos (by simpa using q2)]
          exact wpS_pure ⟨g.set _, .inl ⟨_, _, rfl, L2.firstB q2 hlast⟩⟩
        rw [if_neg (by simpa using q2)]
        refine wpS_bind (wpS_elem ex ?_)
        refine wpS_bind (wpS_gallop hl (hA _ _ ex) hB (by omega) (by omega) (g.kind.trans hs) (bey_mono o (hA _ _ ex) hB (by omega) (so_of sb _ _ (by omega))) fun k' hk' k3 k4 => ?_)
        dsimp only
        have L3 := L2.takeB (k := k') o hk' (by omega) ex fun i y i1 i2 e => bey_t0 (k4 i i1 i2) e
        have z3 := L3.sz
        by_cases hk1 : nb - 1 - k' > 0
        · rw [if_pos hk1]
          by_cases q3 : k' = 1
          · rw [if_pos (by simpa using q3)]
            exact wpS_pure ⟨g.set _, .inl ⟨_, _, rfl, L3.firstB q3 hlast⟩⟩
          rw [if_neg (by simpa using q3)]
          by_cases q6 : k' = 0
          · rw [if_pos (by simpa using q6)]
            exact wpS_pure ⟨g.set _, .inl ⟨_, _, rfl, L3.endB q6⟩⟩
          rw [if_neg (by simpa using q6)]
          obtain ⟨y', ey'⟩ := at_ (c := b) (i := k' - 1) (by omega)
          refine wpS_bind (wpS_elem ex ?_)
          have L4 := L3.pushA o (by omega) (by omega) ex ey' (bey_t0 (k3 (k' - 1) (by omega)) ey')
          have z4 := L4.sz
          by_cases q4 : k - 1 = 0
          · rw [if_pos (by simpa using q4)]
            exact wpS_pure ⟨g.set _, .inl ⟨_, _, rfl, L4.endA q4⟩⟩
          rw [if_neg (by simpa using q4)]
          by_cases q5 : (decide (k - k < 7) && decide (nb - 1 - k' < 7)) = true
          · rw [if_pos q5]
            exact wpS_pure ⟨g.set _, .inr ⟨_, _, _, _, _, _, rfl, L4, by omega, by omega, by omega⟩⟩
          rw [if_neg q5]
          exact wpS_pure ⟨g.set _, _, _, _, _, _, _, rfl, L4, by omega, by omega, by omega⟩
        · rw [if_neg hk1]
          obtain ⟨y', ey'⟩ := at_ (c := b) (i := nb - 1 - 1) (by omega)
          refine wpS_bind (wpS_elem ex ?_)
          have L4 := L2.pushA o (by omega) (by omega) ex ey' (bey_t0 (k3 (nb - 1 - 1) (by omega)) ey')
          have z4 := L4.sz
          by_cases q4 : k - 1 = 0
          · rw [if_pos (by simpa using q4)]
            exact wpS_pure ⟨g.set _, .inl ⟨_, _, rfl, L4.endA q4⟩⟩
          rw [if_neg (by simpa using q4)]
          by_cases q5 : (decide (k - k < 7) && decide (nb - 1 - k' < 7)) = true
          · rw [if_pos q5]
            exact wpS_pure ⟨g.set _, .inr ⟨_, _, _, _, _, _, rfl, L4, by omega, by omega, by omega⟩⟩
          rw [if_neg q5]
          exact wpS_pure ⟨g.set _, _, _, _, _, _, _, rfl, L4, by omega, by omega, by omega⟩
  · rintro c st'' ⟨g, na, nb, out, mg, ac, bc, rfl, L, h1, h2, h3⟩
    have := L.sz
    omega
  · rintro c st'' ⟨g, ⟨r, ⟨z1, z2, z3, z4, z5, z6⟩, rfl, m⟩ | ⟨na, nb, out, mg, ac, bc, rfl, L, h1, h2, h3⟩⟩
    · exact wpS_pure ⟨g, _, _, rfl, m⟩
    · dsimp only
      exact wpS_bind (wpS_modify (wpS_pure ⟨g.set _, _, _, _, _, rfl, L, h1, h2, by omega⟩))
end
end L2

namespace L2
open PySem PySem.Spec PyProof.Rows
/-! ### two runs side by side, merged in their place -/
def SR (LT : Keyed → Keyed → Bool) (arr : Array Keyed) (lo hi : Nat) : Prop := ∀ i j x y, lo ≤ i → i < j → j < hi → arr[i]? = some x → arr[j]? = some y → leO LT x y
structure Mid (LT : Keyed → Keyed → Bool) (arr arr' : Array Keyed) (lo hi : Nat) : Prop where
  perm : arr'.toList.Perm arr.toList
  out : ∀ i, i < lo ∨ hi ≤ i → arr'[i]? = arr[i]?
  so : SR LT arr' lo hi
def putAll (arr : Array Keyed) (off : Nat) (l : List (Keyed × Nat)) : Array Keyed := l.foldl (fun a (p, j) => a.setIfInBounds (off + j) p) arr
theorem putAll_at : ∀ (m : List Keyed) (k off : Nat) (arr : Array Keyed) (i : Nat), off + k + m.length ≤ arr.size → (putAll arr off (m.zipIdx k))[i]? = if off + k ≤ i ∧ i < off + k + m.length then m[i - (off + k)]? else arr[i]?
  | [], k, off, arr, i, _ => by
    rw [List.zipIdx_nil]
    show arr[i]? = _
    rw [if_neg (by rw [List.length_nil]; omega)]
  | x :: m, k, off, arr, i, h => by
    rw [List.zipIdx_cons]
    show (putAll (arr.setIfInBounds (off + k) x) off (m.zipIdx (k + 1)))[i]? = _
    rw [List.length_cons] at h ⊢
    rw [putAll_at m (k + 1) off _ i (by rw [Array.size_setIfInBounds]; omega), Array.getElem?_setIfInBounds]
    by_cases h1 : off + k = i
    · rw [if_neg (by omega), if_pos h1, if_pos (by omega), if_pos (by omega), show i - (off + k) = 0 by omega]
      rfl
    · rw [if_neg h1]
      by_cases h2 : off + (k + 1) ≤ i ∧ i < off + (k + 1) + m.length
      · rw [if_pos h2, if_pos (by omega), show i - (off + k) = (i - (off + (k + 1))) + 1 by omega, List.getElem?_cons_succ]
      · rw [if_neg h2, if_neg (by omega)]
theorem putAll_list {arr : Array Keyed} {off n : Nat} {m : List Keyed} (hm : m.length = n - off) (h1 : off ≤ n) (h2 : n ≤ arr.size) : (putAll arr off (m.zipIdx)).toList = arr.toList.take off ++ m ++ arr.toList.drop n := by
  apply List.ext_getElem?
  intro i
  rw [Array.getElem?_toList, putAll_at m 0 off arr i (by omega)]
  have l1 : (arr.toList.take off).length = off := by simp; omega
  by_cases h : off + 0 ≤ i ∧ i < off + 0 + m.length
  · rw [if_pos h, List.append_assoc, List.getElem?_append_right (by omega), List.getElem?_append_left (by omega), l1]
    rfl
  · rw [if_neg h]
    by_cases h3 : i < off
    · rw [List.append_assoc, List.getElem?_append_left (by omega), List.getElem?_take, if_pos h3, Array.getElem?_toList]
    · rw [List.append_assoc, List.getElem?_append_right (by omega), List.getElem?_append_right (by omega), List.getElem?_drop, l1, Array.getElem?_toList]
      congr 1
      omega
theorem split3 {α : Type} (arr : Array α) {p q r : Nat} (h1 : p ≤ q) (h2 : q ≤ r) : arr.toList = arr.toList.take p ++ ((arr.extract p q).toList ++ (arr.extract q r).toList) ++ arr.toList.drop r := by
  rw [Array.toList_extract, Array.toList_extract, List.extract_eq_take_drop, List.extract_eq_take_drop]
  have e1 : arr.toList.drop p = (arr.toList.drop p).take (q - p) ++ arr.toList.drop q := by
    have := List.take_append_drop (q - p) (arr.toList.drop p)
    rw [List.drop_drop, show p + (q - p) = q by omega] at this
    exact this.symm
  have e2 : arr.toList.drop q = (arr.toList.drop q).take (r - q) ++ arr.toList.drop r := by
    have := List.take_append_drop (r - q) (arr.toList.drop q)
    rw [List.drop_drop, show q + (r - q) = r by omega] at this
    exact this.symm
  have e0 := (List.take_append_drop p arr.toList).symm
  rw [e1, e2] at e0
  simpa [List.append_assoc] using e0
theorem ext_at {α : Type} {arr : Array α} {p q i : Nat} {x : α} (h : (arr.extract p q)[i]? = some x) : arr[p + i]? = some x ∧ p + i < q := by
  obtain ⟨h1, e⟩ := Array.getElem?_eq_some_iff.mp h
  rw [Array.size_extract] at h1
  rw [Array.getElem_extract] at e
  exact ⟨by rw [← e]; exact Array.getElem?_eq_getElem _, by omega⟩
theorem ext_mem {α : Type} {arr : Array α} {p q : Nat} {x : α} (h : x ∈ (arr.extract p q).toList) : ∃ i, p ≤ i ∧ i < q ∧ arr[i]? = some x := by
  rw [Array.mem_toList_iff] at h
  obtain ⟨i, hi, e⟩ := Array.getElem_of_mem h
  obtain ⟨e1, e2⟩ := ext_at (p := p) (q := q) (arr := arr) (i := i) (x := x) (by rw [Array.getElem?_eq_getElem hi, e])
  exact ⟨p + i, by omega, e2, e1⟩
theorem ext_get {α : Type} {arr : Array α} {p q i : Nat} (h : p + i < q) (hq : q ≤ arr.size) : (arr.extract p q)[i]? = arr[p + i]? := by
  have hs : i < (arr.extract p q).size := by rw [Array.size_extract]; omega
  rw [Array.getElem?_eq_getElem hs, Array.getElem_extract]
  exact (Array.getElem?_eq_getElem _).symm
theorem SR.pw {LT : Keyed → Keyed → Bool} {arr : Array Keyed} {lo hi p q : Nat} (h : SR LT arr lo hi) (h1 : lo ≤ p) (h2 : q ≤ hi) : (arr.extract p q).toList.Pairwise (leO LT) := by
  rw [List.pairwise_iff_getElem]
  intro i j hi hj hij
  have e1 : (arr.extract p q)[i]? = some (arr.extract p q).toList[i] := by rw [← Array.getElem?_toList]; exact List.getElem?_eq_getElem hi
  have e2 : (arr.extract p q)[j]? = some (arr.extract p q).toList[j] := by rw [← Array.getElem?_toList]; exact List.getElem?_eq_getElem hj
  obtain ⟨g1, g2⟩ := ext_at e1
  obtain ⟨g3, g4⟩ := ext_at e2
  exact h _ _ _ _ (by omega) (show p + i < p + j by omega) (by omega) g1 g3
section
variable {S : Keyed → Prop} {LT : Keyed → Keyed → Bool}
/-- what a merge leaves in its place -/
theorem mid_of (o : Ord S LT) {arr r : Array Keyed} {sa sb k nb n : Nat} {b0 al : Keyed} (hall : ∀ (j : Nat) (x : Keyed), arr[j]? = some x → S x) (h1 : sa + k < sb) (h2 : nb ≤ n) (h3 : 1 ≤ nb) (h4 : sb + n ≤ arr.size) (s1 : SR LT arr sa sb) (s2 : SR LT arr sb (sb + n)) (eb : arr[sb]? = some b0) (ea : arr[sb - 1]? = some al)
    (k1 : ∀ i x, i < k → arr[sa + i]? = some x → LT b0 x = false) (k2 : ∀ i x, nb ≤ i → i < n → arr[sb + i]? = some x → LT x al = false) (m : Mg LT (arr.extract (sa + k) sb) (arr.extract sb (sb + nb)) r) : Mid LT arr (putAll arr (sa + k) r.toList.zipIdx) sa (sb + n) := by
  have sp := split3 arr (p := sa + k) (q := sb) (r := sb + nb) (by omega) (by omega)
  have hlen : r.toList.length = sb + nb - (sa + k) := by
    rw [m.1.length_eq, List.length_append, Array.length_toList, Array.length_toList, Array.size_extract, Array.size_extract]; omega
  have pl := putAll_list (arr := arr) (off := sa + k) (n := sb + nb) hlen (by omega) (by omega)
  have at' : ∀ i, (putAll arr (sa + k) r.toList.zipIdx)[i]? = if sa + k ≤ i ∧ i < sb + nb then r.toList[i - (sa + k)]? else arr[i]? := fun i => by
    rw [putAll_at r.toList 0 (sa + k) arr i (by omega), Nat.add_zero, hlen, show sa + k + (sb + nb - (sa + k)) = sb + nb by omega]
  have rf : ∀ x, S x → LT x x = false := fun x hx => by
    cases e : LT x x with
    | false => rfl
    | true => rw [o.asym x x hx hx e] at e; cases e
  refine ⟨?_, fun i hi => by rw [at' i, if_neg (by omega)], ?_⟩
  · rw [pl]
    refine List.Perm.trans ?_ (List.Perm.of_eq sp.symm)
    exact List.Perm.append_right _ (List.Perm.append_left _ m.1)
  · -- where a merged one comes from
    have from_ : ∀ i x, sa + k ≤ i → i < sb + nb → r.toList[i - (sa + k)]? = some x → ∃ i', sa + k ≤ i' ∧ i' < sb + nb ∧ arr[i']? = some x := fun i x h1 h2 e => by
      rcases List.mem_append.mp (m.1.mem_iff.mp (List.mem_of_getElem? e)) with hx | hx
      · obtain ⟨j, j1, j2, j3⟩ := ext_mem hx
        exact ⟨j, j1, by omega, j3⟩
      · obtain ⟨j, j1, j2, j3⟩ := ext_mem hx
        exact ⟨j, by omega, j2, j3⟩
    -- below b0: below all that is later; above al: above all that is earlier
    have low : ∀ i x j y, sa ≤ i → i < sa + k → arr[i]? = some x → sa + k ≤ j → j < sb + n → arr[j]? = some y → leO LT x y := fun i x j y i1 i2 ex j1 j2 ey => by
      by_cases hj : j < sb
      · exact s1 i j x y i1 (by omega) hj ex ey
      · have c := k1 (i - sa) x (by omega) (by rw [show sa + (i - sa) = i by omega]; exact ex)
        by_cases hj' : j = sb
        · subst hj'
          rw [eb] at ey; cases ey
          exact c
        · exact o.trans x b0 y (hall _ _ ex) (hall _ _ eb) (hall _ _ ey) c (s2 sb j b0 y (Nat.le_refl _) (by omega) j2 eb ey)
    have high : ∀ i x j y, sa ≤ i → i < sb + nb → arr[i]? = some x → sb + nb ≤ j → j < sb + n → arr[j]? = some y → leO LT x y := fun i x j y i1 i2 ex j1 j2 ey => by
      by_cases hi : sb ≤ i
      · exact s2 i j x y hi (by omega) j2 ex ey
      · have c := k2 (j - sb) y (by omega) (by omega) (by rw [show sb + (j - sb) = j by omega]; exact ey)
        by_cases hi' : i = sb - 1
        · subst hi'
          rw [ea] at ex; cases ex
          exact c
        · exact o.trans x al y (hall _ _ ex) (hall _ _ ea) (hall _ _ ey) (s1 i (sb - 1) x al i1 (by omega) (by omega) ex ea) c
    intro i j x y hi hij hj ex ey
    rw [at' i] at ex
    rw [at' j] at ey
    by_cases ci : sa + k ≤ i ∧ i < sb + nb
    · rw [if_pos ci] at ex
      by_cases cj : sa + k ≤ j ∧ j < sb + nb
      · rw [if_pos cj] at ey
        obtain ⟨g1, rfl⟩ := List.getElem?_eq_some_iff.mp ex
        obtain ⟨g2, rfl⟩ := List.getElem?_eq_some_iff.mp ey
        exact List.pairwise_iff_getElem.mp m.2 _ _ g1 g2 (by omega)
      · rw [if_neg cj] at ey
        obtain ⟨i', i1, i2, e⟩ := from_ i x ci.1 ci.2 ex
        exact high i' x j y (by omega) i2 e (by omega) hj ey
    · rw [if_neg ci] at ex
      by_cases hlow : i < sa + k
      · by_cases cj : sa + k ≤ j ∧ j < sb + nb
        · rw [if_pos cj] at ey
          obtain ⟨j', j1, j2, e⟩ := from_ j y cj.1 cj.2 ey
          exact low i x j' y hi hlow ex j1 (by omega) e
        · rw [if_neg cj] at ey
          by_cases hj2 : j < sa + k
          · exact s1 i j x y hi hij (by omega) ex ey
          · exact low i x j y hi hlow ex (by omega) hj ey
      · rw [if_neg (by omega)] at ey
        exact s2 i j x y (by omega) hij hj ex ey
/-- all of the first run is not above the second's first, or all of the second is not below the first's last -/
theorem mid_low (o : Ord S LT) {arr : Array Keyed} {sa sb n : Nat} {b0 : Keyed} (hall : ∀ (j : Nat) (x : Keyed), arr[j]? = some x → S x) (s1 : SR LT arr sa sb) (s2 : SR LT arr sb (sb + n)) (eb : arr[sb]? = some b0)
    (k1 : ∀ i x, sa ≤ i → i < sb → arr[i]? = some x → LT b0 x = false) : Mid LT arr arr sa (sb + n) := by
  refine ⟨.refl _, fun _ _ => rfl, fun i j x y hi hij hj ex ey => ?_⟩
  by_cases h1 : j < sb
  · exact s1 i j x y hi hij h1 ex ey
  · by_cases h2 : sb ≤ i
    · exact s2 i j x y h2 hij hj ex ey
    · have c := k1 i x hi (by omega) ex
      by_cases hj' : j = sb
      · subst hj'
        rw [eb] at ey; cases ey
        exact c
      · exact o.trans x b0 y (hall _ _ ex) (hall _ _ eb) (hall _ _ ey) c (s2 sb j b0 y (Nat.le_refl _) (by omega) hj eb ey)
end
section
variable {prog : Program} {w : World} {A : Around} {E : Value → Shared → Prop} {s : Shared} {κ : SortKind} {LT : Keyed → Keyed → Bool} {S : Keyed → Prop}
theorem wpS_set {σ : Type} {M : Model} {x : σ} {Q : PUnit → σ → Prop} {st : σ} (h : Q ⟨⟩ x) : wpS M A E s (set x : StateT σ Sem PUnit) Q st := by
  unfold wpS
  rw [StateT.run_set]
  exact wpAny_pure ⟨rfl, h⟩
abbrev pendAt (p : Array (Nat × Nat × Nat)) (i sa n pw : Nat) : Array (Nat × Nat × Nat) := (p.setIfInBounds i (sa, n, pw)).eraseIdxIfInBounds (i + 1)
theorem wpS_mergeAt (o : Ord S LT) (hl : LtIs prog w A E s κ S LT) {i sa na nb pw pw' : Nat} {st : SortSt} {Q : Bool → SortSt → Prop} (hs : kindOf st = κ) (hf : failedOf st = none) (hall : ∀ (j : Nat) (x : Keyed), (arrOf st)[j]? = some x → S x)
    (e1 : (pendingOf st)[i]? = some (sa, na, pw)) (e2 : (pendingOf st)[i + 1]? = some (sa + na, nb, pw')) (h1 : 1 ≤ na) (h2 : 1 ≤ nb) (h3 : sa + na + nb ≤ (arrOf st).size) (s1 : SR LT (arrOf st) sa (sa + na)) (s2 : SR LT (arrOf st) (sa + na) (sa + na + nb))
    (h : ∀ st', kindOf st' = κ → failedOf st' = none → pendingOf st' = pendAt (pendingOf st) i sa (na + nb) pw → Mid LT (arrOf st) (arrOf st') sa (sa + na + nb) → Q true st') : wpS (model prog w) A E s (mergeAt' i) Q st := by
  unfold mergeAt'
  k_delta "mergeAt"
  refine wpS_bind (wpS_get ?_)
  rw [e1, e2]
  dsimp only
  have at_ : ∀ {c : Array Keyed} {i : Nat}, i < c.size → ∃ x, c[i]? = some x := fun {c i} hi => ⟨c[i], Array.getElem?_eq_getElem hi⟩
  refine wpS_bind (wpS_set ?_)
  obtain ⟨b0, eb⟩ := at_ (c := arrOf st) (i := sa + na) (by omega)
  refine wpS_bind (wpS_elem eb ?_)
  refine wpS_bind (wpS_gallop (arr := arrOf st) hl (hall _ _ eb) hall (by omega) (by omega) hs (bey_mono (arr := arrOf st) o (hall _ _ eb) hall (by omega) fun i j x y h1 h2 ex ey => s1 _ _ x y (by omega) (show sa + i < sa + j by omega) (by omega) ex ey) fun k hk k1 k2 => ?_)
  dsimp only
  by_cases hq : na - k = 0
  · rw [if_pos (by simpa using hq)]
    refine wpS_pure (h _ hs hf rfl (mid_low o hall s1 s2 eb fun i x i1 i2 ex => bey_f (k1 (i - sa) (by omega)) (by rw [show sa + (i - sa) = i by omega]; exact ex)))
  rw [if_neg (by simpa using hq)]
  obtain ⟨al, ea⟩ := at_ (c := arrOf st) (i := sa + na - 1) (by omega)
  have ea' : (arrOf st)[sa + k + (na - k) - 1]? = some al := by rw [show sa + k + (na - k) - 1 = sa + na - 1 by omega]; exact ea
  refine wpS_bind (wpS_elem ea' ?_)
  refine wpS_bind (wpS_gallop (arr := arrOf st) hl (hall _ _ ea) hall (by omega) (by omega) hs (bey_mono (arr := arrOf st) o (hall _ _ ea) hall (by omega) fun i j x y h1 h2 ex ey => s2 _ _ x y (by omega) (show sa + na + i < sa + na + j by omega) (by omega) ex ey) fun n hn n1 n2 => ?_)
  dsimp only
  obtain ⟨x0, ex0⟩ := at_ (c := arrOf st) (i := sa + k) (by omega)
  have lt0 : LT b0 x0 = true := bey_f (k2 k (Nat.le_refl _) (by omega)) ex0
  by_cases hq2 : n = 0
  · rw [if_pos (by simpa using hq2)]
    exfalso
    subst hq2
    have c1 : LT b0 al = false := bey_t (n2 0 (Nat.le_refl _) (by omega)) eb
    by_cases e : k + 1 = na
    · rw [show sa + na - 1 = sa + k by omega, ex0] at ea
      cases ea
      rw [lt0] at c1; cases c1
    · have c2 := s1 (sa + k) (sa + na - 1) x0 al (by omega) (by omega) (by omega) ex0 ea
      have c3 := o.trans x0 al b0 (hall _ _ ex0) (hall _ _ ea) (hall _ _ eb) c2 c1
      rw [lt0] at c3; cases c3
  rw [if_neg (by simpa using hq2)]
  have X := s1.pw (p := sa + k) (q := sa + na) (by omega) (Nat.le_refl _)
  have Y := s2.pw (p := sa + na) (q := sa + na + n) (Nat.le_refl _) (by omega)
  have SX : ∀ x ∈ ((arrOf st).extract (sa + k) (sa + na)).toList, S x := fun x hx => by obtain ⟨i, _, _, e⟩ := ext_mem hx; exact hall _ _ e
  have SY : ∀ x ∈ ((arrOf st).extract (sa + na) (sa + na + n)).toList, S x := fun x hx => by obtain ⟨i, _, _, e⟩ := ext_mem hx; exact hall _ _ e
  have zX : ((arrOf st).extract (sa + k) (sa + na)).size = na - k := by rw [Array.size_extract]; omega
  have zY : ((arrOf st).extract (sa + na) (sa + na + n)).size = n := by rw [Array.size_extract]; omega
  have X0 : ((arrOf st).extract (sa + k) (sa + na))[0]? = some x0 := by rw [ext_get (by omega) (by omega)]; exact ex0
  have Y0 : ((arrOf st).extract (sa + na) (sa + na + n))[0]? = some b0 := by rw [ext_get (by omega) (by omega)]; exact eb
  have XL : ((arrOf st).extract (sa + k) (sa + na))[((arrOf st).extract (sa + k) (sa + na)).size - 1]? = some al := by rw [zX, ext_get (by omega) (by omega), show sa + k + (na - k - 1) = sa + na - 1 by omega]; exact ea
  obtain ⟨bl, ebl⟩ := at_ (c := arrOf st) (i := sa + na + (n - 1)) (by omega)
  have YL : ((arrOf st).extract (sa + na) (sa + na + n))[((arrOf st).extract (sa + na) (sa + na + n)).size - 1]? = some bl := by rw [zY, ext_get (by omega) (by omega)]; exact ebl
  have lastA : ∀ x, ((arrOf st).extract (sa + k) (sa + na))[((arrOf st).extract (sa + k) (sa + na)).size - 1]? = some x → ∀ y ∈ ((arrOf st).extract (sa + na) (sa + na + n)).toList, leO LT y x := fun x ex y hy => by
    rw [XL] at ex; cases ex
    obtain ⟨j, j1, j2, e⟩ := ext_mem hy
    exact o.asym _ _ (hall _ _ e) (hall _ _ ea) (bey_t (n1 (j - (sa + na)) (by omega)) (by rw [show sa + na + (j - (sa + na)) = j by omega]; exact e))
  have firstB : ∀ y, ((arrOf st).extract (sa + na) (sa + na + n))[0]? = some y → ∀ x ∈ ((arrOf st).extract (sa + k) (sa + na)).toList, LT x y = false := fun y ey x hx => by
    rw [Y0] at ey; cases ey
    obtain ⟨j, j1, j2, e⟩ := ext_mem hx
    exact o.asym _ _ (hall _ _ eb) (hall _ _ e) (bey_f (k2 (j - sa) (by omega) (by omega)) (by rw [show sa + (j - sa) = j by omega]; exact e))
  have ltl : LT bl al = true := bey_t (n1 (n - 1) (by omega)) ebl
  have fin : ∀ r st', Sg (SortSt.mk' (kindOf st) (arrOf st) (pendAt (pendingOf st) i sa (na + nb) pw) (gallopOf st) (failedOf st)) st' → Mg LT ((arrOf st).extract (sa + k) (sa + na)) ((arrOf st).extract (sa + na) (sa + na + n)) r →
      Q (failedOf st').isNone (SortSt.mk' (kindOf st') (putAll (arrOf st') (sa + k) r.toList.zipIdx) (pendingOf st') (gallopOf st') (failedOf st')) := fun r st' g m => by
    have gf : failedOf st' = none := g.failed.trans hf
    have ga : arrOf st' = arrOf st := g.arr
    rw [gf, ga]
    refine h _ (g.kind.trans hs) rfl g.pend ?_
    exact mid_of o hall (by omega) hn (by omega) (by omega) s1 s2 eb ea (fun i x i1 e => bey_f (k1 i i1) e) (fun i x i1 i2 e => bey_t (n2 i i1 i2) e) m
  by_cases hle : na - k ≤ n
  · rw [if_pos hle]
    refine wpS_bind (wpS_mergeLo o hl hs SX SY X Y X0 Y0 lt0 lastA fun r st' g m => ?_)
    exact wpS_bind (wpS_modify (wpS_bind (wpS_get (wpS_pure (fin r st' g m)))))
  · rw [if_neg hle]
    refine wpS_bind (wpS_mergeHi o hl hs SX SY X Y XL YL ltl firstB fun r st' g m => ?_)
    exact wpS_bind (wpS_modify (wpS_bind (wpS_get (wpS_pure (fin r st' g m)))))
end
end L2

namespace L2
open PySem PySem.Spec PyProof.Rows
/-! ### a run, counted and put in order from any place -/
structure Rn (a0 a : Array Keyed) (lo hi : Nat) : Prop where
  perm : a.toList.Perm a0.toList
  out : ∀ i, i < lo ∨ hi ≤ i → a[i]? = a0[i]?
theorem Rn.refl (a : Array Keyed) (lo hi : Nat) : Rn a a lo hi := ⟨.refl _, fun _ _ => rfl⟩
theorem Rn.size {a0 a : Array Keyed} {lo hi : Nat} (h : Rn a0 a lo hi) : a.size = a0.size := by have := h.perm.length_eq; simpa using this
theorem Rn.all {a0 a : Array Keyed} {lo hi : Nat} {S : Keyed → Prop} (h : Rn a0 a lo hi) (hall : ∀ (j : Nat) (x : Keyed), a0[j]? = some x → S x) : ∀ (j : Nat) (x : Keyed), a[j]? = some x → S x := fun j x e => by
  have := h.perm.mem_iff.mp (mem_at e)
  rw [Array.mem_toList_iff] at this
  obtain ⟨i, hi, e⟩ := Array.getElem_of_mem this
  exact hall i x (by rw [Array.getElem?_eq_getElem hi, e])
theorem Rn.mirror {a0 a : Array Keyed} {lo hi i j : Nat} (h : Rn a0 a lo hi) (h1 : lo ≤ i) (h2 : j ≤ hi) (h3 : j ≤ a.size) : Rn a0 (mirror a i j ((j - i) / 2)) lo hi := by
  refine ⟨(Array.perm_iff_toList_perm.mp (mirror_perm _ _ _ _)).trans h.perm, fun k hk => ?_⟩
  rw [getElem?_mirror_all h3, if_neg (by omega)]
  exact h.out k hk
theorem Rn.bubble {a0 a : Array Keyed} {lo hi src d : Nat} (h : Rn a0 a lo hi) (h1 : lo + d ≤ src) (h2 : src < hi) (h3 : src < a.size) : Rn a0 (bubble a src d) lo hi := by
  refine ⟨(Array.perm_iff_toList_perm.mp (bubble_perm _ _ _)).trans h.perm, fun k hk => ?_⟩
  rw [getElem?_bubble h3 d (by omega), if_neg (by omega), if_neg (by omega)]
  exact h.out k hk
/-- in order from above -/
def ND (LT : Keyed → Keyed → Bool) (arr : Array Keyed) (lo hi : Nat) : Prop := ∀ i j x y, lo ≤ i → i < j → j < hi → arr[i]? = some x → arr[j]? = some y → leO LT y x
/-- all alike -/
def AL (LT : Keyed → Keyed → Bool) (arr : Array Keyed) (lo hi : Nat) : Prop := ∀ i j x y, lo ≤ i → i < hi → lo ≤ j → j < hi → arr[i]? = some x → arr[j]? = some y → leO LT x y
section
variable {S : Keyed → Prop} {LT : Keyed → Keyed → Bool} {arr : Array Keyed} {lo hi n m : Nat}
theorem Ord.irr (o : Ord S LT) {x : Keyed} (hx : S x) : LT x x = false := by
  cases e : LT x x with
  | false => rfl
  | true => rw [o.asym x x hx hx e] at e; cases e
theorem SR.one : SR LT arr lo (lo + 1) := fun i j x y h1 h2 h3 => by omega
theorem SR.grow (o : Ord S LT) (hall : ∀ (j : Nat) (x : Keyed), arr[j]? = some x → S x) {x y : Keyed} (h : SR LT arr lo (lo + n)) (h1 : 1 ≤ n) (ex : arr[lo + n]? = some x) (ey : arr[lo + n - 1]? = some y) (e : LT x y = false) : SR LT arr lo (lo + n + 1) := by
  intro i j u v hi hij hj eu ev
  by_cases c : j < lo + n
  · exact h i j u v hi hij c eu ev
  · have : j = lo + n := by omega
    subst this
    rw [ex] at ev; cases ev
    by_cases c2 : i = lo + n - 1
    · subst c2
      rw [ey] at eu; cases eu
      exact e
    · exact o.trans u y x (hall _ _ eu) (hall _ _ ey) (hall _ _ ex) (h i (lo + n - 1) u y hi (by omega) (by omega) eu ey) e
theorem ND.grow (o : Ord S LT) (hall : ∀ (j : Nat) (x : Keyed), arr[j]? = some x → S x) {x y : Keyed} (h : ND LT arr lo (lo + n)) (h1 : 1 ≤ n) (ex : arr[lo + n]? = some x) (ey : arr[lo + n - 1]? = some y) (e : LT y x = false) : ND LT arr lo (lo + n + 1) := by
  intro i j u v hi hij hj eu ev
  by_cases c : j < lo + n
  · exact h i j u v hi hij c eu ev
  · have : j = lo + n := by omega
    subst this
    rw [ex] at ev; cases ev
    by_cases c2 : i = lo + n - 1
    · subst c2
      rw [ey] at eu; cases eu
      exact e
    · exact o.trans x y u (hall _ _ ex) (hall _ _ ey) (hall _ _ eu) e (h i (lo + n - 1) u y hi (by omega) (by omega) eu ey)
theorem ND.turn (h : ND LT arr lo hi) (hz : hi ≤ arr.size) : SR LT (PyProof.Rows.mirror arr lo hi ((hi - lo) / 2)) lo hi := by
  intro i j x y h1 h2 h3 ex ey
  rw [getElem?_mirror_all hz, if_pos (by omega)] at ex ey
  exact h (lo + hi - 1 - j) (lo + hi - 1 - i) y x (by omega) (by omega) (by omega) ey ex
theorem ND.alike (h : ND LT arr lo hi) (ha : AL LT arr n hi) (hn : lo ≤ n) (hz : hi ≤ arr.size) : ND LT (PyProof.Rows.mirror arr n hi ((hi - n) / 2)) lo hi := by
  intro i j x y h1 h2 h3 ex ey
  rw [getElem?_mirror_all hz] at ex ey
  by_cases ci : n ≤ i ∧ i < hi
  · rw [if_pos ci] at ex
    rw [if_pos (by omega)] at ey
    exact ha _ _ y x (by omega) (by omega) (by omega) (by omega) ey ex
  · rw [if_neg ci] at ex
    by_cases cj : n ≤ j ∧ j < hi
    · rw [if_pos cj] at ey
      exact h i _ x y h1 (by omega) (by omega) ex ey
    · rw [if_neg cj] at ey
      exact h i j x y h1 h2 h3 ex ey
theorem AL.one (o : Ord S LT) (hall : ∀ (j : Nat) (x : Keyed), arr[j]? = some x → S x) : AL LT arr n (n + 1) := fun i j x y h1 h2 h3 h4 ex ey => by
  have : i = j := by omega
  subst this
  rw [ex] at ey; cases ey
  exact o.irr (hall _ _ ex)
theorem AL.grow (o : Ord S LT) (hall : ∀ (j : Nat) (x : Keyed), arr[j]? = some x → S x) {x y : Keyed} (h : AL LT arr n hi) (h1 : n < hi) (ex : arr[hi]? = some x) (ey : arr[hi - 1]? = some y) (e1 : LT x y = false) (e2 : LT y x = false) : AL LT arr n (hi + 1) := by
  intro i j u v i1 i2 j1 j2 eu ev
  by_cases ci : i < hi
  · by_cases cj : j < hi
    · exact h i j u v i1 ci j1 cj eu ev
    · have : j = hi := by omega
      subst this
      rw [ex] at ev; cases ev
      exact o.trans u y x (hall _ _ eu) (hall _ _ ey) (hall _ _ ex) (h i (j - 1) u y i1 ci (by omega) (by omega) eu ey) e1
  · have : i = hi := by omega
    subst this
    rw [ex] at eu; cases eu
    by_cases cj : j < i
    · exact o.trans x y v (hall _ _ ex) (hall _ _ ey) (hall _ _ ev) e2 (h (i - 1) j y v (by omega) (by omega) j1 cj ey ev)
    · have : j = i := by omega
      subst this
      rw [ex] at ev; cases ev
      exact o.irr (hall _ _ ex)
end
section
variable {prog : Program} {w : World} {A : Around} {E : Value → Shared → Prop} {s : Shared} {κ : SortKind} {LT : Keyed → Keyed → Bool} {S : Keyed → Prop}
theorem wpS_ltG (hl : LtIs prog w A E s κ S LT) {st : SortSt} {i j : Nat} {x y : Keyed} {Q : Option Bool → SortSt → Prop} (hs : kindOf st = κ) (ex : (arrOf st)[i]? = some x) (ey : (arrOf st)[j]? = some y) (sx : S x) (sy : S y) (h : Q (some (LT x y)) st) : wpS (model prog w) A E s (ltAt' i j) Q st := by
  rw [ltAt'_eq]
  refine wpS_bind (wpS_get ?_)
  exact wpS_bind (wpS_elem ex (wpS_bind (wpS_elem ey (hl x y st Q sx sy hs h))))
theorem wpS_asc (o : Ord S LT) {arr : Array Keyed} {lo a nrem : Nat} {st : SortSt} {Q : Option (Option Nat) × Nat → SortSt → Prop} {F : Nat → Option (Option Nat) × Nat → StateT SortSt Sem (ForInStep (Option (Option Nat) × Nat))} (hall : ∀ (j : Nat) (x : Keyed), arr[j]? = some x → S x)
    (hF : ∀ (i n : Nat) (x y : Keyed) (Q' : ForInStep (Option (Option Nat) × Nat) → SortSt → Prop), arr[lo + n]? = some x → arr[lo + n - 1]? = some y → (LT x y = true → Q' (.done (none, n)) st) → (LT x y = false → Q' (.yield (none, n + 1)) st) → wpS (model prog w) A E s (F i (none, n)) Q' st)
    (h1 : 1 ≤ a) (h2 : a ≤ nrem) (hz : lo + nrem ≤ arr.size) (sr : SR LT arr lo (lo + a))
    (h : ∀ n, a ≤ n → n ≤ nrem → SR LT arr lo (lo + n) → (n = nrem ∨ ∃ x y, arr[lo + n]? = some x ∧ arr[lo + n - 1]? = some y ∧ LT x y = true) → Q (none, n) st) : wpS (model prog w) A E s (forIn [a:nrem] (none, a) F) Q st := by
  refine wpS_forRange (I := fun n c st' => st' = st ∧ c = (none, n) ∧ SR LT arr lo (lo + n)) ?_ ?_ ⟨rfl, rfl, sr⟩
  · rintro n c st' hn1 hn2 ⟨rfl, rfl, sr⟩
    have ex : arr[lo + n]? = some (arr[lo + n]'(by omega)) := Array.getElem?_eq_getElem _
    have ey : arr[lo + n - 1]? = some (arr[lo + n - 1]'(by omega)) := Array.getElem?_eq_getElem _
    exact hF n n _ _ _ ex ey (fun e => h n hn1 (by omega) sr (.inr ⟨_, _, ex, ey, e⟩)) fun e => ⟨rfl, rfl, sr.grow o hall (by omega) ex ey e⟩
  · rintro c st' ⟨rfl, rfl, sr⟩
    have e : max a nrem = nrem := by omega
    rw [e] at sr ⊢
    exact h nrem h2 (Nat.le_refl _) sr (.inl rfl)
theorem wpS_desc (o : Ord S LT) {lo n0 nrem : Nat} {st : SortSt} {a0 : Array Keyed} {Q : Option (Option Nat) × Nat × Nat → SortSt → Prop} {F : Nat → Option (Option Nat) × Nat × Nat → StateT SortSt Sem (ForInStep (Option (Option Nat) × Nat × Nat))} (hall : ∀ (j : Nat) (x : Keyed), (arrOf st)[j]? = some x → S x)
    (hF : ∀ (i n q : Nat) (a : Array Keyed) (x y : Keyed) (Q' : ForInStep (Option (Option Nat) × Nat × Nat) → SortSt → Prop), a[lo + n]? = some x → a[lo + n - 1]? = some y → S x → S y →
      (LT x y = true → q > 0 → Q' (.yield (none, n + 1, 0)) (setArr st (PyProof.Rows.mirror a (lo + n - (q + 1)) (lo + n) ((lo + n - (lo + n - (q + 1))) / 2)))) → (LT x y = true → ¬ q > 0 → Q' (.yield (none, n + 1, 0)) (setArr st a)) →
      (LT x y = false → LT y x = true → Q' (.done (none, n, q)) (setArr st a)) → (LT x y = false → LT y x = false → Q' (.yield (none, n + 1, q + 1)) (setArr st a)) → wpS (model prog w) A E s (F i (none, n, q)) Q' (setArr st a))
    (h1 : 1 ≤ n0) (h2 : n0 ≤ nrem) (hz : lo + nrem ≤ (arrOf st).size) (rn : Rn (arrOf st) a0 lo (lo + nrem)) (nd : ND LT a0 lo (lo + n0))
    (h : ∀ n q a, Rn (arrOf st) a lo (lo + nrem) → n0 ≤ n → n ≤ nrem → ND LT a lo (lo + n) → q + 1 ≤ n → AL LT a (lo + n - (q + 1)) (lo + n) → Q (none, n, q) (setArr st a)) : wpS (model prog w) A E s (forIn [n0:nrem] (none, n0, 0) F) Q (setArr st a0) := by
  refine wpS_forRange (I := fun n c st' => ∃ q a, st' = setArr st a ∧ c = (none, n, q) ∧ Rn (arrOf st) a lo (lo + nrem) ∧ ND LT a lo (lo + n) ∧ q + 1 ≤ n ∧ AL LT a (lo + n - (q + 1)) (lo + n)) ?_ ?_ ⟨0, a0, rfl, rfl, rn, nd, h1, by
    rw [show lo + n0 = lo + n0 - (0 + 1) + 1 by omega, show lo + n0 - (0 + 1) + 1 - (0 + 1) = lo + n0 - (0 + 1) by omega]
    exact AL.one o (rn.all hall)⟩
  · rintro n c st' hn1 hn2 ⟨q, a, rfl, rfl, rn, nd, hq, al⟩
    have hsz := rn.size
    have ex : a[lo + n]? = some (a[lo + n]'(by omega)) := Array.getElem?_eq_getElem _
    have ey : a[lo + n - 1]? = some (a[lo + n - 1]'(by omega)) := Array.getElem?_eq_getElem _
    have ha := rn.all hall
    have al1 : ∀ b : Array Keyed, (∀ (j : Nat) (x : Keyed), b[j]? = some x → S x) → AL LT b (lo + (n + 1) - (0 + 1)) (lo + (n + 1)) := fun b hb => by
      rw [show lo + (n + 1) - (0 + 1) = lo + n by omega]
      exact AL.one o hb
    refine hF n n q a _ _ _ ex ey (ha _ _ ex) (ha _ _ ey) (fun e hq0 => ?_) (fun e hq0 => ?_) (fun e1 e2 => h n q a rn hn1 (by omega) nd hq al) fun e1 e2 => ?_
    · have rn2 := rn.mirror (i := lo + n - (q + 1)) (j := lo + n) (by omega) (by omega) (by omega)
      refine ⟨0, _, rfl, rfl, rn2, ?_, by omega, al1 _ (rn2.all hall)⟩
      have e0 := o.asym _ _ (ha _ _ ex) (ha _ _ ey) e
      have ey' : a[lo + n - (q + 1)]? = some (a[lo + n - (q + 1)]'(by omega)) := Array.getElem?_eq_getElem _
      refine (nd.alike al (by omega) (by omega)).grow o (rn2.all hall) (by omega) (x := a[lo + n]'(by omega)) (y := a[lo + n - (q + 1)]'(by omega)) ?_ ?_ ?_
      · rw [getElem?_mirror_all (by omega), if_neg (by omega)]; exact ex
      · rw [getElem?_mirror_all (by omega), if_pos (by omega), show lo + n - (q + 1) + (lo + n) - 1 - (lo + n - 1) = lo + n - (q + 1) by omega]; exact ey'
      · exact o.trans _ _ _ (ha _ _ ex) (ha _ _ ey) (ha _ _ ey') e0 (al _ _ _ _ (by omega) (by omega) (by omega) (by omega) ey ey')
    · exact ⟨0, a, rfl, rfl, rn, nd.grow o ha (by omega) ex ey (o.asym _ _ (ha _ _ ex) (ha _ _ ey) e), by omega, al1 _ ha⟩
    · refine ⟨q + 1, a, rfl, rfl, rn, nd.grow o ha (by omega) ex ey e2, by omega, ?_⟩
      have g := al.grow o ha (by omega) ex ey e1 e2
      rw [show lo + (n + 1) - (q + 1 + 1) = lo + n - (q + 1) by omega]
      exact g
  · rintro c st' ⟨q, a, rfl, rfl, rn, nd, hq, al⟩
    have e : max n0 nrem = nrem := by omega
    rw [e] at nd hq al ⊢
    exact h nrem q a rn h2 (Nat.le_refl _) nd hq al
theorem wpS_countRunG (o : Ord S LT) (hl : LtIs prog w A E s κ S LT) {lo nrem : Nat} {st : SortSt} {Q : Option Nat → SortSt → Prop} (hs : kindOf st = κ) (hall : ∀ (j : Nat) (x : Keyed), (arrOf st)[j]? = some x → S x) (h1 : 1 ≤ nrem) (hz : lo + nrem ≤ (arrOf st).size)
    (h : ∀ m a, Rn (arrOf st) a lo (lo + nrem) → 1 ≤ m → m ≤ nrem → SR LT a lo (lo + m) → Q (some m) (setArr st a)) : wpS (model prog w) A E s (countRun' lo nrem) Q st := by
  unfold countRun'
  k_delta "countRun"
  refine wpS_bind (wpS_asc o hall (fun i n x y Q' ex ey q1 q2 => ?_) (Nat.le_refl 1) h1 hz SR.one fun n hn1 hn2 sr hor => ?_)
  · dsimp only
    refine wpS_bind (wpS_ltG hl hs ex ey (hall _ _ ex) (hall _ _ ey) ?_)
    dsimp only
    cases e : LT x y with
    | true => exact wpS_pure (q1 e)
    | false => exact wpS_pure (q2 e)
  dsimp only
  by_cases hnn : n = nrem
  · rw [if_pos (by simpa using hnn)]
    exact wpS_pure (h n _ (Rn.refl _ _ _) hn1 hn2 sr)
  rw [if_neg (by simpa using hnn)]
  obtain ⟨x, y, ex, ey, e⟩ := hor.resolve_left hnn
  have ex1 := o.asym _ _ (hall _ _ ex) (hall _ _ ey) e
  by_cases hgt : n > 1
  · rw [if_pos hgt]
    have ea : (arrOf st)[lo]? = some ((arrOf st)[lo]'(by omega)) := Array.getElem?_eq_getElem _
    refine wpS_bind (wpS_ltG hl hs ea ey (hall _ _ ea) (hall _ _ ey) ?_)
    dsimp only
    cases er : LT ((arrOf st)[lo]'(by omega)) y with
    | true =>
      rw [if_pos rfl]
      exact wpS_pure (h n _ (Rn.refl _ _ _) hn1 hn2 sr)
    | false =>
      rw [if_neg (by decide)]
      have rf : ∀ {x}, S x → LT x x = false := fun hx => o.irr hx
      have al0 : AL LT (arrOf st) lo (lo + n) := fun i j u v i1 i2 j1 j2 eu ev => by
        have c1 : leO LT u y := by
          by_cases c : i = lo + n - 1
          · subst c; rw [ey] at eu; cases eu; exact rf (hall _ _ ey)
          · exact sr i (lo + n - 1) u y i1 (by omega) (by omega) eu ey
        have c2 : leO LT ((arrOf st)[lo]'(by omega)) v := by
          by_cases c : j = lo
          · subst c; rw [ea] at ev; cases ev; exact rf (hall _ _ ea)
          · exact sr lo j _ v (Nat.le_refl _) (by omega) j2 ea ev
        exact o.trans u _ v (hall _ _ eu) (hall _ _ ea) (hall _ _ ev) (o.trans u y _ (hall _ _ eu) (hall _ _ ey) (hall _ _ ea) c1 er) c2
      have nd0 : ND LT (arrOf st) lo (lo + n) := fun i j u v i1 i2 j2 eu ev => al0 j i v u (by omega) j2 i1 (by omega) ev eu
      have rn0 := (Rn.refl (arrOf st) lo (lo + nrem)).mirror (i := lo) (j := lo + n) (by omega) (by omega) (by omega)
      have nd1 : ND LT (PyProof.Rows.mirror (arrOf st) lo (lo + n) ((lo + n - lo) / 2)) lo (lo + n + 1) := by
        refine (nd0.alike al0 (Nat.le_refl _) (by omega)).grow o (rn0.all hall) hn1 (x := x) (y := (arrOf st)[lo]'(by omega)) ?_ ?_ ?_
        · rw [getElem?_mirror_all (by omega), if_neg (by omega)]; exact ex
        · rw [getElem?_mirror_all (by omega), if_pos (by omega), show lo + (lo + n) - 1 - (lo + n - 1) = lo by omega]; exact ea
        · exact o.trans x y _ (hall _ _ ex) (hall _ _ ey) (hall _ _ ea) ex1 er
      refine wpS_bind (wpS_reverse ?_)
      refine wpS_bind (wpS_lift (wpAny_rule ⟨rfl, ?_⟩))
      refine wpS_bind (wpS_desc (st := st) o hall (fun i n q a x y Q' ex ey sx sy q1 q2 q3 q4 => ?_) (by omega) (by omega) hz rn0 nd1 fun m q a rn hm1 hm2 nd hq al => ?_)
      · dsimp only
        refine wpS_bind (wpS_ltG (st := setArr st a) hl hs ex ey sx sy ?_)
        dsimp only
        cases e : LT x y with
        | true =>
          rw [if_pos rfl]
          by_cases hq : q > 0
          · rw [if_pos hq]
            exact wpS_bind (wpS_reverse (wpS_pure (q1 e hq)))
          · rw [if_neg hq]
            exact wpS_pure (q2 e hq)
        | false =>
          rw [if_neg (by decide)]
          refine wpS_bind (wpS_ltG (st := setArr st a) hl hs ey ex sy sx ?_)
          dsimp only
          cases e' : LT y x with
          | true => exact wpS_pure (q3 e e')
          | false => exact wpS_pure (q4 e e')
      dsimp only
      have hsz := rn.size
      by_cases hq0 : q > 0
      · rw [if_pos hq0]
        have rn2 := rn.mirror (i := lo + m - (q + 1)) (j := lo + m) (by omega) (by omega) (by omega)
        have nd2 := nd.alike al (by omega) (by omega)
        have z2 := rn2.size
        have rn3 := rn2.mirror (i := lo) (j := lo + m) (by omega) (by omega) (by omega)
        refine wpS_bind (wpS_reverse ?_)
        refine wpS_bind (wpS_reverse ?_)
        refine wpS_bind (wpS_asc (st := setArr st (PyProof.Rows.mirror (PyProof.Rows.mirror a (lo + m - (q + 1)) (lo + m) ((lo + m - (lo + m - (q + 1))) / 2)) lo (lo + m) ((lo + m - lo) / 2))) (arr := (PyProof.Rows.mirror (PyProof.Rows.mirror a (lo + m - (q + 1)) (lo + m) ((lo + m - (lo + m - (q + 1))) / 2)) lo (lo + m) ((lo + m - lo) / 2))) o (rn3.all hall) (fun i n x y Q' ex ey q1 q2 => ?_) (by omega) hm2 (by rw [rn3.size]; omega) (nd2.turn (by omega)) fun n hn1 hn2 sr hor => wpS_pure (h _ _ rn3 (by omega) hn2 sr))
        dsimp only
        refine wpS_bind (wpS_ltG hl hs ex ey (rn3.all hall _ _ ex) (rn3.all hall _ _ ey) ?_)
        dsimp only
        cases e : LT x y with
        | true => exact wpS_pure (q1 e)
        | false => exact wpS_pure (q2 e)
      · rw [if_neg hq0]
        have rn3 := rn.mirror (i := lo) (j := lo + m) (by omega) (by omega) (by omega)
        refine wpS_bind (wpS_reverse ?_)
        refine wpS_bind (wpS_asc (st := setArr st (PyProof.Rows.mirror a lo (lo + m) ((lo + m - lo) / 2))) (arr := (PyProof.Rows.mirror a lo (lo + m) ((lo + m - lo) / 2))) o (rn3.all hall) (fun i n x y Q' ex ey q1 q2 => ?_) (by omega) hm2 (by rw [rn3.size]; omega) (nd.turn (by omega)) fun n hn1 hn2 sr hor => wpS_pure (h _ _ rn3 (by omega) hn2 sr))
        dsimp only
        refine wpS_bind (wpS_ltG hl hs ex ey (rn3.all hall _ _ ex) (rn3.all hall _ _ ey) ?_)
        dsimp only
        cases e : LT x y with
        | true => exact wpS_pure (q1 e)
        | false => exact wpS_pure (q2 e)
  · rw [if_neg hgt]
    have n1 : n = 1 := by omega
    subst n1
    have nd1 : ND LT (arrOf st) lo (lo + 1 + 1) := ND.grow o hall (fun i j u v h1 h2 h3 => by omega) (Nat.le_refl 1) ex ey ex1
    show wpS (model prog w) A E s _ Q (setArr st (arrOf st))
    refine wpS_bind (wpS_lift (wpAny_rule ⟨rfl, ?_⟩))
    refine wpS_bind (wpS_desc (st := st) o hall (fun i n q a x y Q' ex ey sx sy q1 q2 q3 q4 => ?_) (by omega) (by omega) hz (Rn.refl _ _ _) nd1 fun m q a rn hm1 hm2 nd hq al => ?_)
    · dsimp only
      refine wpS_bind (wpS_ltG (st := setArr st a) hl hs ex ey sx sy ?_)
      dsimp only
      cases e : LT x y with
      | true =>
        rw [if_pos rfl]
        by_cases hq : q > 0
        · rw [if_pos hq]
          exact wpS_bind (wpS_reverse (wpS_pure (q1 e hq)))
        · rw [if_neg hq]
          exact wpS_pure (q2 e hq)
      | false =>
        rw [if_neg (by decide)]
        refine wpS_bind (wpS_ltG (st := setArr st a) hl hs ey ex sy sx ?_)
        dsimp only
        cases e' : LT y x with
        | true => exact wpS_pure (q3 e e')
        | false => exact wpS_pure (q4 e e')
    dsimp only
    have hsz := rn.size
    by_cases hq0 : q > 0
    · rw [if_pos hq0]
      have rn2 := rn.mirror (i := lo + m - (q + 1)) (j := lo + m) (by omega) (by omega) (by omega)
      have nd2 := nd.alike al (by omega) (by omega)
      have z2 := rn2.size
      have rn3 := rn2.mirror (i := lo) (j := lo + m) (by omega) (by omega) (by omega)
      refine wpS_bind (wpS_reverse ?_)
      refine wpS_bind (wpS_reverse ?_)
      refine wpS_bind (wpS_asc (st := setArr st (PyProof.Rows.mirror (PyProof.Rows.mirror a (lo + m - (q + 1)) (lo + m) ((lo + m - (lo + m - (q + 1))) / 2)) lo (lo + m) ((lo + m - lo) / 2))) (arr := (PyProof.Rows.mirror (PyProof.Rows.mirror a (lo + m - (q + 1)) (lo + m) ((lo + m - (lo + m - (q + 1))) / 2)) lo (lo + m) ((lo + m - lo) / 2))) o (rn3.all hall) (fun i n x y Q' ex ey q1 q2 => ?_) (by omega) hm2 (by rw [rn3.size]; omega) (nd2.turn (by omega)) fun n hn1 hn2 sr hor => wpS_pure (h _ _ rn3 (by omega) hn2 sr))
      dsimp only
      refine wpS_bind (wpS_ltG hl hs ex ey (rn3.all hall _ _ ex) (rn3.all hall _ _ ey) ?_)
      dsimp only
      cases e : LT x y with
      | true => exact wpS_pure (q1 e)
      | false => exact wpS_pure (q2 e)
    · rw [if_neg hq0]
      have rn3 := rn.mirror (i := lo) (j := lo + m) (by omega) (by omega) (by omega)
      refine wpS_bind (wpS_reverse ?_)
      refine wpS_bind (wpS_asc (st := setArr st (PyProof.Rows.mirror a lo (lo + m) ((lo + m - lo) / 2))) (arr := (PyProof.Rows.mirror a lo (lo + m) ((lo + m - lo) / 2))) o (rn3.all hall) (fun i n x y Q' ex ey q1 q2 => ?_) (by omega) hm2 (by rw [rn3.size]; omega) (nd.turn (by omega)) fun n hn1 hn2 sr hor => wpS_pure (h _ _ rn3 (by omega) hn2 sr))
      dsimp only
      refine wpS_bind (wpS_ltG hl hs ex ey (rn3.all hall _ _ ex) (rn3.all hall _ _ ey) ?_)
      dsimp only
      cases e : LT x y with
      | true => exact wpS_pure (q1 e)
      | false => exact wpS_pure (q2 e)
end
end L2

namespace L2
open PySem PySem.Spec PyProof.Rows
section
variable {prog : Program} {w : World} {A : Around} {E : Value → Shared → Prop} {s : Shared} {κ : SortKind} {LT : Keyed → Keyed → Bool} {S : Keyed → Prop}
theorem wpS_binarySortG (o : Ord S LT) (hl : LtIs prog w A E s κ S LT) {lo n ok : Nat} {st : SortSt} {Q : Bool → SortSt → Prop} (hs : kindOf st = κ) (hall : ∀ (j : Nat) (x : Keyed), (arrOf st)[j]? = some x → S x) (hn : lo + n ≤ (arrOf st).size) (hok1 : 1 ≤ ok) (hok : ok ≤ n) (sr : SR LT (arrOf st) lo (lo + ok))
    (h : ∀ a, Rn (arrOf st) a lo (lo + n) → SR LT a lo (lo + n) → Q true (setArr st a)) : wpS (model prog w) A E s (binarySort' lo n ok) Q st := by
  unfold binarySort'
  k_delta "binarySort"
  refine wpS_bind (wpS_mono (wpS_forRange (I := fun k c st' => c = (none, ()) ∧ ∃ a, st' = setArr st a ∧ Rn (arrOf st) a lo (lo + n) ∧ SR LT a lo (lo + k))
    (Q := fun c st' => c = (none, ()) ∧ ∃ a, st' = setArr st a ∧ Rn (arrOf st) a lo (lo + n) ∧ SR LT a lo (lo + n)) ?step ?fin ⟨rfl, arrOf st, rfl, Rn.refl _ _ _, by rw [show max ok 1 = ok by omega]; exact sr⟩) ?post)
  case post =>
    rintro c st' ⟨rfl, a, rfl, rn, sr⟩
    exact wpS_pure (h a rn sr)
  case fin =>
    rintro c st' ⟨rfl, a, rfl, rn, sr⟩
    rw [show max (max ok 1) n = n by omega] at sr
    exact ⟨rfl, a, rfl, rn, sr⟩
  rintro k c st' hk1 hk2 ⟨rfl, a, rfl, rn, sr⟩
  dsimp only
  have hsz := rn.size
  have ha := rn.all hall
  have ek : a[lo + k]? = some (a[lo + k]'(by omega)) := Array.getElem?_eq_getElem _
  refine wpS_bind (wpS_mono (wpS_forRange (I := fun x c st'' => st'' = setArr st a ∧ ∃ l r, c = (none, l, r) ∧ l ≤ r ∧ r ≤ k ∧ r - l ≤ k - x ∧
        (∀ i u, i < l → a[lo + i]? = some u → leO LT u (a[lo + k]'(by omega))) ∧ (∀ i u, r ≤ i → i < k → a[lo + i]? = some u → LT (a[lo + k]'(by omega)) u = true))
      (Q := fun c st'' => st'' = setArr st a ∧ ∃ l, c = (none, l, l) ∧ l ≤ k ∧
        (∀ i u, i < l → a[lo + i]? = some u → leO LT u (a[lo + k]'(by omega))) ∧ (∀ i u, l ≤ i → i < k → a[lo + i]? = some u → LT (a[lo + k]'(by omega)) u = true)) ?_ ?_ ⟨rfl, 0, k, rfl, by omega, by omega, by omega, fun i u hi => by omega, fun i u h1 h2 => by omega⟩) ?_)
  · rintro x c st'' _ hx ⟨rfl, l, r, rfl, hlr, hrk, hm, hlo, hhi⟩
    dsimp only
    by_cases hge : l ≥ r
    · rw [if_pos hge]
      have : l = r := by omega
      subst this
      exact wpS_pure ⟨rfl, l, rfl, hrk, hlo, hhi⟩
    · rw [if_neg hge]
      have em : a[lo + (l + r) / 2]? = some (a[lo + (l + r) / 2]'(by omega)) := Array.getElem?_eq_getElem _
      refine wpS_bind (wpS_ltG (st := setArr st a) hl hs ek em (ha _ _ ek) (ha _ _ em) ?_)
      dsimp only
      cases e : LT (a[lo + k]'(by omega)) (a[lo + (l + r) / 2]'(by omega)) with
      | true =>
        rw [if_pos rfl]
        refine wpS_pure ⟨rfl, l, (l + r) / 2, rfl, by omega, by omega, by omega, hlo, fun i u h1 h2 eu => ?_⟩
        by_cases c : i = (l + r) / 2
        · subst c; rw [em] at eu; cases eu; exact e
        · have le := sr (lo + (l + r) / 2) (lo + i) _ u (by omega) (by omega) (by omega) em eu
          cases g : LT (a[lo + k]'(by omega)) u with
          | true => rfl
          | false =>
            have := o.trans _ _ _ (ha _ _ em) (ha _ _ eu) (ha _ _ ek) le g
            rw [e] at this; cases this
      | false =>
        rw [if_neg (by decide)]
        refine wpS_pure ⟨rfl, (l + r) / 2 + 1, r, rfl, by omega, by omega, by omega, fun i u h1 eu => ?_, hhi⟩
        by_cases c : i = (l + r) / 2
        · subst c; rw [em] at eu; cases eu; exact e
        · exact o.trans u _ _ (ha _ _ eu) (ha _ _ em) (ha _ _ ek) (sr (lo + i) (lo + (l + r) / 2) u _ (by omega) (by omega) (by omega) eu em) e
  · rintro c st'' ⟨rfl, l, r, rfl, hlr, hrk, hm, hlo, hhi⟩
    have : l = r := by omega
    subst this
    exact ⟨rfl, l, rfl, hrk, hlo, hhi⟩
  · rintro c st'' ⟨rfl, l, rfl, hlk, hlo, hhi⟩
    dsimp only
    refine wpS_bind (wpS_modify (wpS_pure ⟨rfl, bubble a (lo + k) (lo + k - (lo + l)), rfl, rn.bubble (by omega) (by omega) (by omega), ?_⟩))
    intro i j u v h1 h2 h3 eu ev
    rw [getElem?_bubble (by omega) _ (by omega), show lo + k - (lo + k - (lo + l)) = lo + l by omega] at eu ev
    by_cases c1 : i = lo + l
    · rw [if_pos c1] at eu
      rw [if_neg (by omega), if_pos (by omega)] at ev
      rw [ek] at eu; cases eu
      refine o.asym _ _ (ha _ _ ek) (ha _ _ ev) (hhi (j - 1 - lo) v (by omega) (by omega) (by rw [show lo + (j - 1 - lo) = j - 1 by omega]; exact ev))
    · rw [if_neg c1] at eu
      by_cases c2 : lo + l < i ∧ i ≤ lo + k
      · rw [if_pos c2] at eu
        rw [if_neg (by omega), if_pos (by omega)] at ev
        exact sr _ _ u v (by omega) (by omega) (by omega) eu ev
      · rw [if_neg c2] at eu
        by_cases c3 : j = lo + l
        · rw [if_pos c3] at ev
          rw [ek] at ev; cases ev
          exact hlo (i - lo) u (by omega) (by rw [show lo + (i - lo) = i by omega]; exact eu)
        · rw [if_neg c3] at ev
          by_cases c4 : lo + l < j ∧ j ≤ lo + k
          · rw [if_pos c4] at ev
            exact sr _ _ u v (by omega) (by omega) (by omega) eu ev
          · rw [if_neg c4] at ev
            exact sr _ _ u v (by omega) (by omega) (by omega) eu ev
end
/-! ### the runs that wait -/
abbrev Run3 : Type := Nat × Nat × Nat
def Runs (LT : Keyed → Keyed → Bool) (arr : Array Keyed) : List Run3 → Nat → Nat → Prop
  | [], lo, hi => lo = hi
  | (s, n, _) :: r, lo, hi => s = lo ∧ 1 ≤ n ∧ SR LT arr lo (lo + n) ∧ Runs LT arr r (lo + n) hi
section
variable {LT : Keyed → Keyed → Bool} {arr arr' : Array Keyed}
theorem Runs.le : ∀ {l : List Run3} {lo hi : Nat}, Runs LT arr l lo hi → lo + l.length ≤ hi
  | [], lo, hi, h => by have : lo = hi := h; simp [this]
  | (s, n, p) :: r, lo, hi, h => by have := Runs.le h.2.2.2; have := h.2.1; rw [List.length_cons]; omega
theorem SR.keep {lo hi : Nat} (h : SR LT arr lo hi) (e : ∀ i, lo ≤ i → i < hi → arr'[i]? = arr[i]?) : SR LT arr' lo hi := fun i j x y h1 h2 h3 ex ey => h i j x y h1 h2 h3 (by rw [← e i h1 (by omega)]; exact ex) (by rw [← e j (by omega) h3]; exact ey)
theorem Runs.keep : ∀ {l : List Run3} {lo hi : Nat}, Runs LT arr l lo hi → (∀ i, lo ≤ i → i < hi → arr'[i]? = arr[i]?) → Runs LT arr' l lo hi
  | [], lo, hi, h, _ => h
  | (s, n, p) :: r, lo, hi, h, e => by
    have := h.2.2.2.le
    exact ⟨h.1, h.2.1, h.2.2.1.keep fun i h1 h2 => e i h1 (by omega), h.2.2.2.keep fun i h1 h2 => e i (by omega) h2⟩
theorem Runs.append : ∀ {l m : List Run3} {lo mid hi : Nat}, Runs LT arr l lo mid → Runs LT arr m mid hi → Runs LT arr (l ++ m) lo hi
  | [], m, lo, mid, hi, h, h' => by have : lo = mid := h; subst this; exact h'
  | (s, n, p) :: r, m, lo, mid, hi, h, h' => ⟨h.1, h.2.1, h.2.2.1, h.2.2.2.append h'⟩
theorem Runs.split : ∀ {l m : List Run3} {lo hi : Nat}, Runs LT arr (l ++ m) lo hi → ∃ mid, Runs LT arr l lo mid ∧ Runs LT arr m mid hi
  | [], m, lo, hi, h => ⟨lo, rfl, h⟩
  | (s, n, p) :: r, m, lo, hi, h => by
    obtain ⟨mid, h1, h2⟩ := Runs.split (l := r) (m := m) h.2.2.2
    exact ⟨mid, ⟨h.1, h.2.1, h.2.2.1, h1⟩, h2⟩
theorem Runs.congr : ∀ {l m : List Run3} {lo hi : Nat}, l.map (fun p => (p.1, p.2.1)) = m.map (fun p => (p.1, p.2.1)) → Runs LT arr l lo hi → Runs LT arr m lo hi
  | [], [], _, _, _, h => h
  | [], _ :: _, _, _, e, _ => by simp at e
  | _ :: _, [], _, _, e, _ => by simp at e
  | (s, n, p) :: r, (s', n', p') :: r', lo, hi, e, h => by
    simp only [List.map_cons, List.cons.injEq, Prod.mk.injEq] at e
    obtain ⟨⟨rfl, rfl⟩, e⟩ := e
    exact ⟨h.1, h.2.1, h.2.2.1, Runs.congr e h.2.2.2⟩
theorem two_at {l : List Run3} {i : Nat} (h : i + 1 < l.length) : l = l.take i ++ l[i] :: l[i + 1] :: l.drop (i + 2) := by
  have e1 := (List.take_append_drop i l).symm
  rw [List.drop_eq_getElem_cons (by omega), List.drop_eq_getElem_cons h] at e1
  exact e1
theorem erase_two {l : List Run3} {i : Nat} {v : Run3} (h : i + 1 < l.length) : (l.set i v).eraseIdx (i + 1) = l.take i ++ v :: l.drop (i + 2) := by
  apply List.ext_getElem?
  intro j
  have lt : (l.take i).length = i := by simp; omega
  rw [List.getElem?_eraseIdx]
  by_cases c1 : j < i
  · rw [if_pos (by omega), List.getElem?_set_ne (by omega), List.getElem?_append_left (by omega), List.getElem?_take, if_pos c1]
  · by_cases c2 : j = i
    · subst c2
      rw [if_pos (by omega), List.getElem?_set_self (by omega), List.getElem?_append_right (by omega), lt, Nat.sub_self]
      rfl
    · obtain ⟨d, rfl⟩ : ∃ d, j = i + 1 + d := ⟨j - i - 1, by omega⟩
      rw [if_neg (by omega), List.getElem?_set_ne (by omega), List.getElem?_append_right (by omega), lt, show i + 1 + d - i = d + 1 by omega, List.getElem?_cons_succ, List.getElem?_drop]
      congr 1
      omega
theorem pendAt_list {p : Array Run3} {i sa n pw : Nat} (h : i + 1 < p.size) : (pendAt p i sa n pw).toList = p.toList.take i ++ (sa, n, pw) :: p.toList.drop (i + 2) := by
  have hs : i + 1 < (p.setIfInBounds i (sa, n, pw)).size := by rw [Array.size_setIfInBounds]; exact h
  unfold pendAt
  rw [Array.eraseIdxIfInBounds, dif_pos hs, Array.toList_eraseIdx, Array.toList_setIfInBounds]
  exact erase_two (by simpa using h)
end
end L2

namespace L2
open PySem PySem.Spec PyProof.Rows
section
variable {prog : Program} {w : World} {A : Around} {E : Value → Shared → Prop} {s : Shared} {κ : SortKind} {LT : Keyed → Keyed → Bool} {S : Keyed → Prop} {a0 : Array Keyed}
/-- the sort under way: a rearrangement, nothing failed, the runs up to lo -/
structure Sw (κ : SortKind) (LT : Keyed → Keyed → Bool) (a0 : Array Keyed) (lo : Nat) (st : SortSt) : Prop where
  perm : (arrOf st).toList.Perm a0.toList
  kind : kindOf st = κ
  failed : failedOf st = none
  runs : Runs LT (arrOf st) (pendingOf st).toList 0 lo
theorem Sw.size {lo : Nat} {st : SortSt} (h : Sw κ LT a0 lo st) : (arrOf st).size = a0.size := by have := h.perm.length_eq; simpa using this
theorem Sw.all {lo : Nat} {st : SortSt} (h : Sw κ LT a0 lo st) (hall : ∀ (j : Nat) (x : Keyed), a0[j]? = some x → S x) : ∀ (j : Nat) (x : Keyed), (arrOf st)[j]? = some x → S x := Rn.all (lo := 0) (hi := a0.size) ⟨h.perm, fun i hi => by
  have := h.size
  rw [Array.getElem?_eq_none (by omega), Array.getElem?_eq_none (by omega)]⟩ hall
theorem wpS_mergeAtR (o : Ord S LT) (hl : LtIs prog w A E s κ S LT) {i lo : Nat} {st : SortSt} {Q : Bool → SortSt → Prop} (hall : ∀ (j : Nat) (x : Keyed), a0[j]? = some x → S x) (sw : Sw κ LT a0 lo st) (hlo : lo ≤ a0.size) (hi : i + 1 < (pendingOf st).size)
    (h : ∀ st', Sw κ LT a0 lo st' → (pendingOf st').size + 1 = (pendingOf st).size → (∀ j, lo ≤ j → (arrOf st')[j]? = (arrOf st)[j]?) → Q true st') : wpS (model prog w) A E s (mergeAt' i) Q st := by
  have hi' : i + 1 < (pendingOf st).toList.length := by simpa using hi
  have e := two_at hi'
  have hz := sw.size
  have rr := sw.runs
  rw [e] at rr
  obtain ⟨sa, r1, r2⟩ := rr.split
  generalize ev : (pendingOf st).toList[i] = v at r2 e
  generalize ev' : (pendingOf st).toList[i + 1] = v' at r2 e
  obtain ⟨s1, na, pw⟩ := v
  obtain ⟨s2, nb, pw'⟩ := v'
  obtain ⟨rfl, g1, g2, rfl, g3, g4, g5⟩ := r2
  have g6 := g5.le
  have e1 : (pendingOf st)[i]? = some (s1, na, pw) := by rw [← Array.getElem?_toList, List.getElem?_eq_getElem (by omega), ev]
  have e2 : (pendingOf st)[i + 1]? = some (s1 + na, nb, pw') := by rw [← Array.getElem?_toList, List.getElem?_eq_getElem hi', ev']
  refine wpS_mergeAt o hl sw.kind sw.failed (sw.all hall) e1 e2 g1 g3 (by omega) g2 g4 fun st' k f p m => h st' ⟨m.perm.trans sw.perm, k, f, ?_⟩ ?_ fun j hj => m.out j (.inr (by omega))
  · rw [p, pendAt_list hi]
    refine (r1.keep fun j h1 h2 => m.out j (.inl h2)).append ⟨rfl, by omega, ?_, ?_⟩
    · rw [← Nat.add_assoc]; exact m.so
    · rw [← Nat.add_assoc]
      exact g5.keep fun j h1 h2 => m.out j (.inr h1)
  · have z : (pendingOf st').toList.length = i + (1 + ((pendingOf st).toList.length - (i + 2))) := by
      rw [p, pendAt_list hi, List.length_append, List.length_take, List.length_cons, List.length_drop]; omega
    simp only [Array.length_toList] at z
    omega
theorem mod_last {p : Array Run3} {pw : Nat} : (p.modify (p.size - 1) fun (st, len, _) => (st, len, pw)).toList.map (fun p => (p.1, p.2.1)) = p.toList.map (fun p => (p.1, p.2.1)) := by
  apply List.ext_getElem?
  intro j
  rw [List.getElem?_map, List.getElem?_map, Array.getElem?_toList, Array.getElem?_toList, Array.getElem?_modify]
  split
  · cases p[j]? <;> rfl
  · rfl
theorem Sw.push {lo n : Nat} {st : SortSt} (sw : Sw κ LT a0 lo st) (sr : SR LT (arrOf st) lo (lo + n)) (hn : 1 ≤ n) : Sw κ LT a0 (lo + n) (setPending st ((pendingOf st).push (lo, n, 0))) := by
  refine ⟨sw.perm, sw.kind, sw.failed, ?_⟩
  show Runs LT (arrOf st) ((pendingOf st).push (lo, n, 0)).toList 0 (lo + n)
  rw [Array.toList_push]
  exact sw.runs.append ⟨rfl, hn, sr, rfl⟩
theorem Sw.mod {lo : Nat} {st : SortSt} (sw : Sw κ LT a0 lo st) (pw : Nat) : Sw κ LT a0 lo (setPending st ((pendingOf st).modify ((pendingOf st).size - 1) fun x => (x.1, x.2.1, pw))) :=
  ⟨sw.perm, sw.kind, sw.failed, Runs.congr mod_last.symm sw.runs⟩
theorem wpS_sortRunsG (o : Ord S LT) (hl : LtIs prog w A E s κ S LT) {st : SortSt} {Q : Unit → SortSt → Prop} (hs : kindOf st = κ) (hf : failedOf st = none) (hp : pendingOf st = #[]) (hall : ∀ (j : Nat) (x : Keyed), (arrOf st)[j]? = some x → S x)
    (h : ∀ st', (arrOf st').toList.Perm (arrOf st).toList → failedOf st' = none → (arrOf st').toList.Pairwise (leO LT) → Q () st') : wpS (model prog w) A E s sortRuns' Q st := by
  generalize ea : arrOf st = a0 at hall h
  rw [sortRuns'_eq]
  refine wpS_bind (wpS_get ?_)
  dsimp only
  rw [ea]
  generalize minRun' a0.size a0.size 0 = mr
  have sw0 : Sw κ LT a0 0 st := ⟨by rw [ea], hs, hf, by rw [hp]; rfl⟩
  refine wpS_bind (wpS_mono (wpS_forRange (I := fun i c st' => ∃ lo, c = (none, lo) ∧ i ≤ lo ∧ lo ≤ a0.size ∧ Sw κ LT a0 lo st') (Q := fun c st' => ∃ lo, c = (none, lo) ∧ Sw κ LT a0 a0.size st') ?step ?fin ⟨0, rfl, Nat.le_refl _, Nat.zero_le _, sw0⟩) ?post)
  case fin =>
    rintro c st' ⟨lo, rfl, h1, h2, sw⟩
    have : lo = a0.size := by omega
    subst this
    exact ⟨_, rfl, sw⟩
  case step =>
    rintro i c st' _ hi ⟨lo, rfl, h1, h2, sw⟩
    dsimp only
    by_cases hge : lo ≥ a0.size
    · rw [if_pos hge]
      have : lo = a0.size := by omega
      subst this
      exact wpS_pure ⟨_, rfl, sw⟩
    rw [if_neg hge]
    have hz := sw.size
    refine wpS_bind (wpS_countRunG o hl sw.kind (sw.all hall) (by omega) (by omega) fun m a rn hm1 hm2 sr => ?_)
    dsimp only
    have sw1 : Sw κ LT a0 lo (setArr st' a) := ⟨rn.perm.trans sw.perm, sw.kind, sw.failed, sw.runs.keep fun j j1 j2 => rn.out j (.inl j2)⟩
    by_cases hlt : m < mr
    · rw [if_pos hlt]
      refine wpS_bind (wpS_lift (wpAny_rule ⟨rfl, ?_⟩))
      have z1 := sw1.size
      refine wpS_bind (wpS_binarySortG o hl sw1.kind (sw1.all hall) (by omega) hm1 (by omega) sr fun b rn2 sr2 => ?_)
      rw [if_neg (by decide)]
      have sw2 : Sw κ LT a0 lo (setArr (setArr st' a) b) := ⟨rn2.perm.trans sw1.perm, sw1.kind, sw1.failed, sw1.runs.keep fun j j1 j2 => rn2.out j (.inl j2)⟩
      replace sr2 : SR LT (arrOf (setArr (setArr st' a) b)) lo (lo + min (a0.size - lo) mr) := sr2
      have hn1 : 1 ≤ min (a0.size - lo) mr := by omega
      have hn2 : lo + min (a0.size - lo) mr ≤ a0.size := by omega
      generalize min (a0.size - lo) mr = n at sr2 hn1 hn2 ⊢
      generalize setArr (setArr st' a) b = st1 at sw2 sr2 ⊢
      refine wpS_bind (wpS_get ?_)
      cases eb : (pendingOf st1).back? with
      | none =>
        dsimp only
        exact wpS_bind (wpS_modify (wpS_pure ⟨_, rfl, by omega, by omega, sw2.push sr2 hn1⟩))
      | some v =>
        obtain ⟨s1, n1, p1⟩ := v
        dsimp only
        refine wpS_bind (wpS_mono (wpS_forRange (I := fun j c st2 => c = (none, ()) ∧ Sw κ LT a0 lo st2 ∧ SR LT (arrOf st2) lo (lo + n)) (Q := fun c st2 => c = (none, ()) ∧ Sw κ LT a0 lo st2 ∧ SR LT (arrOf st2) lo (lo + n)) ?_ (fun _ _ hh => hh) ⟨rfl, sw2, sr2⟩) ?_)
        · rintro j c st2 _ _ ⟨rfl, sw3, sr3⟩
          refine wpS_bind (wpS_get ?_)
          by_cases hsz : (pendingOf st2).size > 1
          · rw [if_pos hsz]
            obtain ⟨v, ev⟩ : ∃ v, (pendingOf st2)[(pendingOf st2).size - 2]? = some v := ⟨_, Array.getElem?_eq_getElem (by omega)⟩
            obtain ⟨u1, u2, u3⟩ := v
            rw [ev]
            dsimp only
            by_cases hold : u3 ≤ power' a0.size (2 * s1 + n1) (2 * s1 + n1 + n1 + n) a0.size
            · rw [if_pos hold]
              exact wpS_pure ⟨rfl, sw3, sr3⟩
            · rw [if_neg hold]
              refine wpS_bind (wpS_mergeAtR o hl hall sw3 h2 (by omega) fun st3 sw4 _ out => ?_)
              rw [if_neg (by decide)]
              exact wpS_pure ⟨rfl, sw4, sr3.keep fun j j1 _ => out j j1⟩
          · rw [if_neg hsz]
            exact wpS_pure ⟨rfl, sw3, sr3⟩
        · rintro c st2 ⟨rfl, sw3, sr3⟩
          dsimp only
          exact wpS_bind (wpS_modify (wpS_bind (wpS_modify (wpS_pure ⟨_, rfl, by omega, by omega, (sw3.mod _).push sr3 hn1⟩))))
    · rw [if_neg hlt]
      have sw2 := sw1
      have sr2 : SR LT (arrOf (setArr st' a)) lo (lo + m) := sr
      have hn1 := hm1
      have hn2 : lo + m ≤ a0.size := by omega
      generalize setArr st' a = st1 at sw2 sr2 ⊢
      generalize m = n at sr2 hn1 hn2 ⊢
      refine wpS_bind (wpS_get ?_)
      cases eb : (pendingOf st1).back? with
      | none =>
        dsimp only
        exact wpS_bind (wpS_modify (wpS_pure ⟨_, rfl, by omega, by omega, sw2.push sr2 hn1⟩))
      | some v =>
        obtain ⟨s1, n1, p1⟩ := v
        dsimp only
        refine wpS_bind (wpS_mono (wpS_forRange (I := fun j c st2 => c = (none, ()) ∧ Sw κ LT a0 lo st2 ∧ SR LT (arrOf st2) lo (lo + n)) (Q := fun c st2 => c = (none, ()) ∧ Sw κ LT a0 lo st2 ∧ SR LT (arrOf st2) lo (lo + n)) ?_ (fun _ _ hh => hh) ⟨rfl, sw2, sr2⟩) ?_)
        · rintro j c st2 _ _ ⟨rfl, sw3, sr3⟩
          refine wpS_bind (wpS_get ?_)
          by_cases hsz : (pendingOf st2).size > 1
          · rw [if_pos hsz]
            obtain ⟨v, ev⟩ : ∃ v, (pendingOf st2)[(pendingOf st2).size - 2]? = some v := ⟨_, Array.getElem?_eq_getElem (by omega)⟩
            obtain ⟨u1, u2, u3⟩ := v
            rw [ev]
            dsimp only
            by_cases hold : u3 ≤ power' a0.size (2 * s1 + n1) (2 * s1 + n1 + n1 + n) a0.size
            · rw [if_pos hold]
              exact wpS_pure ⟨rfl, sw3, sr3⟩
            · rw [if_neg hold]
              refine wpS_bind (wpS_mergeAtR o hl hall sw3 h2 (by omega) fun st3 sw4 _ out => ?_)
              rw [if_neg (by decide)]
              exact wpS_pure ⟨rfl, sw4, sr3.keep fun j j1 _ => out j j1⟩
          · rw [if_neg hsz]
            exact wpS_pure ⟨rfl, sw3, sr3⟩
        · rintro c st2 ⟨rfl, sw3, sr3⟩
          dsimp only
          exact wpS_bind (wpS_modify (wpS_bind (wpS_modify (wpS_pure ⟨_, rfl, by omega, by omega, (sw3.mod _).push sr3 hn1⟩))))
  case post =>
    rintro c st' ⟨lo, rfl, sw⟩
    dsimp only
    have hle : (pendingOf st').size ≤ a0.size := by have := sw.runs.le; simpa using this
    refine wpS_bind (wpS_mono (wpS_forRange (I := fun j c st2 => c = (none, ()) ∧ Sw κ LT a0 a0.size st2 ∧ (pendingOf st2).size + j ≤ a0.size) (Q := fun c st2 => c = (none, ()) ∧ Sw κ LT a0 a0.size st2 ∧ (pendingOf st2).size ≤ 1) ?_ ?_ ⟨rfl, sw, hle⟩) ?_)
    · rintro j c st2 _ hj ⟨rfl, sw3, hz⟩
      refine wpS_bind (wpS_get ?_)
      by_cases hsz : (pendingOf st2).size ≤ 1
      · rw [if_pos hsz]
        exact wpS_pure ⟨rfl, sw3, hsz⟩
      rw [if_neg hsz]
      refine wpS_bind (wpS_mergeAtR o hl hall sw3 (Nat.le_refl _) ?_ fun st3 sw4 hz4 out => ?_)
      · generalize Option.any _ _ = b
        cases b with
        | true => rw [if_pos rfl]; omega
        | false => rw [if_neg (by decide)]; omega
      · rw [if_neg (by decide)]
        exact wpS_pure ⟨rfl, sw4, by omega⟩
    · rintro c st2 ⟨rfl, sw3, hz⟩
      exact ⟨rfl, sw3, by omega⟩
    · rintro c st2 ⟨rfl, sw3, hz⟩
      refine wpS_pure (h st2 sw3.perm sw3.failed ?_)
      have rr := sw3.runs
      have z := sw3.size
      have hz' : (pendingOf st2).toList.length ≤ 1 := by simpa using hz
      have so : SR LT (arrOf st2) 0 a0.size := by
        generalize (pendingOf st2).toList = l at rr hz'
        match l, rr, hz' with
        | [], rr, _ =>
          have : 0 = a0.size := rr
          intro i j x y h1 h2 h3
          omega
        | [(s, n, p)], rr, _ =>
          obtain ⟨_, _, g, e⟩ := rr
          have e : 0 + n = a0.size := e
          rw [← e]; exact g
      rw [List.pairwise_iff_getElem]
      intro i j hi hj hij
      have hi' : i < (arrOf st2).size := by simpa using hi
      have hj' : j < (arrOf st2).size := by simpa using hj
      exact so i j _ _ (Nat.zero_le _) hij (by omega) (by rw [← Array.getElem?_toList]; exact List.getElem?_eq_getElem hi) (by rw [← Array.getElem?_toList]; exact List.getElem?_eq_getElem hj)
end
end L2

namespace L2
open PySem PySem.Spec PyProof.Rows
/-! ### sorted, of any length -/
theorem lex_asym : ∀ a b : List Int, HT.lexLt a b = true → HT.lexLt b a = false
  | [], [], h => by cases h
  | [], _ :: _, _ => rfl
  | _ :: _, [], h => by cases h
  | x :: a, y :: b, h => by
    rw [HT.lexLt_cons] at h ⊢
    by_cases e : x = y
    · rw [if_pos e] at h; rw [if_pos e.symm]; exact lex_asym a b h
    · rw [if_neg e] at h; rw [if_neg (fun z => e z.symm)]
      have := of_decide_eq_true h
      exact decide_eq_false (by omega)
theorem lex_ge : ∀ a b c : List Int, HT.lexLt b a = false → HT.lexLt c b = false → HT.lexLt c a = false
  | [], _, [], _, _ => rfl
  | [], [], _ :: _, _, _ => rfl
  | [], _ :: _, _ :: _, _, _ => rfl
  | _ :: _, [], _, h, _ => by cases h
  | _ :: _, _ :: _, [], _, h => by cases h
  | x :: a, y :: b, z :: c, h1, h2 => by
    rw [HT.lexLt_cons] at h1 h2 ⊢
    by_cases e1 : y = x
    · rw [if_pos e1] at h1
      subst e1
      by_cases e2 : z = y
      · rw [if_pos e2] at h2 ⊢
        exact lex_ge a b c h1 h2
      · rw [if_neg e2] at h2 ⊢
        exact h2
    · rw [if_neg e1] at h1
      have h1 := of_decide_eq_false h1
      by_cases e2 : z = y
      · subst e2
        rw [if_neg e1]
        exact decide_eq_false h1
      · rw [if_neg e2] at h2
        have h2 := of_decide_eq_false h2
        rw [if_neg (by omega)]
        exact decide_eq_false (by omega)
/-- in order by codes -/
abbrev leC (a b : List Int) : Prop := HT.lexLt b a = false
theorem Paired.perm {α β : Type} {F : α → β → Prop} {m m' : List β} (p : m'.Perm m) : ∀ {l : List α}, Paired F l m → ∃ l', Paired F l' m' ∧ l'.Perm l := by
  induction p with
  | nil => intro l h; exact ⟨l, h, .refl _⟩
  | cons x p ih =>
    intro l h
    cases h with
    | cons r t =>
      obtain ⟨l', h1, h2⟩ := ih t
      exact ⟨_ :: l', .cons r h1, h2.cons _⟩
  | swap x y l =>
    intro l h
    cases h with
    | cons r t =>
      cases t with
      | cons r' t' => exact ⟨_, .cons r' (.cons r t'), .swap ..⟩
  | trans p q ih1 ih2 =>
    intro l h
    obtain ⟨l1, h1, h2⟩ := ih2 h
    obtain ⟨l2, h3, h4⟩ := ih1 h1
    exact ⟨l2, h3, h4.trans h2⟩
section
variable {prog : Program} {w : World} {A : Around} {E : Value → Shared → Prop} {s : Shared} {κ : SortKind}
theorem ltIs_of {S : Value → Prop} {LT : Value → Value → Bool} (h : ∀ u v (C : Bool → Shared → Prop), S u → S v → C (LT u v) s → wpAny (model prog w) A (keyLt' κ u v) C (fun _ _ => False) s) :
    LtIs prog w A E s κ (fun p => S p.1) (fun p q => LT p.1 q.1) := by
  intro x y st Q sx sy hk q
  rw [lt'_eq]
  refine wpS_bind (wpS_get ?_)
  rw [hk]
  refine wpS_bind (wpS_lift (wpAny_attempt (wpAny_mono (h x.1 y.1 (fun b s' => s' = s ∧ b = LT x.1 y.1) sx sy ⟨rfl, rfl⟩) (fun b s' hb => ?_) fun _ _ hF => hF.elim)))
  obtain ⟨rfl, rfl⟩ := hb
  exact ⟨rfl, wpS_pure q⟩
end
section
variable {prog : Program} {w : World} {A : Around} {E : Value → Shared → Prop} {s : Shared} {a : Addr} {vs : List Value} {LT : Value → Value → Bool}
theorem sort_gen {n : Nat} {P : PySem.Fin → Shared → Prop} (ho : s.heap.get? a = some (seqObj "list" vs.toArray n)) (hz : vs.length ≤ 1000000) (o : Ord (· ∈ vs) LT)
    (hk : 2 ≤ vs.length → ∀ h', (∀ b o, b ≠ a → s.heap.get? b = some o → h'.get? b = some o) → ∃ κ : SortKind,
      (∀ Q : SortKind → Shared → Prop, Q κ { s with heap := h' } → wpAny (model prog w) A (keyKind' vs.toArray) Q E { s with heap := h' }) ∧
      ∀ u v (C : Bool → Shared → Prop), u ∈ vs → v ∈ vs → C (LT u v) { s with heap := h' } → wpAny (model prog w) A (keyLt' κ u v) C (fun _ _ => False) { s with heap := h' })
    (h : ∀ out : List Value, out.Perm vs → out.Pairwise (leO LT) → P (.done (.ret .none)) { s with heap := sortedHeap s.heap a vs out.toArray }) : wpAny (model prog w) A (Builtin.«list.sort» ⟨[.ref a], []⟩) P E s := by
  have ha : a < s.heap.objs.size := Heap.lt_size ho
  have hsl : sizeLine = 16777216 := sizeLine_eq
  rw [list_sort_plain]
  refine wpAny_bind (listItems_at ho rfl ?_)
  refine wpAny_bind (listUpdate_at ho rfl ?_ (by rw [List.size_toArray]; omega) (Nat.zero_le _))
  obtain ⟨e1, ho1⟩ : ∃ e1, (s.heap.update a (Obj.mapSeq fun _ => (#[] : Array Value))).get? a = some (seqObj "list" #[] e1) := ⟨_, get?_update_seq ho (fun _ => #[])⟩
  refine wpAny_bind (seqEpoch_at ho1 rfl ?_)
  refine wpAny_bind (wpAny_newTuple ?_ (by show vs.length ≤ _; omega))
  refine wpAny_bind (wpAny_newList ?_ (Nat.zero_le _))
  refine wpAny_holding ?_
  have ho6 : (((s.heap.update a (Obj.mapSeq fun _ => (#[] : Array Value))).push (seqObj "tuple" vs.toArray 0)).push (seqObj "list" #[] 0)).get? a = some (seqObj "list" #[] e1) := by
    rw [Heap.get?_push_ne _ _ _ (by rw [size_push', Heap.size_update]; exact Nat.ne_of_lt (Nat.lt_succ_of_lt ha)), Heap.get?_push_ne _ _ _ (by rw [Heap.size_update]; exact Nat.ne_of_lt ha)]
    exact ho1
  have kp : ∀ b o, b ≠ a → s.heap.get? b = some o → (((s.heap.update a (Obj.mapSeq fun _ => (#[] : Array Value))).push (seqObj "tuple" vs.toArray 0)).push (seqObj "list" #[] 0)).get? b = some o := fun b o hb e => by
    have hlt := Heap.lt_size e
    rw [Heap.get?_push_ne _ _ _ (by rw [size_push', Heap.size_update]; exact Nat.ne_of_lt (Nat.lt_succ_of_lt hlt)), Heap.get?_push_ne _ _ _ (by rw [Heap.size_update]; exact Nat.ne_of_lt hlt), Heap.get?_update_ne _ _ _ _ hb]
    exact e
  show wpAny (model prog w) A _ P E { s with heap := ((s.heap.update a (Obj.mapSeq fun _ => (#[] : Array Value))).push (seqObj "tuple" vs.toArray 0)).push (seqObj "list" #[] 0) }
  dsimp only
  by_cases h2 : vs.toArray.size < 2
  · rw [if_pos h2, if_pos h2]
    refine wpAny_bind (wpAny_pure ?_)
    rw [StateT.run_pure]
    refine wpAny_bind (wpAny_pure ?_)
    dsimp only
    refine wpAny_bind (seqEpoch_at ho6 rfl ?_)
    have e2 : (arrOf (SortSt.mk' general' (vs.toArray.zip vs.toArray) #[] 7 none)).map (·.2) = vs.toArray := pairs_snd vs
    rw [e2]
    refine wpAny_bind (listUpdate_at ho6 rfl ?_ (Nat.zero_le _) (hsz2 := by rw [List.size_toArray]; omega))
    simp only [bne_self_eq_false, Bool.false_eq_true, if_false]
    refine wpAny_pure (h vs (.refl _) ?_)
    rw [List.size_toArray] at h2
    match vs, h2 with
    | [], _ => exact .nil
    | [_], _ => exact List.pairwise_singleton ..
  · rw [if_neg h2, if_neg h2]
    have h2' : 2 ≤ vs.length := by rw [List.size_toArray] at h2; omega
    obtain ⟨κ, hkk, hcc⟩ := hk h2' _ kp
    refine wpAny_bind (hkk _ ?_)
    have mem : ∀ p ∈ (pairsOf vs).toList, p.1 = p.2 ∧ p.1 ∈ vs := fun p hp => by rw [pairsOf_toList] at hp; exact mem_zip_self hp
    have run := wpS_sortRunsG (E := E) (κ := κ) (S := fun p => p.1 ∈ vs) (LT := fun p q => LT p.1 q.1) (st := SortSt.mk' κ (pairsOf vs) #[] 7 none) (Q := fun _ st' => (arrOf st').toList.Perm (pairsOf vs).toList ∧ failedOf st' = none ∧ (arrOf st').toList.Pairwise (leO fun p q => LT p.1 q.1))
      ⟨fun x y hx hy => o.asym _ _ hx hy, fun x y z hx hy hz => o.trans _ _ _ hx hy hz⟩ (ltIs_of hcc) rfl rfl rfl (fun j x e => (mem x (mem_at e)).2) fun st' e1 e2 e3 => ⟨e1, e2, e3⟩
    refine wpAny_bind (wpAny_mono run ?_ fun _ _ e => e)
    rintro ⟨⟨⟩, st'⟩ s' ⟨rfl, hp, hf, hso⟩
    dsimp only at hp hf hso ⊢
    refine wpAny_bind (seqEpoch_at ho6 rfl ?_)
    have out : (arrOf st').map (·.2) = ((arrOf st').toList.map (·.1)).toArray := by
      apply Array.toList_inj.mp
      rw [Array.toList_map, List.toList_toArray]
      exact List.map_congr_left fun p hp' => (mem p (hp.mem_iff.mp hp')).1.symm
    have pm : ((arrOf st').toList.map (·.1)).Perm vs := by
      have := hp.map (·.1)
      rw [pairsOf_toList, List.map_fst_zip (Nat.le_refl _)] at this
      exact this
    rw [out]
    refine wpAny_bind (listUpdate_at ho6 rfl ?_ (Nat.zero_le _) (hsz2 := by rw [List.size_toArray, pm.length_eq]; omega))
    rw [hf]
    simp only [bne_self_eq_false, Bool.false_eq_true, if_false]
    refine wpAny_pure (h _ pm ?_)
    exact List.pairwise_map.mpr hso
end
end L2

namespace L2
open PySem PySem.Spec PyProof.Rows
theorem Paired.flip {α β : Type} {F : α → β → Prop} : ∀ {l : List α} {m : List β}, Paired F l m → Paired (fun b a => F a b) m l
  | _, _, .nil => .nil
  | _, _, .cons r t => .cons r (Paired.flip t)
theorem Paired.memR {α β : Type} {F : α → β → Prop} : ∀ {l : List α} {m : List β} {y : β}, Paired F l m → y ∈ m → ∃ x, x ∈ l ∧ F x y
  | _, _, y, .cons (a := a) r t, h => by
    rcases List.mem_cons.mp h with rfl | h
    · exact ⟨a, List.mem_cons_self .., r⟩
    · obtain ⟨x, h1, h2⟩ := Paired.memR t h
      exact ⟨x, List.mem_cons_of_mem _ h1, h2⟩
theorem Paired.memL {α β : Type} {F : α → β → Prop} {l : List α} {m : List β} {x : α} (p : Paired F l m) (h : x ∈ l) : ∃ y, y ∈ m ∧ F x y := Paired.memR (Paired.flip p) h
/-- how a kind of values is coded for the sort -/
structure SCode (X : Cx) (VC : Hp → V → List Int → Prop) (HC : Heap → Value → List Int → Prop) : Prop where
  down : ∀ {pins : List (Addr × Obj)} {σ : St} {H : Hp} {s : Shared} {v : V} {u : Value} {c : List Int}, Inv X pins σ H s → VC H v c → RelV v u → HC s.heap u c
  uniq : ∀ {h : Heap} {u : Value} {c c' : List Int}, HC h u c → HC h u c' → c = c'
  keep : ∀ {h h' : Heap} {u : Value} {c : List Int}, (∀ b o, h.get? b = some o → h'.get? b = some o) → HC h u c → HC h' u c
  asks : ∀ {s : Shared} {vs : List Value}, (∀ v ∈ vs, ∃ c, HC s.heap v c) → 2 ≤ vs.length → ∃ κ : SortKind, (∀ Q : SortKind → Shared → Prop, Q κ s → wpAny (model X.prog X.w) X.A.in1.in1 (keyKind' vs.toArray) Q (fun _ _ => False) s) ∧
    ∀ u v c c' (C : Bool → Shared → Prop), HC s.heap u c → HC s.heap v c' → C (HT.lexLt c c') s → wpAny (model X.prog X.w) X.A.in1.in1 (keyLt' κ u v) C (fun _ _ => False) s
/-! ints -/
def VI (_ : Hp) (v : V) (c : List Int) : Prop := ∃ i, v = .int i ∧ c = [i]
def CI (_ : Heap) (u : Value) (c : List Int) : Prop := ∃ i t, u = Value.int i t ∧ c = [i]
theorem lex1 (i j : Int) : HT.lexLt [i] [j] = decide (i < j) := by
  rw [HT.lexLt_cons, HT.lexLt_nil_nil]
  split
  · next e => subst e; simp
  · rfl
theorem scI (X : Cx) : SCode X VI CI where
  down := fun _ h r => by
    obtain ⟨i, rfl, rfl⟩ := h
    obtain ⟨t, rfl⟩ := int_of r
    exact ⟨i, t, rfl, rfl⟩
  uniq := fun h h' => by
    obtain ⟨i, t, rfl, rfl⟩ := h
    obtain ⟨j, t', e, rfl⟩ := h'
    cases e; rfl
  keep := fun _ h => h
  asks := fun {s vs} hv h2 => by
    have hi : IntsAre vs (vs.map numOf) := intsAre_map vs fun v hv' => by
      obtain ⟨c, i, t, rfl, _⟩ := hv v hv'
      exact ⟨i, t, rfl⟩
    refine ⟨oneType', fun Q q => ?_, fun u v c c' C hu hv hC => ?_⟩
    · match vs, h2, hi with
      | v₁ :: v₂ :: rest, _, hi =>
        rw [keyKind_ints hi]
        exact wpAny_pure q
    · obtain ⟨i, t, rfl, rfl⟩ := hu
      obtain ⟨j, t', rfl, rfl⟩ := hv
      rw [keyLt'_oneType]
      rw [lex1] at hC
      exact oneLt_int hC
/-! pairs of ints -/
/-! (n, (a, b)) -/
end L2

namespace L2
open PySem PySem.Spec PyProof.Rows
theorem SCode.of {X : Cx} {VC VC' : Hp → V → List Int → Prop} {HC : Heap → Value → List Int → Prop} (sc : SCode X VC HC) (h : ∀ H v c, VC' H v c → VC H v c) : SCode X VC' HC :=
  ⟨fun I c r => sc.down I (h _ _ _ c) r, sc.uniq, sc.keep, sc.asks⟩
theorem paired_ix {α β : Type} {F : α → β → Prop} : ∀ {l : List α} {m : List β}, l.length = m.length → (∀ (i : Nat) (y : β), m[i]? = some y → ∃ x, l[i]? = some x ∧ F x y) → Paired F l m
  | [], [], _, _ => .nil
  | [], _ :: _, h, _ => by simp at h
  | _ :: _, [], h, _ => by simp at h
  | a :: l, b :: m, h, k => by
    refine .cons ?_ (paired_ix (by simpa using h) fun i y e => ?_)
    · obtain ⟨x, e, r⟩ := k 0 b rfl
      simp at e
      subst e; exact r
    · have := k (i + 1) y (by simpa using e)
      simpa using this
theorem Paired.atR {α β : Type} {F : α → β → Prop} {l : List α} {m : List β} {i : Nat} {y : β} (h : Paired F l m) (e : m[i]? = some y) : ∃ x, l[i]? = some x ∧ F x y := by
  obtain ⟨x, h1, h2⟩ := Paired.at' (Paired.flip h) e
  exact ⟨x, h1, h2⟩
/-! ### isinstance of an exception, or of None -/
end L2

namespace L2
open PySem PySem.Spec PyProof.Rows
/-! ### for k in d: the keys of a dict that is not written any more -/
/-! ### list(range(n)) -/
end L2

namespace L2
open PySem PySem.Spec PyProof.Rows
/-! ### a lambda: its function, its code, the table of the def that makes it -/
def LamO (f : Addr) (fd : FuncData) : HO := .ext fun h => ∃ o, h.get? f = some o ∧ o.data = .func fd
def CodeO (c : Addr) (qual : Str) : HO := .ext fun h => h.CodeRec (.ref c) qual
/-- one promise of many -/
theorem FnOk.ex {P : Program} {w : World} {K : PySem.W.Frag} {mg : Str → Option Value} {base : Heap} {CX : CXT} {k : Nat} {f : Addr} {fd : FuncData} {ps : List Str} {ι : Type} {sp : ι → Sp} (F : ∀ i, FnOk P w K mg base CX k f fd ps (sp i)) : FnOk P w K mg base CX k f fd ps (fun vs H Q E => ∃ i, sp i vs H Q E) :=
  ⟨fun vs H Q E ⟨i, h⟩ => (F i).len vs H Q E h, fun A outer s H args us vs Q E hr e0 hb r ⟨i, h⟩ => (F i).run A outer s H args us vs Q E hr e0 hb r h⟩
end L2

namespace L2
open PySem PySem.Spec PyProof.Rows
/-- the module's own __builtins__ -/
def BmAt (mg : Str → Option Value) (base : Heap) : Prop := ∃ bm o, mg "__builtins__" = some (.ref bm) ∧ bm ≠ builtinsNs ∧ bm ≠ mainGlobals ∧ base.get? bm = some o ∧ o.cls = .type "module" ∧ o.dict = some builtinsNs ∧ o.data = .plain
abbrev tab1 (pos : Pos) (c : Addr) : Array Value := #[rawInt pos.line, rawInt pos.col, .ref c]
/-- lambda: the first one lays its code down in the table, the others find it -/
def tLam (P : Addr) (pos : Pos) (qual : Str) (fd : Addr → Value → FuncData) : TE := fun σ H Q =>
  (H P = some (.tbl #[]) ∧ ∀ f c ct, H f = none → H c = none → f ≠ c → Q (.ref f) (upd (upd (upd H P (.tbl (tab1 pos c))) c (CodeO c qual)) f (LamO f (fd c ct)))) ∨
  ∃ c, H P = some (.tbl (tab1 pos c)) ∧ H c = some (CodeO c qual) ∧ ∀ f ct, H f = none → Q (.ref f) (upd H f (LamO f (fd c ct)))
section
variable {X : Cx} {c P : Addr} {params : Arguments} {body : Expr} {scope : Scope} {pos : Pos}
end
end L2

namespace L2
open PySem PySem.Spec PyProof.Rows
/-! ### a def that makes a lambda: its code is known -/
structure FunC (K : PySem.W.Frag) (x qual : Str) (st : Stmt) (f : Addr) (fd : FuncData) (c P : Addr) : Prop where
  ex : ∃ (oc : Value) (od : Option Addr) (kV doc pm : Value) (an : Option Addr) (ct : Value) (osl : Array (Option Value)),
    fd = PySem.W.fnOf x qual (defArgs st) (defBody st) (defScope st) .none kV doc pm an (.ref c) ct ∧ K.lookup f = some ⟨oc, od, .func fd, osl⟩ ∧ PySem.W.codeIn K (.ref c) qual = true
  kp : PySem.W.keepIn K (.ref f) = true
  hd : PySem.W.codeHdIn K c P = true
theorem FunC.toFun {K : PySem.W.Frag} {x qual : Str} {st : Stmt} {f : Addr} {fd : FuncData} {c P : Addr} (F : FunC K x qual st f fd c P) : Fun K x qual st f fd :=
  ⟨let ⟨oc, od, kV, doc, pm, an, ct, osl, h⟩ := F.ex; ⟨oc, od, kV, doc, pm, an, .ref c, ct, osl, h⟩, F.kp⟩
theorem FunC.ok {P0 : Program} {w : World} {K : PySem.W.Frag} {mg : Str → Option Value} {base : Heap} {x qual : Str} {st : Stmt} {f : Addr} {fd : FuncData} {c P : Addr} {N ps : List Str} {k : Nat} {sp : Sp} (F : FunC K x qual st f fd c P) (S : FnScope N ps (defScope st)) (len : ∀ vs H Q E, sp vs H Q E → vs.length = ps.length)
    (hbody : ∀ (A : Around) (outer : List Env) (s : Shared) (H : Hp) (vs : List V) (Q : VK) (E : XK), Room k (A.deeper (envOfC qual (defScope st) s.heap.objs.size f (.ref c))) → sp vs H Q E →
      ∃ t, PSs (cxOf CX0 P0 w K mg base N qual (defScope st) f (.ref c) A outer s H E).nox (defBody st) t ∧ t { nx := fun _ H' => Q .non H', rt := Q } (start N vs) H) : FnOk P0 w K mg base CX0 (k + 1) f fd ps sp := by
  obtain ⟨oc, od, kV, doc, pm, an, ct, osl, rfl, lk, hcd⟩ := F.ex
  refine fn_of lk hcd S len fun A outer s H vs Q E hr hsp => ?_
  obtain ⟨t, h, q⟩ := hbody A outer s H vs Q E hr hsp
  exact ⟨t, h.nox, q⟩
/-! ### the law's call where tables are tracked -/
def OnlyT (tabs : List Addr) (H : Hp) : Prop := ∀ b, H b = none ∨ (∃ o xs, H b = some (.frz o (.lst xs))) ∨ (b ∈ tabs ∧ H b = some (.tbl #[]))
theorem law_callT {P : Program} {w : World} {K : PySem.W.Frag} {mg mb : Str → Option Value} {k : Nat} {fa a : Addr} {fd : FuncData} {x : Str} {sp : Sp} {s₁ : Shared} {vs : List Value} {ns : List Int} {tabs : List Addr}
    (KX : K.In s₁.heap) (hns : s₁.heap.Ns mainGlobals mg) (hb : s₁.heap.Ns builtinsNs mb) (hbb : ∀ x : Str, x ≠ "__name__" → mb x = bootBuiltins x) (hlim : s₁.heap.NoLimit) (hg : s₁.gens = #[]) (hB : BmAt mg s₁.heap)
    (hT : ∀ P ∈ tabs, s₁.heap.get? P = some (PySem.W.tabObj #[]) ∧ isCodeTable s₁.heap P ∧ K.lookup P = none)
    (ha : s₁.heap.get? a = some { cls := .type "list", data := .seq vs.toArray }) (hi : IntsAre vs ns) (hl : ns.length ≤ sizeLine) (hr : Room k callerA)
    (F : ∀ base : Heap, K.In base → base.Ns mainGlobals mg → BmAt mg base → FnOk P w K mg base CX0 k fa fd [x] sp) (hbind : ∀ (s : Shared) (u : Value), BindsTo s fd ⟨[u], []⟩ [(x, u)])
    (hsp : ∀ H : Hp, SqL K H a (ns.map V.int) → (∀ P ∈ tabs, H P = some (.tbl #[])) → sp [.ref a] H (fun v _ => v = .bl true) fun _ _ _ => False) :
    codeAny (model P w) callerA (.call (.ref fa) ⟨[.ref a], []⟩) (fun r s' => r = .ok (.ret (.bool true)) ∧ OldK s₁.heap s'.heap ∧ s'.os = s₁.os ∧ AllBare s'.gens) s₁ := by
  have rv := vals_ints hi
  have lenV := hi.length
  have naT : a ∉ tabs := fun z => by
    have e := (hT a z).1
    rw [ha] at e; cases e
  have core : ∀ H : Hp, OnlyT tabs H → SqL K H a (ns.map V.int) → HOk P w H s₁.heap → (∀ b, H b ≠ none → b = a ∨ b ∈ tabs) → (H a ≠ none → K.lookup a = none) → (∀ P ∈ tabs, H P = some (.tbl #[])) →
      codeAny (model P w) callerA (.call (.ref fa) ⟨[.ref a], []⟩) (fun r s' => r = .ok (.ret (.bool true)) ∧ OldK s₁.heap s'.heap ∧ s'.os = s₁.os ∧ AllBare s'.gens) s₁ := by
    intro H hO hS hok hA hK hH
    have base_of : ∀ {b : Addr} {o : Obj}, s₁.heap.get? b = some o → H b = none → (hidT s₁.heap H).get? b = some o := fun e n => hidT_get e n
    have noT : ∀ {b : Addr} {o : Obj}, s₁.heap.get? b = some o → o.cls ≠ .none → o.cls ≠ .type "list" → H b = none := fun {b o} e h1 h2 => by
      cases q : H b with
      | none => rfl
      | some u =>
        rcases hA b (by rw [q]; simp) with e' | e'
        · subst e'
          rw [ha] at e; cases e
          exact absurd rfl h2
        · have := (hT b e').1
          rw [e] at this; cases this
          exact absurd rfl h1
    have noA : ∀ {b : Addr} {o : Obj} {es : Array DictEntry} {ep : Nat}, s₁.heap.get? b = some o → o.data = .dict es ep → H b = none := fun {b o es ep} e d => by
      cases q : H b with
      | none => rfl
      | some u =>
        rcases hA b (by rw [q]; simp) with e' | e'
        · subst e'
          rw [ha] at e; cases e
          cases (show Data.seq vs.toArray _ = Data.dict es ep from d)
        · have := (hT b e').1
          rw [e] at this; cases this
          cases (show Data.fields #[] = Data.dict es ep from d)
    have nsK : ∀ {b : Addr} {m : Str → Option Value}, s₁.heap.Ns b m → (hidT s₁.heap H).Ns b m := fun {b m} ⟨o, es, ep, e, d, r⟩ => ⟨o, es, ep, base_of e (noA e d), d, r⟩
    have hKb : K.In (hidT s₁.heap H) := fun b o e => base_of (KX b o e) (by
      cases q : H b with
      | none => rfl
      | some u =>
        rcases hA b (by rw [q]; simp) with e' | e'
        · subst e'
          rw [hK (by rw [q]; simp)] at e; cases e
        · rw [(hT b e').2.2] at e; cases e)
    have hM : Mod K mg (hidT s₁.heap H) := ⟨hKb, nsK hns, ⟨mb, nsK hb, hbb⟩, let ⟨mc, h1, h2⟩ := hlim; ⟨mc, nsK h1, h2⟩⟩
    have hBb : BmAt mg (hidT s₁.heap H) := by
      obtain ⟨bm, o, b1, b2, b3, b4, b5, b6⟩ := hB
      exact ⟨bm, o, b1, b2, b3, base_of b4 (noT b4 (by rw [b5]; intro z; cases z) (by rw [b5]; decide)), b5, b6⟩
    have e0 : Env0 P w K mg (hidT s₁.heap H) callerA [] s₁ H := ⟨rfl, hM, fun b o e => of_hidT e, Nat.le_of_eq (hidT_size _ _), trivial, fun b hb => absurd (show b ∈ ([] : List Addr) from hb) (by simp), hok, .of_eq hg⟩
    refine codeAny_mono ((F _ hKb (nsK hns) hBb).run callerA [] s₁ H ⟨[.ref a], []⟩ [.ref a] [.ref a] _ _ hr e0 (hbind s₁ (.ref a)) (.cons rfl .nil) (hsp H hS hH)) fun r s' h => ?_
    cases r with
    | error e => exact False.elim h
    | ok fl =>
      cases fl with
      | next => exact False.elim h
      | brk => exact False.elim h
      | cont => exact False.elim h
      | ret u =>
        obtain ⟨v, H', os, bare, un, hok', r', q⟩ := h
        have q' : v = .bl true := q
        subst q'
        obtain rfl : u = Value.bool true := r'
        refine ⟨rfl, ⟨fun b o e => ?_, fun b o e => un.there b o e (by simp)⟩, os, bare⟩
        rcases hO b with z | ⟨ob, xs, z⟩ | ⟨hm, z⟩
        · exact .inl (un.keep b o e z (by intro z; exact absurd (show b ∈ ([] : List Addr) from z) (by simp)) (by simp))
        · have z2 := un.frzs b ob _ z
          obtain ⟨e1, _⟩ := hok b _ z
          obtain ⟨e2, _⟩ := hok' b _ z2
          rw [e] at e1; cases e1
          exact .inl e2
        · obtain ⟨more, z2⟩ := un.tbls b _ z
          have e1 := (hT b hm).1
          rw [e] at e1; cases e1
          have e2 := hok' b _ z2
          exact .inr (.inl ⟨(hT b hm).2.1, rfl, #[], more, rfl, e2⟩)
  cases hk : K.lookup a with
  | some o =>
    have e := KX a o hk
    rw [ha] at e
    cases e
    refine core (fun b => if b ∈ tabs then some (.tbl #[]) else none) (fun b => ?_) (.inr ⟨_, vs.toArray, _, hk, rfl, rfl, rfl, by rw [List.size_toArray, lenV]; exact hl, by simpa using rv⟩) (fun b u z => ?_) (fun b z => ?_) (fun z => absurd (if_neg naT) z) fun P hP => if_pos hP
    · by_cases hb : b ∈ tabs
      · exact .inr (.inr ⟨hb, if_pos hb⟩)
      · exact .inl (if_neg hb)
    · by_cases hb : b ∈ tabs
      · have z' := (if_pos hb).symm.trans z
        cases z'
        exact (hT b hb).1
      · have z' := (if_neg hb).symm.trans z
        cases z'
    · by_cases hb : b ∈ tabs
      · exact .inr hb
      · exact absurd (if_neg hb) z
  | none =>
    refine core (fun b => if b = a then some (.frz { cls := .type "list", data := .seq vs.toArray } (.lst (ns.map V.int))) else if b ∈ tabs then some (.tbl #[]) else none) (fun b => ?_) (.inl (.inr ⟨{ cls := .type "list", data := .seq vs.toArray }, if_pos rfl⟩)) (fun b u z => ?_) (fun b z => ?_) (fun _ => hk) fun P hP => ?_
    · by_cases hb : b = a
      · exact .inr (.inl ⟨_, _, if_pos hb⟩)
      · by_cases hb2 : b ∈ tabs
        · exact .inr (.inr ⟨hb2, (if_neg hb).trans (if_pos hb2)⟩)
        · exact .inl ((if_neg hb).trans (if_neg hb2))
    · by_cases hb : b = a
      · have z' := (if_pos hb).symm.trans z
        cases z'
        subst hb
        exact ⟨ha, by rw [List.length_map]; exact hl, vs, _, rv, ha⟩
      · by_cases hb2 : b ∈ tabs
        · have z' := ((if_neg hb).trans (if_pos hb2)).symm.trans z
          cases z'
          exact (hT b hb2).1
        · have z' := ((if_neg hb).trans (if_neg hb2)).symm.trans z
          cases z'
    · by_cases hb : b = a
      · exact .inl hb
      · by_cases hb2 : b ∈ tabs
        · exact .inr hb2
        · exact absurd ((if_neg hb).trans (if_neg hb2)) z
    · have n : P ≠ a := fun z => naT (z ▸ hP)
      exact (if_neg n).trans (if_pos hP)
theorem walk_ofT {l : PySem.W.OpenLaw} {n k : Nat} {q : Program} {loose : List Str} {XP : (Str → Option Value) → Heap → Prop} {YP : World → Heap → Prop} {d : DefRec} {K : Params → PySem.W.Frag} {sp : World → List Addr → Sp} {x : Str} {ts : List Addr}
    (hn : l.most = some n) (hn2 : n ≤ sizeLine) (hdf : d.params.defaults = []) (hr : Room k callerA)
    (hY : ∀ (w : World) (h : Heap), YP w h → (K w.params).In h ∧ ∀ P ∈ ts, h.get? P = some (PySem.W.tabObj #[]))
    (F : ∀ (w : World) (mg : Str → Option Value) (fa : Addr) (h : Heap), (K w.params).In h → h.Ns mainGlobals mg → mg d.name = some (.ref fa) →
      ∃ (fd : FuncData) (tabs : List Addr), (∀ P ∈ tabs, P ∈ ts ∧ (K w.params).lookup P = none ∧ ∃ c, PySem.W.codeHdIn (K w.params) c P = true) ∧ (∀ (s : Shared) (u : Value), BindsTo s fd ⟨[u], []⟩ [(x, u)]) ∧
        (∀ base : Heap, (K w.params).In base → base.Ns mainGlobals mg → BmAt mg base → FnOk l.prog w (K w.params) mg base CX0 k fa fd [x] (sp w tabs)) ∧
        ∀ (H : Hp) (a : Addr) (ns : List Int), ns.length ≤ n → SqL (K w.params) H a (ns.map V.int) → (∀ P ∈ tabs, H P = some (.tbl #[])) → sp w tabs [.ref a] H (fun v _ => v = .bl true) fun _ _ _ => False) :
    PySem.W.WalkO q loose XP YP l.row.toRowW d [] (fun f vs => PySem.call f vs) := by
  refine Att.attach_call hn hdf fun w s₀ s₁ mg mb fa o pm cd doc a vs ns G Y ho hd hcd hmg hobj hints hlen hg => ?_
  obtain ⟨KX, TX⟩ := hY w _ Y
  obtain ⟨fd, tabs, hT, hb, hF, hsp⟩ := F w mg fa _ KX G.T.g hmg
  obtain ⟨bm, ob, b1, b2, b3, b4, b5, b6⟩ := G.T.bmain
  have hbG : bm ≠ mainGlobals := fun q => by
    obtain ⟨o, es, ep, e, hd, _⟩ := G.T.g
    rw [q, e] at b3; cases b3; rw [hd] at b6; cases b6
  refine law_callT (tabs := tabs) KX G.T.g G.T.b G.T.builtins G.T.nolimit hg ⟨bm, ob, b1, b2, hbG, b3, b4, b5, b6⟩ (fun P hP => ?_) hobj hints (Nat.le_trans hlen hn2) hr hF hb fun H hS hH => hsp H a ns hlen hS hH
  obtain ⟨h1, h2, c, h3⟩ := hT P hP
  have e := TX P h1
  exact ⟨e, ((PySem.W.codeHd_of_K KX h3).tab e).isCodeTable, h2⟩
end L2

namespace L2
open PySem PySem.Spec PyProof.Rows
/-! ### texts: join, split, removeprefix, int(text), all, any, the walk of a text -/
theorem strs_of : ∀ {ws : List Str} {its : List Value}, Vals (ws.map V.str) its → ∃ l : List (Str × Tok), its = strValues l ∧ l.map (·.1) = ws
  | [], _, .nil => ⟨[], rfl, rfl⟩
  | w :: ws, _, .cons r t => by
    obtain ⟨l, rfl, rfl⟩ := strs_of t
    obtain ⟨k, rfl⟩ := r
    exact ⟨(w, k) :: l, rfl, rfl⟩
section
variable {X : Cx}
def rJoin : V → List V → Hp → VK → Prop := fun x vs H Q => ∃ (sep : Str) (p : Addr) (ws : List Str), x = .str sep ∧ vs = [.ref p] ∧ H p = some (.lst (ws.map V.str)) ∧ (ws.map (·.length)).sum + ws.length * sep.length ≤ sizeLine ∧ Q (.str (Str.join sep ws)) H
theorem mt_join : MtM X "str.join" rJoin := by
  intro pins s σ H x vs v us Q I rx rv h
  obtain ⟨sep, p, ws, rfl, rfl, hp, hz, q⟩ := h
  obtain ⟨t, rfl⟩ := rx
  obtain ⟨u, rfl, ru⟩ := rv.one
  obtain rfl : u = Value.ref p := ru
  obtain ⟨z, its, n, r, hl, e⟩ := I.lstM hp
  obtain ⟨l, rfl, hw⟩ := strs_of r
  refine SC.join (l := l) (texts := ws) ⟨_, e, rfl, _, rfl⟩ hw ?_ fun t' k => ?_
  · unfold JoinOk
    rw [Bool.not_eq_true', StrLaws.joinTotal]
    unfold Builtin.Str.tooLong
    exact decide_eq_false (by omega)
  · refine ⟨.str (Str.join sep ws), H, I.tok _, ⟨t', ?_⟩, q⟩
    show Value.str (Builtin.Str.glued sep ws) t' = _
    rw [StrLaws.glued_eq_join]
theorem call_int_text : CallR X (.type "int") (fun xs H Q => ∃ (x : Str) (n : Int), xs = [.str x] ∧ PySem.intText? x = some n ∧ x.length ≤ 640 ∧ Q (.int n) H) := by
  intro pins s σ H xs us Q I r h
  obtain ⟨x, n, rfl, hn, hl, q⟩ := h
  obtain ⟨u, rfl, t, rfl⟩ := vals1 r
  exact PySem.W.KIN.call_text hn hl ⟨.int n, H, I.tok _, ⟨_, rfl⟩, q⟩
def rAll : List V → Hp → VK → Prop := fun xs H Q => ∃ (p : Addr) (bs : List Bool), xs = [.ref p] ∧ H p = some (.lst (bs.map V.bl)) ∧ Q (.bl (bs.all id)) H
def rAny : List V → Hp → VK → Prop := fun xs H Q => ∃ (p : Addr) (bs : List Bool), xs = [.ref p] ∧ H p = some (.lst (bs.map V.bl)) ∧ Q (.bl (bs.any id)) H
theorem range_all : ∀ (bs : List Bool), (List.range bs.length).all (fun i => bs.getD i false) = bs.all id := by
  intro bs
  rw [Bool.eq_iff_iff, List.all_eq_true, List.all_eq_true]
  constructor
  · intro h b hb
    obtain ⟨i, hi, e⟩ := List.getElem_of_mem hb
    have := h i (List.mem_range.mpr hi)
    simpa [List.getD, List.getElem?_eq_getElem hi, e] using this
  · intro h i hi
    have hi' := List.mem_range.mp hi
    have := h _ (List.getElem_mem hi')
    simpa [List.getD, List.getElem?_eq_getElem hi'] using this
theorem range_any : ∀ (bs : List Bool), (List.range bs.length).any (fun i => bs.getD i false) = bs.any id := by
  intro bs
  rw [Bool.eq_iff_iff, List.any_eq_true, List.any_eq_true]
  constructor
  · rintro ⟨i, hi, h⟩
    have hi' := List.mem_range.mp hi
    exact ⟨_, List.getElem_mem hi', by simpa [List.getD, List.getElem?_eq_getElem hi'] using h⟩
  · rintro ⟨b, hb, h⟩
    obtain ⟨i, hi, e⟩ := List.getElem_of_mem hb
    exact ⟨i, List.mem_range.mpr hi, by simpa [List.getD, List.getElem?_eq_getElem hi, e] using h⟩
theorem bools_get {bs : List Bool} {its : List Value} (r : Vals (bs.map V.bl) its) {i : Nat} {v : Value} (e : its.toArray[i]? = some v) : v = .bool (bs.getD i false) := by
  have e' : its[i]? = some v := by simpa using e
  have hi : i < its.length := (List.getElem?_eq_some_iff.mp e').1
  have hl := r.length
  rw [List.length_map] at hl
  have hx : (bs.map V.bl)[i]? = some (V.bl (bs.getD i false)) := by
    rw [List.getElem?_map, List.getElem?_eq_getElem (show i < bs.length by omega)]
    simp [List.getD, List.getElem?_eq_getElem (show i < bs.length by omega)]
  obtain ⟨u, hu, ru⟩ := r.get hx
  rw [e'] at hu
  cases hu
  exact ru
theorem call_all (hc : X.calm = true) : CallR X (.builtin "all") rAll := by
  intro pins s σ H xs us Q I r h
  obtain ⟨p, bs, rfl, hp, q⟩ := h
  obtain ⟨u, rfl, ru⟩ := vals1 r
  obtain rfl : u = Value.ref p := ru
  obtain ⟨z, its, n, rv, hl, e⟩ := I.lstM hp
  rw [List.length_map] at hl
  have hlt := Heap.lt_size e
  have il : s.heap.IsList p its.toArray := ⟨_, e, rfl, _, rfl⟩
  refine call_all_walk (wpAny_pyIter_list il ?_)
  refine ⟨_, _, _, _, _, _, fun i => bs.getD i false, rfl, Walks.list (A := X.A.in1) (I.ok.hd hc) _ p (Nat.ne_of_lt hlt) its.toArray, ⟨⟨_, Heap.get?_push_size _ rfl, rfl, rfl⟩, il.at fun o e => Heap.get?_push_of_some _ e⟩, ?_, fun h' tk k => ?_⟩
  · intro i v s Q E hP hQ
    rw [bools_get rv hP]
    exact wpAny_truthy_bool hQ
  · refine ⟨.bl (bs.all id), H, I.kept fun c o e => k c o (by simp only [List.mem_singleton]; exact Nat.ne_of_lt (Heap.lt_size e)) (Heap.get?_push_of_some _ e), ?_, q⟩
    show Value.bool _ = Value.bool _
    rw [List.size_toArray, ← hl, range_all]
theorem call_any (hc : X.calm = true) : CallR X (.builtin "any") rAny := by
  intro pins s σ H xs us Q I r h
  obtain ⟨p, bs, rfl, hp, q⟩ := h
  obtain ⟨u, rfl, ru⟩ := vals1 r
  obtain rfl : u = Value.ref p := ru
  obtain ⟨z, its, n, rv, hl, e⟩ := I.lstM hp
  rw [List.length_map] at hl
  have hlt := Heap.lt_size e
  have il : s.heap.IsList p its.toArray := ⟨_, e, rfl, _, rfl⟩
  refine call_any_walk (wpAny_pyIter_list il ?_)
  refine ⟨_, _, _, _, _, _, fun i => bs.getD i false, rfl, Walks.list (A := X.A.in1) (I.ok.hd hc) _ p (Nat.ne_of_lt hlt) its.toArray, ⟨⟨_, Heap.get?_push_size _ rfl, rfl, rfl⟩, il.at fun o e => Heap.get?_push_of_some _ e⟩, ?_, fun h' tk k => ?_⟩
  · intro i v s Q E hP hQ
    rw [bools_get rv hP]
    exact wpAny_truthy_bool hQ
  · refine ⟨.bl (bs.any id), H, I.kept fun c o e => k c o (by simp only [List.mem_singleton]; exact Nat.ne_of_lt (Heap.lt_size e)) (Heap.get?_push_of_some _ e), ?_, q⟩
    show Value.bool _ = Value.bool _
    rw [List.size_toArray, ← hl, range_any]
/-! ### for sign in text -/
end
end L2

namespace L2
open PySem PySem.Spec PyProof.Rows
/-! ### the signs of a number, of a row -/
def dig (m : Nat) : List Nat := (Nat.toDigits 10 m).map Char.toNat
def numL (n : Int) : List Nat := if n < 0 then 45 :: dig n.natAbs else dig n.natAbs
def numS (n : Int) : Str := Str.ofString (toString n)
theorem numS_cps (n : Int) : (numS n).cps.toList = numL n := by
  unfold numS numL dig
  rw [signs_ofString, Int.toString_eq_repr, Int.repr_eq_if]
  by_cases h : 0 ≤ n
  · rw [if_pos h, if_neg (by omega), Nat.toList_repr]
    congr 2
    omega
  · rw [if_neg h, if_pos (by omega)]
    rw [String.toList_append, List.map_append, Nat.toList_repr]
    have e : n.natAbs = (-n).toNat := by omega
    rw [e]
    rfl
theorem dig_len {m k : Nat} (hk : 1 ≤ k) (h : m < 10 ^ k) : (dig m).length ≤ k := by
  unfold dig
  rw [List.length_map]
  exact toDigits_len_pow (by decide) hk h
theorem dig_low {m : Nat} (h : m < 10) : dig m = [48 + m] := by
  unfold dig
  rw [Nat.toDigits_of_lt_base h]
  have e : ∀ d : Nat, d < 10 → (Nat.digitChar d).toNat = 48 + d := by decide
  rw [List.map_singleton, e _ h]
theorem numL_len {n : Int} {k : Nat} (hk : 1 ≤ k) (h : n.natAbs < 10 ^ k) : (numL n).length ≤ k + 1 := by
  have := dig_len hk h
  unfold numL
  split
  · rw [List.length_cons]; omega
  · omega
theorem numS_len {n : Int} {k : Nat} (hk : 1 ≤ k) (h : n.natAbs < 10 ^ k) : (numS n).length ≤ k + 1 := by
  have e : (numS n).length = (numL n).length := by rw [← numS_cps]; simp [Str.length]
  rw [e]
  exact numL_len hk h
/-! ### words joined by a blank, and split again -/
def blank : Str := " "
/-- a row as a text -/
def shown (ns : List Int) : Str := Str.join blank (ns.map numS)
end L2

namespace L2
open PySem PySem.Spec PyProof.Rows
section
variable {X : Cx}
end
end L2

namespace L2
open PySem PySem.Spec PyProof.Rows
section
variable {X : Cx}
end
end L2

namespace PySem
open Builtin
end PySem

namespace PySem
open Builtin PySem.AutoSeq1
end PySem
namespace L2
open PySem PySem.Spec PyProof.Rows
end L2

namespace L2
open PySem PySem.Spec PyProof.Rows
/-! ### sorted(xs, key=f) -/
/-- an own record, not tracked so far, is tracked from here on -/
theorem Inv.adopt {X : Cx} {pins : List (Addr × Obj)} {σ : St} {H : Hp} {s : Shared} {h' : Heap} {fp : List Addr} {t' : Nat} {p : Addr} {o' : HO} (I : Inv X pins σ H s) (hf : ∀ b ∈ fp, FpOk X pins H b) (hp : p ∈ fp) (k : ∀ c o, c ∉ fp → s.heap.get? c = some o → h'.get? c = some o) (new : ObjOk X.prog X.w (upd H p o') h' p o') :
    Inv X pins σ (upd H p o') { s with heap := h', toks := t' } := by
  have nfp : ∀ b u, H b = some u → b ∉ fp := fun b u e z => by rw [(hf b z).1] at e; cases e
  have hn : H p = none := (hf p hp).1
  have np : ∀ b u, H b = some u → b ≠ p := fun b u e => ne_of_none e hn
  refine I.step (g' := s.gens) (d' := s.drawn) (ch := fp) (fun b hb => ?_) (fun b o _ _ hc e _ => k b o hc e) (fun b o _ _ hc e _ => ⟨o.slots, k b o hc e⟩) (fun b o hc e n => by rw [upd_ne (fun z => hc (by rw [z]; exact hp))]; exact n) (fun b o hc e => ⟨o, k b o hc e⟩)
    (fun b _ e => by rw [upd_ne (np _ _ e)]; exact e) (fun b _ _ e => by rw [upd_ne (np _ _ e)]; exact e) (fun b ps e => ⟨#[], by rw [upd_ne (np _ _ e), e]; simp⟩) (fun m hm => ?_) (fun b u e => ?_) I.bare
  · obtain ⟨f0, f1, f2, f3, f4, f5⟩ := hf b hb
    exact ⟨f3, f1, f4, f5⟩
  · obtain ⟨o, es, ep, ho, r⟩ := hm
    exact ⟨o, es, ep, k _ o (fun z => (hf _ z).2.1 rfl) ho, r⟩
  · by_cases hb : b = p
    · subst hb; rw [upd_same] at e; cases e; exact new
    · rw [upd_ne hb] at e
      refine (I.hok b u e).stay (fun c v hc q => k c v ?_ q) (fun c q => by rw [upd_ne (np _ _ q)]; exact q) fun c ys q => by rw [upd_ne (np _ _ q)]; exact q
      rcases hc with z | z
      · rw [z]; exact nfp b u e
      · exact nfp c _ z
theorem Vals.snoc {xs : List V} {us : List Value} {x : V} {u : Value} (h : Vals xs us) (r : RelV x u) : Vals (xs ++ [x]) (us ++ [u]) := by
  induction h with
  | nil => exact .cons r .nil
  | cons a b ih => exact .cons a ih
theorem Paired.snoc' {α β : Type} {F : α → β → Prop} {l : List α} {m : List β} {x : α} {y : β} (h : Paired F l m) (r : F x y) : Paired F (l ++ [x]) (m ++ [y]) := by
  induction h with
  | nil => exact .cons r .nil
  | cons a b ih => exact .cons a ih
/-- what the sort gives: things with their codes -/
def KeyOut (cs : List (List Int)) (xs : List V) (ps : List (List Int × V)) : Prop := ps.Perm (cs.zip xs) ∧ ps.Pairwise fun a b => leC a.1 b.1
section
variable {X : Cx} {pins : List (Addr × Obj)} {σ : St} {H0 : Hp} {f a kS : Addr} {xs : List V} {cs : List (List Int)} {VC : Hp → V → List Int → Prop} {HC : Heap → Value → List Int → Prop} {e1 : Nat} {E : Value → Shared → Prop}
theorem zip_paired {RK : V → List Int → Prop} : ∀ {ys : List V} {ks : List Value} {cs : List (List Int)} {xs : List V} {vs : List Value}, Vals ys ks → Paired RK ys cs → Vals xs vs → Paired (fun (p : List Int × V) (q : Value × Value) => (∃ y, RK y p.1 ∧ RelV y q.1) ∧ RelV p.2 q.2) (cs.zip xs) (ks.zip vs)
  | _, _, _, _, _, .nil, .nil, _ => by simp; exact .nil
  | _, _, _, _, _, .cons r1 t1, .cons r2 t2, .nil => by simp; exact .nil
  | _, _, _, _, _, .cons r1 t1, .cons r2 t2, .cons r3 t3 => by
    simp only [List.zip_cons_cons]
    exact .cons ⟨⟨_, r2, r1⟩, r3⟩ (zip_paired t1 t2 t3)
theorem keyed_end (sc : SCode X VC HC) {s : Shared} {H : Hp} {vs : List Value} {kA : Array Value} {ys : List V} {e : Nat} {P : PySem.Fin → Shared → Prop} (hka : kS ≠ a) (hz : xs.length ≤ 1000000) (fA : FpOk X pins H0 a) (fK : FpOk X pins H0 kS)
    (I : Inv X (pins ++ [(kS, seqObj "list" kA e), (a, seqObj "list" #[] e1)]) σ H s) (rv : Vals xs vs) (ry : Vals ys kA.toList) (hc : Paired (VC H) ys cs) (hlen : cs.length = xs.length)
    (h : ∀ (h' : Heap) (tk : Nat) (ps : List (List Int × V)), KeyOut cs xs ps → H a = none → Inv X pins σ (upd H a (.lst (ps.map (·.2)))) { s with heap := h', toks := tk } → P (.done (.ret .none)) { s with heap := h', toks := tk }) :
    wpAny (model X.prog X.w) X.A.in1.in1 (ksk_end a false vs.toArray e1 (.ref kS) kA) P E s := by
  have hsl : sizeLine = 16777216 := sizeLine_eq
  have nk := I.pin (kS, seqObj "list" kA e) (by simp)
  have na := I.pin (a, seqObj "list" #[] e1) (by simp)
  have I1 : Inv X pins σ H s := I.unpinned
  have lv : vs.length = xs.length := (Vals.length rv).symm
  have ly : ys.length = cs.length := Paired.length hc
  have lk : kA.size = ys.length := by rw [← Array.length_toList]; exact (Vals.length ry).symm
  have hcode : ∀ u ∈ kA.toList, ∃ c, HC s.heap u c := fun u hu => by
    obtain ⟨v, hv, rvu⟩ := Paired.memR ry hu
    obtain ⟨c, _, hc'⟩ := Paired.memL hc hv
    exact ⟨c, sc.down I1 hc' rvu⟩
  obtain ⟨cf, hcf⟩ : ∃ cf : Value → List Int, ∀ u ∈ kA.toList, HC s.heap u (cf u) := by
    classical
    refine ⟨fun u => if h : ∃ c, HC s.heap u c then h.choose else [], fun u hu => ?_⟩
    have h := hcode u hu
    dsimp only
    rw [dif_pos h]
    exact h.choose_spec
  have hzip : (kA.zip vs.toArray).toList = kA.toList.zip vs := ksk_zip kA vs
  have fin : ∀ st : SortSt, (arrOf st).toList.Perm (kA.toList.zip vs) → failedOf st = none → (arrOf st).toList.Pairwise (leO fun (p q : Keyed) => HT.lexLt (cf p.1) (cf q.1)) → wpAny (model X.prog X.w) X.A.in1.in1 (ksk_tail a false e1 (.ref kS) st) P E s := by
    intro st hp hfl hso
    obtain ⟨ps, w1, w2⟩ := Paired.perm hp (zip_paired ry hc rv)
    have sz : ((arrOf st).map (·.2)).size = xs.length := by
      rw [Array.size_map, ← Array.length_toList, hp.length_eq, List.length_zip, Array.length_toList]; omega
    have s1 := Heap.SameBut.update s.heap kS (Obj.mapSeq fun _ => (#[] : Array Value))
    have na1 : (s.heap.update kS (Obj.mapSeq fun _ => (#[] : Array Value))).get? a = some (seqObj "list" #[] e1) := (s1.2 a hka.symm).trans na.1
    have s2 := Heap.SameBut.update (s.heap.update kS (Obj.mapSeq fun _ => (#[] : Array Value))) a (Obj.mapSeq fun _ => (arrOf st).map (·.2))
    obtain ⟨c2, hc2⟩ : ∃ c2, ((s.heap.update kS (Obj.mapSeq fun _ => (#[] : Array Value))).update a (Obj.mapSeq fun _ => (arrOf st).map (·.2))).get? a = some (seqObj "list" ((arrOf st).map (·.2)) c2) := ⟨_, get?_update_seq na1 fun _ => (arrOf st).map (·.2)⟩
    unfold ksk_tail
    try dsimp only
    refine wpAny_bind (listUpdate_at nk.1 rfl ?_ (by rw [lk, ly, hlen]; omega) (Nat.zero_le _))
    refine wpAny_bind (wpAny_letGo ?_)
    refine wpAny_bind (seqEpoch_at na1 rfl ?_)
    simp only [Bool.false_eq_true, if_false]
    refine wpAny_bind (listUpdate_at na1 rfl ?_ (Nat.zero_le _) (Nat.le_trans (Nat.le_of_eq sz) (by omega)))
    rw [hfl]
    simp only [bne_self_eq_false, Bool.false_eq_true, if_false]
    have pw : ps.Pairwise fun a b => leC a.1 b.1 := by
      have em : ∀ (ps : List (List Int × V)) (qs : List Keyed), (∀ q ∈ qs, q.1 ∈ kA.toList) → Paired (fun (p : List Int × V) (q : Value × Value) => (∃ y, VC H y p.1 ∧ RelV y q.1) ∧ RelV p.2 q.2) ps qs → ps.map (·.1) = qs.map fun q => cf q.1 := by
        intro ps qs hm pq
        induction pq with
        | nil => rfl
        | cons r t ih =>
          obtain ⟨⟨y, c1, c2⟩, _⟩ := r
          rw [List.map_cons, List.map_cons, ih fun q hq => hm q (List.mem_cons_of_mem _ hq), sc.uniq (sc.down I1 c1 c2) (hcf _ (hm _ (List.mem_cons_self ..)))]
      have e := em ps _ (fun q hq => (List.of_mem_zip (hp.mem_iff.mp hq)).1) w1
      have := (List.pairwise_map (f := fun q : Keyed => cf q.1) (R := leC)).mpr hso
      rw [← e] at this
      exact List.pairwise_map.mp this
    have rv2 : Vals (ps.map (·.2)) ((arrOf st).map (·.2)).toList := by
      rw [Array.toList_map]
      clear pw w2 sz hc2 s2
      revert w1
      generalize (arrOf st).toList = qs
      intro w1
      induction w1 with
      | nil => exact .nil
      | cons r t ih => exact .cons r.2 ih
    refine wpAny_pure (h _ _ ps ⟨w2, pw⟩ na.2.1 (I1.adopt (fp := [kS, a]) (fun b hb => ?_) (by simp) (fun c o hc e => ?_) ⟨?_, ((arrOf st).map (·.2)).toList, c2, rv2, ?_⟩))
    · simp only [List.mem_cons, List.not_mem_nil, or_false] at hb
      rcases hb with rfl | rfl
      · exact ⟨nk.2.1, fK.2⟩
      · exact ⟨na.2.1, fA.2⟩
    · simp only [List.mem_cons, List.not_mem_nil, or_false, not_or] at hc
      exact (s2.2 c hc.2).trans ((s1.2 c hc.1).trans e)
    · rw [Vals.length rv2, Array.length_toList, sz]; omega
    · rw [Array.toArray_toList]; exact hc2
  unfold ksk_end
  try dsimp only
  simp only [Bool.false_eq_true, if_false]
  by_cases h2 : vs.toArray.size < 2
  · rw [if_pos h2, if_pos h2]
    refine wpAny_bind (wpAny_pure ?_)
    rw [StateT.run_pure]
    refine wpAny_bind (wpAny_pure ?_)
    try dsimp only
    refine fin (SortSt.mk' general' (kA.zip vs.toArray) #[] 7 none) (by show (kA.zip vs.toArray).toList.Perm _; rw [hzip]) rfl ?_
    show (kA.zip vs.toArray).toList.Pairwise _
    rw [hzip]
    have hl2 : (kA.toList.zip vs).length < 2 := by rw [List.length_zip]; rw [List.size_toArray] at h2; omega
    match kA.toList.zip vs, hl2 with
    | [], _ => exact .nil
    | [_], _ => exact List.pairwise_singleton ..
    | _ :: _ :: _, h => exact absurd h (by simp)
  · rw [if_neg h2, if_neg h2]
    have h2' : 2 ≤ kA.toList.length := by rw [List.size_toArray] at h2; rw [Array.length_toList]; omega
    obtain ⟨κ, k1, k2⟩ := sc.asks (s := s) (vs := kA.toList) hcode h2'
    have ek : kA.toList.toArray = kA := Array.toArray_toList
    rw [ek] at k1
    refine wpAny_bind (wpAny_mono (k1 (fun k s' => k = κ ∧ s' = s) ⟨rfl, rfl⟩) ?_ fun _ _ x => x.elim)
    rintro κ' _ ⟨rfl, rfl⟩
    have mem : ∀ p ∈ (kA.zip vs.toArray).toList, p.1 ∈ kA.toList := fun p hp => by rw [hzip] at hp; exact (List.of_mem_zip hp).1
    have run := wpS_sortRunsG (E := E) (κ := κ') (S := fun p => p.1 ∈ kA.toList) (LT := fun (p q : Keyed) => HT.lexLt (cf p.1) (cf q.1)) (st := SortSt.mk' κ' (kA.zip vs.toArray) #[] 7 none) (Q := fun _ st' => (arrOf st').toList.Perm (kA.zip vs.toArray).toList ∧ failedOf st' = none ∧ (arrOf st').toList.Pairwise (leO fun (p q : Keyed) => HT.lexLt (cf p.1) (cf q.1)))
      ⟨fun x y _ _ h => lex_asym _ _ h, fun x y z _ _ _ h1 h2 => lex_ge _ _ _ h1 h2⟩ (ltIs_of (S := fun u => u ∈ kA.toList) (LT := fun u v => HT.lexLt (cf u) (cf v)) fun u v C hu hv hC => k2 u v _ _ C (hcf u hu) (hcf v hv) hC) rfl rfl rfl (fun j x e => mem x (mem_at e)) fun st' e1 e2 e3 => ⟨e1, e2, e3⟩
    refine wpAny_bind (wpAny_mono run ?_ fun _ _ e => e)
    rintro ⟨⟨⟩, st'⟩ s' ⟨rfl, hp, hf, hso⟩
    try dsimp only at hp hf hso ⊢
    rw [hzip] at hp
    exact fin st' hp hf hso
end
end L2

namespace L2
open PySem PySem.Spec PyProof.Rows
section
variable {X : Cx} {pins : List (Addr × Obj)} {σ : St} {H0 : Hp} {f a kS : Addr} {xs : List V} {cs : List (List Int)} {VC : Hp → V → List Int → Prop} {HC : Heap → Value → List Int → Prop} {e1 : Nat} {E : Value → Shared → Prop}
/-- the key of a thing is made by a call -/
def KeyCall (X : Cx) (σ : St) (H0 : Hp) (f : Addr) (xs : List V) (cs : List (List Int)) (VC : Hp → V → List Int → Prop) : Prop :=
  ∀ (i : Nat) (x : V) (u : Value) (c : List Int) (pins : List (Addr × Obj)) (s' : Shared) (H' : Hp), xs[i]? = some x → cs[i]? = some c → Inv X pins σ H' s' → RelV x u → Same H0 H' →
    wpAny (model X.prog X.w) X.A.in1.in1 (call (.ref f) [u]) (fun v s'' => ∃ y H2, Inv X pins σ H2 s'' ∧ RelV y v ∧ VC H2 y c ∧ Same H' H2) (fun _ _ => False) s'
theorem keyed_rest (sc : SCode X VC HC) (vm : ∀ H H' v c, Same H H' → VC H v c → VC H' v c) {s : Shared} {vs : List Value} {P : PySem.Fin → Shared → Prop} (hka : kS ≠ a) (hz : xs.length ≤ 1000000) (fA : FpOk X pins H0 a) (fK : FpOk X pins H0 kS) (hlen : cs.length = xs.length)
    (hkey : KeyCall X σ H0 f xs cs VC) (I : Inv X (pins ++ [(kS, seqObj "list" #[] 0), (a, seqObj "list" #[] e1)]) σ H0 s) (rv : Vals xs vs)
    (h : ∀ (s' : Shared) (H' : Hp) (ps : List (List Int × V)), Same H0 H' → KeyOut cs xs ps → H' a = none → Inv X pins σ (upd H' a (.lst (ps.map (·.2)))) s' → P (.done (.ret .none)) s') :
    wpAny (model X.prog X.w) X.A.in1.in1 (ksk_rest a (.ref f) false vs.toArray e1 (.ref kS)) P E s := by
  have hsl : sizeLine = 16777216 := sizeLine_eq
  have lv : vs.length = xs.length := (Vals.length rv).symm
  unfold ksk_rest
  refine wpAny_bind (wpAny_rule ?_)
  first
    | rw [List.forIn_toArray]
    | (rw [← Array.forIn_toList]; simp only [List.toList_toArray])
    | rw [← Array.forIn_toList]
  refine wpAny_bind (ksk_fold (fun i s' => ∃ (H' : Hp) (kA : Array Value) (e : Nat) (ys : List V), Inv X (pins ++ [(kS, seqObj "list" kA e), (a, seqObj "list" #[] e1)]) σ H' s' ∧ Same H0 H' ∧ Vals ys kA.toList ∧ Paired (VC H') ys (cs.take i)) vs 0 s
    ⟨H0, #[], 0, [], I, Same.refl _, .nil, by simp; exact .nil⟩ ?step ?done)
  case step =>
    rintro j u s' hu ⟨H', kA, e, ys, J, S1, ry, hc⟩
    simp only [Nat.zero_add] at hc ⊢
    have hj : j < vs.length := (List.getElem?_eq_some_iff.mp hu).1
    obtain ⟨x, hx, rx⟩ := Paired.atR rv hu
    obtain ⟨c, hcj⟩ : ∃ c, cs[j]? = some c := ⟨_, List.getElem?_eq_getElem (by omega)⟩
    have lk : kA.size ≤ xs.length := by
      rw [← Array.length_toList, ← Vals.length ry, Paired.length hc, List.length_take]; omega
    refine wpAny_bind (wpAny_attempt (wpAny_mono (hkey j x u c _ s' H' hx hcj J rx S1) (fun v s2 he => ?_) fun _ _ hF => hF.elim))
    obtain ⟨y, H2, J2, ryv, hy, S2⟩ := he
    try dsimp only
    have nk := J2.pin (kS, seqObj "list" kA e) (by simp)
    have na := J2.pin (a, seqObj "list" #[] e1) (by simp)
    have J1 : Inv X pins σ H2 s2 := J2.unpinned
    have s1 := Heap.SameBut.update s2.heap kS (Obj.mapSeq (·.push v))
    obtain ⟨c2, hc2⟩ : ∃ c2, (s2.heap.update kS (Obj.mapSeq (·.push v))).get? kS = some (seqObj "list" (kA.push v) c2) := ⟨_, get?_update_seq nk.1 (·.push v)⟩
    refine wpAny_bind (listUpdate_at nk.1 rfl ?_ (by omega) (Nat.le_trans (Nat.le_of_eq (Array.size_push ..)) (by omega)))
    have J3 : Inv X pins σ H2 { s2 with heap := s2.heap.update kS (Obj.mapSeq (·.push v)) } := J1.turned (t' := s2.toks) (it := kS) (fun b o hb e => (s1.2 b hb).trans e) nk.2.1 fK.2.1 fK.2.2.2.1 fK.2.2.2.2.1 fK.2.2.2.2.2
    refine wpAny_pure ⟨rfl, H2, kA.push v, c2, ys ++ [y], J3.pins_of fun p hp => ?_, S1.trans S2, ?_, ?_⟩
    · rcases List.mem_append.mp hp with z | z
      · exact J3.pin p (List.mem_append_right _ z)
      · simp only [List.mem_cons, List.not_mem_nil, or_false] at z
        rcases z with rfl | rfl
        · exact ⟨hc2, nk.2.1, fK.2.1, fK.2.2.1, fun v q => by cases q⟩
        · exact ⟨(s1.2 a hka.symm).trans na.1, na.2.1, fA.2.1, fA.2.2.1, fun v q => by cases q⟩
    · rw [Array.toList_push]; exact ry.snoc ryv
    · rw [List.take_add_one, hcj]
      exact Paired.snoc' (Paired.imp' (fun v c q => vm _ _ _ _ S2 q) hc) hy
  case done =>
    rintro s' ⟨H', kA, e, ys, J, S1, ry, hc⟩
    have ec : cs.take (0 + vs.length) = cs := List.take_of_length_le (by omega)
    rw [ec] at hc
    have nk := J.pin (kS, seqObj "list" kA e) (by simp)
    try dsimp only
    refine wpAny_bind (listItems_at nk.1 rfl ?_)
    exact keyed_end sc hka hz fA fK J rv ry hc hlen fun h' tk ps ko hn J' => h _ H' ps S1 ko hn J'
/-- what a sequence is collected to -/
def Coll (X : Cx) (arg : Value) (xs : List V) (s : Shared) : Prop :=
  ∀ P : List Value → Shared → Prop, (∀ (hC : Heap) (tk : Nat) (vs : List Value), s.heap.objs.size ≤ hC.objs.size → (∀ b o, s.heap.get? b = some o → hC.get? b = some o) → Vals xs vs → P vs { s with heap := hC, toks := tk }) → wpAny (model X.prog X.w) X.A.in1 (collect arg) P X.xe s
theorem sorted_keyed (sc : SCode X VC HC) (vm : ∀ H H' v c, Same H H' → VC H v c → VC H' v c) {s : Shared} {arg : Value} {Q : VK} (hz : xs.length ≤ 1000000) (hlen : cs.length = xs.length) (I : Inv X pins σ H0 s) (hcol : Coll X arg xs s)
    (hkey : KeyCall X σ H0 f xs cs VC) (h : ∀ (q : Addr) (ps : List (List Int × V)) (H' : Hp), H0 q = none → H' q = none → Same H0 H' → KeyOut cs xs ps → Q (.ref q) (upd H' q (.lst (ps.map (·.2))))) :
    wpAny (model X.prog X.w) X.A (call (.builtin "sorted") [arg] [(Str.ofString "key", .ref f)]) (EP X pins σ Q) X.xe s := by
  have hsl : sizeLine = 16777216 := sizeLine_eq
  refine call_function_entry_kw kind_sorted plain_sorted entry_sorted (ksk_s1 _ _) ?_
  unfold Builtin.«sorted»
  refine wpAny_bind (m := checkCount "sorted" 1 1 _) (wpAny_pure ?_)
  refine wpAny_bind (hcol _ fun hC tk vs hsz hk rv => ?_)
  have lv : vs.length = xs.length := (Vals.length rv).symm
  have I1 : Inv X pins σ H0 { s with heap := hC, toks := tk } := I.kept hk
  refine wpAny_bind (wpAny_newList ?_ (by omega))
  have hoL : (hC.push (seqObj "list" vs.toArray 0)).get? hC.objs.size = some (seqObj "list" vs.toArray 0) := Heap.get?_push_size _ rfl
  have I2 : Inv X pins σ H0 { s with heap := hC.push (seqObj "list" vs.toArray 0), toks := tk } := I1.kept (t' := tk) fun b o e => Heap.get?_push_of_some _ e
  have fA : FpOk X pins H0 hC.objs.size := I1.fpOk (Nat.le_refl _) (I1.hok.fresh (Nat.le_refl _))
  refine wpAny_bind (wpAny_holding (wpAny_call_entry_kw slot_list_sort ⟨_, hoL, rfl⟩ entry_list_sort ?body (ksk_l1 _ _)))
  case body =>
    show wpAny (model X.prog X.w) X.A.in1.in1 (Builtin.«list.sort» ⟨[.ref hC.objs.size], [(Str.ofString "key", .ref f)]⟩) _ _ _
    rw [ksk_t1]
    obtain ⟨e1, ho1⟩ : ∃ e1, ((hC.push (seqObj "list" vs.toArray 0)).update hC.objs.size (Obj.mapSeq fun _ => (#[] : Array Value))).get? hC.objs.size = some (seqObj "list" #[] e1) := ⟨_, get?_update_seq hoL fun _ => #[]⟩
    have s1 := Heap.SameBut.update (hC.push (seqObj "list" vs.toArray 0)) hC.objs.size (Obj.mapSeq fun _ => (#[] : Array Value))
    have I3 : Inv X pins σ H0 { s with heap := (hC.push (seqObj "list" vs.toArray 0)).update hC.objs.size (Obj.mapSeq fun _ => (#[] : Array Value)), toks := tk } := Inv.turned (s := { s with heap := hC.push (seqObj "list" vs.toArray 0), toks := tk }) I2 (t' := tk) (it := hC.objs.size) (fun b o hb e => (s1.2 b hb).trans (show (hC.push (seqObj "list" vs.toArray 0)).get? b = some o from e)) fA.1 fA.2.1 fA.2.2.2.1 fA.2.2.2.2.1 fA.2.2.2.2.2
    unfold ksk_tree
    refine wpAny_bind (listItems_at hoL rfl ?_)
    refine wpAny_bind (listUpdate_at hoL rfl ?_ (by rw [List.size_toArray]; omega) (Nat.zero_le _))
    refine wpAny_bind (seqEpoch_at ho1 rfl ?_)
    refine wpAny_bind (wpAny_newTuple ?_ (by show vs.length ≤ _; omega))
    refine wpAny_bind (wpAny_newList ?_ (Nat.zero_le _))
    refine wpAny_holding ?_
    generalize hU : (hC.push (seqObj "list" vs.toArray 0)).update hC.objs.size (Obj.mapSeq fun _ => (#[] : Array Value)) = U at *
    have I4 : Inv X pins σ H0 { s with heap := (U.push (seqObj "tuple" vs.toArray 0)).push (seqObj "list" #[] 0), toks := tk } := I3.kept (t' := tk) fun b o e => Heap.get?_push_of_some _ (Heap.get?_push_of_some _ e)
    have hkS : (U.push (seqObj "tuple" vs.toArray 0)).objs.size = U.objs.size + 1 := size_push' ..
    have hUs : hC.objs.size < U.objs.size := Heap.lt_size ho1
    have fK : FpOk X pins H0 (U.push (seqObj "tuple" vs.toArray 0)).objs.size := by rw [hkS]; exact I3.fpOk (Nat.le_succ _) (I3.hok.fresh (Nat.le_succ _))
    have gK : ((U.push (seqObj "tuple" vs.toArray 0)).push (seqObj "list" #[] 0)).get? (U.push (seqObj "tuple" vs.toArray 0)).objs.size = some (seqObj "list" #[] 0) := Heap.get?_push_size _ rfl
    have gA : ((U.push (seqObj "tuple" vs.toArray 0)).push (seqObj "list" #[] 0)).get? hC.objs.size = some (seqObj "list" #[] e1) := Heap.get?_push_of_some _ (Heap.get?_push_of_some _ ho1)
    refine keyed_rest (kS := (U.push (seqObj "tuple" vs.toArray 0)).objs.size) (xs := xs) (cs := cs) (H0 := H0) (pins := pins) (σ := σ) sc vm (by rw [hkS]; exact Nat.ne_of_gt (Nat.lt_succ_of_lt hUs)) hz fA fK hlen hkey (I4.pins_of fun p hp => ?_) rv fun s' H' ps S' ko hn J => ⟨_, rfl, wpAny_pure ⟨_, rfl, .ref hC.objs.size, _, J, rfl, h _ ps H' (I.hok.fresh hsz) hn S' ko⟩⟩
    rcases List.mem_append.mp hp with z | z
    · exact I4.pin p (List.mem_append_right _ z)
    · simp only [List.mem_cons, List.not_mem_nil, or_false] at z
      rcases z with rfl | rfl
      · exact ⟨gK, fK.1, fK.2.1, fK.2.2.1, fun v q => by cases q⟩
      · exact ⟨gA, fA.1, fA.2.1, fA.2.2.1, fun v q => by cases q⟩
end
/-- the list itself -/
theorem coll_list {X : Cx} {pins : List (Addr × Obj)} {σ : St} {H : Hp} {s : Shared} {l : Addr} {xs : List V} (I : Inv X pins σ H s) (hl : SqL X.K H l xs) (hz : xs.length ≤ 1000000) : Coll X (.ref l) xs s := by
  intro P h
  have hsl : sizeLine = 16777216 := sizeLine_eq
  obtain ⟨its, r, p, _⟩ := I.list hl
  have hlen : its.length = xs.length := (Vals.length r).symm
  refine collect_list p.isList (h _ s.toks its (by rw [Heap.size_update, size_push']; exact Nat.le_succ _) (fun b o q => ?_) r) (by omega)
  have hlt : b < s.heap.objs.size := Heap.lt_size q
  rw [Heap.get?_update_ne _ _ _ _ (Nat.ne_of_lt hlt), Heap.get?_push_ne _ _ _ (Nat.ne_of_lt hlt)]
  exact q
theorem vi_mono : ∀ (H H' : Hp) (v : V) (c : List Int), Same H H' → VI H v c → VI H' v c := fun _ _ _ _ _ h => h
end L2

namespace L2
open PySem PySem.Spec PyProof.Rows
/-! ### a lambda that keeps names of the frame that made it, called from that frame -/
abbrev Cx.lam (X : Cx) (A : Around) (N : List Str) (qual : Str) (scope : Scope) (cl : List (Str × Addr)) (f c : Addr) (s : Shared) (H : Hp) : Cx :=
  { X with A := A.deeper (PySem.W.envX qual scope s.heap.objs.size f (.ref c) cl), N := N, s₀ := s, H₀ := H, env := PySem.W.envX qual scope s.heap.objs.size f (.ref c) cl, outer := X.stack, stack := PySem.W.envX qual scope s.heap.objs.size f (.ref c) cl :: X.stack, ex := [], fn := fun _ => false, calm := true, pn := [], xe := fun _ _ => False }
section
variable {X : Cx} {A : Around} {y : Str} {Nc : List Str} {cap : List (Option Nat)} {qual : Str} {scope : Scope} {cl : List (Str × Addr)} {f c : Addr} {s : Shared} {H : Hp} {pins : List (Addr × Obj)} {σ : St}
theorem lam_in {h1 : Heap} {m : Str → Option Value} {tk : Nat} {v : V} {u : Value} (I : Inv X pins σ H s) (ok : BlkOk X.N X.env.scope Nc cap scope)
    (cl1 : ∀ x c, cl.lookup x = some c → X.env.cells.lookup x = some c) (cl2 : ∀ x ∈ scope.names, x.2 = .free → ∃ c, cl.lookup x.1 = some c)
    (e0 : Env0 X.prog X.w X.K X.mg X.base A X.stack s H) (hd : A.handled = none) (hy : scope.names.lookup y = some .local) (rv : RelV v u) (hn : h1.Ns s.heap.objs.size m) (hm : m y = some u) (hk : ∀ b o, s.heap.get? b = some o → h1.get? b = some o) :
    Inv (X.lam A (y :: Nc) qual scope cl f c s H) [] (some v :: capt cap σ) H { s with heap := h1, toks := tk } := by
  have cellK : ∀ x c, cl.lookup x = some c → ∃ v, h1.IsCell c v := fun x c e => by
    obtain ⟨v, o, ho, hd⟩ := I.cell x c (cl1 x c e)
    exact ⟨v, o, hk c o ho, hd⟩
  have fr : H s.heap.objs.size = none := I.hok.fresh (Nat.le_refl _)
  have key : ∀ (x : Str) (k : NameKind) (l : List (Str × NameKind)), l.lookup x = some k → (x, k) ∈ l := fun x k l z => PySem.mem_of_lookup z
  refine ⟨⟨e0.mod, ok.kind, rfl, rfl, Nat.le_refl _, fun x y c e1 e2 => I.ok.inj x y c (cl1 _ _ e1) (cl1 _ _ e2), fun x hx => ?_, (fun x c z => nomatch z), fun _ => hd, Around.frames_deeper e0.frames, .inr ⟨rfl, rfl⟩, fun b z => absurd (show b ∈ ([] : List Addr) from z) (by simp),
    e0.bs, e0.bsz, fun b _ _ z => absurd (show b ∈ ([] : List Addr) from z) (by simp), fun b z => absurd (show b ∈ ([] : List Addr) from z) (by simp), e0.funs, e0.frf⟩, rfl, e0.bare, Un.kept hk, ⟨m, hn, fun j x w e1 e2 e3 => ?_⟩, cellK, fr, fun x c e => I.freeC x c (cl1 x c e), (fun p hp => nomatch hp), e0.hok.kept hk, ?_⟩
  · have hx : scope.names.lookup x = some .cell ∨ scope.names.lookup x = some .free := hx
    rcases hx with z | z
    · exact absurd rfl (ok.cell _ (key _ _ _ z))
    · exact cl2 _ (key _ _ _ z) rfl
  · cases j with
    | zero =>
      have e1 : some y = some x := e1
      cases e1
      have e2 : some (some v) = some (some w) := e2
      cases e2
      exact ⟨u, rv, .inl ⟨hy, hm⟩⟩
    | succ j =>
      have e1 : Nc[j]? = some x := e1
      have e2 : (capt cap σ)[j]? = some (some w) := e2
      unfold capt at e2
      rw [List.getElem?_map] at e2
      cases hj : cap[j]? with
      | none => rw [hj] at e2; cases e2
      | some o =>
        rw [hj] at e2
        cases o with
        | none => cases e2
        | some i =>
          obtain ⟨h1', h2⟩ := ok.cap j i x hj e1
          have e2' : (σ[i]?).join = some w := Option.some.inj e2
          have e4 : σ[i]? = some (some w) := by
            cases hs : σ[i]? with
            | none => rw [hs] at e2'; cases e2'
            | some o => rw [hs] at e2'; exact congrArg some e2'
          have hmem := key _ _ _ h2
          have hout := ok.free _ hmem rfl
          obtain ⟨m', hn', hl'⟩ := I.loc
          obtain ⟨u', r, l⟩ := hl' i x w h1' e4 (.inr hout)
          refine ⟨u', r, .inr ⟨.inr h2, ?_⟩⟩
          rcases l with ⟨kl, _⟩ | ⟨_, c, hc, o, ho, hd⟩
          · rcases hout with z | z
            · rw [show X.env.kindOf x = some .cell from z] at kl; cases kl
            · rw [show X.env.kindOf x = some .free from z] at kl; cases kl
          · obtain ⟨c', hc'⟩ := cl2 _ hmem rfl
            have e' : X.env.cells.lookup x = some c' := cl1 _ _ hc'
            rw [hc] at e'
            cases e'
            exact ⟨c, hc', o, hk c o ho, hd⟩
  · show (some v :: capt cap σ).length = (y :: Nc).length
    unfold capt
    rw [List.length_cons, List.length_map, ok.len, List.length_cons]
/-- THE CALL of such a lambda -/
theorem lam_run {name : Str} {params : Arguments} {body : Expr} {pm ct : Value} {u : Value} {v : V} {t : TE} {Q : VK} (I : Inv X pins σ H s) (ok : BlkOk X.N X.env.scope Nc cap scope) (hco : scope.isCoroutine = false) (hgen : scope.isGenerator = false) (hloc : scope.names.lookup y = some .local)
    (cl1 : ∀ x c, cl.lookup x = some c → X.env.cells.lookup x = some c) (cl2 : ∀ x ∈ scope.names, x.2 = .free → ∃ c, cl.lookup x.1 = some c)
    (e0 : Env0 X.prog X.w X.K X.mg X.base A X.stack s H) {k : Nat} (hr : Room k A) (rv : RelV v u)
    (hf : H f = some (LamO f (PySem.W.kla_fn name qual params body scope cl pm (.ref c) ct))) (hc : H c = some (CodeO c qual)) (hb : bindArgs (PySem.W.kla_fn name qual params body scope cl pm (.ref c) ct) ⟨[u], []⟩ = pure [(y, u)])
    (ht : PE (X.lam A (y :: Nc) qual scope cl f c s H) body t) (hq : t (some v :: capt cap σ) H Q) : wpAny (model X.prog X.w) A (call (.ref f) [u]) (EP X pins σ Q) (fun _ _ => False) s := by
  have lim : s.heap.NoLimit := I.nolimit
  obtain ⟨o, ho, hd⟩ := (show ObjOk X.prog X.w H s.heap f (LamO f _) from e0.hok f _ hf).1
  have hcd := (show ObjOk X.prog X.w H s.heap c (CodeO c qual) from e0.hok c _ hc).1
  refine wpAny_call (PySem.W.kla_callFunE hr.depth ho hd hco hgen rfl hcd ?_)
  rw [hb]
  refine wpAny_pure (wpAny_newFunctionEnv ok.cell (by intro z hz; rw [List.mem_singleton.mp hz]; exact hloc) (fun h₁ hns hsb => ?_) ok.kind)
  have hk : ∀ b o, s.heap.get? b = some o → h₁.get? b = some o := fun b o e => hsb.extBut b o (Nat.ne_of_lt (Heap.lt_size e)) (Heap.get?_push_of_some _ e)
  refine ⟨lim.keeps hk, ?_⟩
  show codeAny _ A (.expr body (PySem.W.envX qual scope s.heap.objs.size f (.ref c) cl)) _ _
  refine PySem.W.kla_codeExpr ?_
  have J := lam_in (qual := qual) (cl := cl) (f := f) (c := c) (tk := s.toks + [(y, u)].length) I ok cl1 cl2 e0 hr.hd hloc rv hns (by simp [List.lookup]) hk
  refine wpAny_mono (ht [] _ _ H Q J hq) (fun u' s' hs => ?_) fun e s' hs => False.elim hs
  obtain ⟨v', H', J', rv', q⟩ := hs
  exact I.after ⟨v', H', J'.os, J'.bare, J'.base, J'.hok, rv', q⟩
end
/-- lambda with a closure: its making -/
theorem pe_lamC {X : Cx} {c P : Addr} {params : Arguments} {body : Expr} {scope : Scope} {pos : Pos} {cl : List (Str × Addr)} (hcode : X.env.code = .ref c) (hC : PySem.W.codeHdIn X.K c P = true) (hB : BmAt X.mg X.base) (hcl : closureFor scope X.env = pure cl) (hdef : defaultsOf params X.env = ([], []) := by rfl) :
    PE X (.Lambda params body scope pos) (tLam P pos (X.env.qual ++ "<lambda>") fun c' ct => PySem.W.kla_fn "<lambda>" (X.env.qual ++ "<lambda>") params body scope cl ((X.mg "__name__").getD .none) (.ref c') ct) := by
  intro pins s σ H Q I h
  refine PySem.W.kla_eval hdef ?_
  have hP : ∀ ps, H P = some (.tbl ps) → s.heap.get? P = some (PySem.W.tabObj ps) ∧ mainGlobals ≠ P ∧ s.heap.BuiltinsAt X.mg P := fun ps hp => by
    have e : s.heap.get? P = some (PySem.W.tabObj ps) := I.hok P _ hp
    have nb : ∀ b o, X.base.get? b = some o → b ≠ P := fun b o q z => by
      subst z
      rw [(I.bs b o q).2] at hp; cases hp
    obtain ⟨og, eg, ep, g1, g2, _⟩ := I.mod.glob
    obtain ⟨bm, o, b1, b2, b3, b4, b5⟩ := hB
    exact ⟨e, nb _ _ g1, bm, o, b1, b2, b3, nb _ _ b4, I.bk _ _ b4, b5⟩
  have hg : s.heap.Ns mainGlobals X.mg := I.mod.glob.keeps I.bk
  have C : PySem.W.CodeHd s.heap c P := PySem.W.codeHd_of_K I.kIn hC
  rcases h with ⟨hp, qq⟩ | ⟨c', hp, hc', qq⟩
  · obtain ⟨e, ng, bb⟩ := hP _ hp
    refine PySem.W.kla_makeFunction (mg := X.mg) hcl I.ok.glob hg hcode C e True.intro rfl ng bb fun c' ct h' tk hx hge hlt hrec htb => ?_
    have hcn : H c' = none := I.hok.fresh hge
    have hfn : H h'.objs.size = none := I.hok.fresh (Nat.le_of_lt (Nat.lt_of_le_of_lt hge hlt))
    have nfc : h'.objs.size ≠ c' := Nat.ne_of_gt hlt
    have nPc : P ≠ c' := ne_of_none hp hcn
    have nPf : P ≠ h'.objs.size := ne_of_none hp hfn
    have hkp : ∀ b o, b ≠ P → s.heap.get? b = some o → (h'.push (PySem.W.kla_obj "<lambda>" (X.env.qual ++ "<lambda>") params body scope cl ((X.mg "__name__").getD .none) c' ct)).get? b = some o := fun b o n q => Heap.get?_push_of_some _ (hx b o n q)
    have neP : ∀ b u, H b = some u → (∀ ps, u ≠ .tbl ps) → b ≠ P := fun b u q n z => by subst z; rw [hp] at q; cases q; exact n _ rfl
    have at' : ∀ b, b ≠ P → b ≠ c' → b ≠ h'.objs.size → (upd (upd (upd H P (.tbl (tab1 pos c'))) c' (CodeO c' (X.env.qual ++ "<lambda>"))) h'.objs.size (LamO h'.objs.size (PySem.W.kla_fn "<lambda>" (X.env.qual ++ "<lambda>") params body scope cl ((X.mg "__name__").getD .none) (.ref c') ct))) b = H b := fun b n1 n2 n3 => by
      rw [upd_ne n3, upd_ne n2, upd_ne n1]
    have ofs : ∀ b u, H b = some u → b ≠ c' ∧ b ≠ h'.objs.size := fun b u q => ⟨ne_of_none q hcn, ne_of_none q hfn⟩
    have hPn : (h'.push (PySem.W.kla_obj "<lambda>" (X.env.qual ++ "<lambda>") params body scope cl ((X.mg "__name__").getD .none) c' ct)).get? P = some (PySem.W.tabObj (tab1 pos c')) := by
      refine Heap.get?_push_of_some _ ?_
      rw [htb]
      rfl
    have old : ∀ b o, s.heap.get? b = some o → b ≠ c' ∧ b ≠ h'.objs.size := fun b o q => by
      have := Heap.lt_size q
      exact ⟨Nat.ne_of_lt (Nat.lt_of_lt_of_le this hge), Nat.ne_of_lt (Nat.lt_trans (Nat.lt_of_lt_of_le this hge) hlt)⟩
    have un : Un X.fs [] H (upd (upd (upd H P (.tbl (tab1 pos c'))) c' (CodeO c' (X.env.qual ++ "<lambda>"))) h'.objs.size (LamO h'.objs.size (PySem.W.kla_fn "<lambda>" (X.env.qual ++ "<lambda>") params body scope cl ((X.mg "__name__").getD .none) (.ref c') ct))) s.heap (h'.push (PySem.W.kla_obj "<lambda>" (X.env.qual ++ "<lambda>") params body scope cl ((X.mg "__name__").getD .none) c' ct)) := by
      have nP : ∀ b, H b = none → b ≠ P := fun b n z => by subst z; rw [n] at hp; cases hp
      refine ⟨fun b o q n _ _ => hkp b o (nP b n) q, fun b o q n _ _ => ⟨o.slots, hkp b o (nP b n) q⟩, fun b o q n _ => by rw [at' b (nP b n) (old b o q).1 (old b o q).2]; exact n, fun b o q _ => ?_, fun b xs q => ?_, fun b o u q => ?_, fun b ps q => ?_⟩
      · by_cases z : b = P
        · subst z; exact ⟨_, hPn⟩
        · exact ⟨o, hkp b o z q⟩
      · rw [at' b (neP b _ q (by intro ps z; cases z)) (ofs b _ q).1 (ofs b _ q).2]; exact q
      · rw [at' b (neP b _ q (by intro ps z; cases z)) (ofs b _ q).1 (ofs b _ q).2]; exact q
      · by_cases z : b = P
        · subst z
          rw [hp] at q; cases q
          refine ⟨tab1 pos c', ?_⟩
          rw [upd_ne (ofs b _ hp).2, upd_ne (ofs b _ hp).1, upd_same]
          simp
        · exact ⟨#[], by rw [at' b z (ofs b _ q).1 (ofs b _ q).2, q]; simp⟩
    have hok : HOk X.prog X.w (upd (upd (upd H P (.tbl (tab1 pos c'))) c' (CodeO c' (X.env.qual ++ "<lambda>"))) h'.objs.size (LamO h'.objs.size (PySem.W.kla_fn "<lambda>" (X.env.qual ++ "<lambda>") params body scope cl ((X.mg "__name__").getD .none) (.ref c') ct))) (h'.push (PySem.W.kla_obj "<lambda>" (X.env.qual ++ "<lambda>") params body scope cl ((X.mg "__name__").getD .none) c' ct)) := by
      intro b u hb
      by_cases z1 : b = h'.objs.size
      · subst z1
        rw [upd_same] at hb
        cases hb
        exact ⟨⟨_, Heap.get?_push_size _ rfl, rfl⟩, ⟨_, Heap.get?_push_size _ rfl⟩, fun h1 h2 ⟨o, e1, e2⟩ k => ⟨o, k _ e1, e2⟩⟩
      · rw [upd_ne z1] at hb
        by_cases z2 : b = c'
        · subst z2
          rw [upd_same] at hb
          cases hb
          have hrec' : (h'.push (PySem.W.kla_obj "<lambda>" (X.env.qual ++ "<lambda>") params body scope cl ((X.mg "__name__").getD .none) b ct)).CodeRec (.ref b) (X.env.qual ++ "<lambda>") := hrec.push _
          refine ⟨hrec', ?_, fun h1 h2 ⟨c2, o, vs, t, e1, e2, e3⟩ k => ?_⟩
          · obtain ⟨c2, o, vs, t, e1, e2, _⟩ := hrec'
            cases e1
            exact ⟨o, e2⟩
          · cases e1
            exact ⟨b, o, vs, t, rfl, k _ e2, e3⟩
        · rw [upd_ne z2] at hb
          by_cases z3 : b = P
          · subst z3
            rw [upd_same] at hb
            cases hb
            exact hPn
          · rw [upd_ne z3] at hb
            refine (I.hok b u hb).stay (fun d v hd e => hkp d v ?_ e) (fun d hd => ?_) fun d xs hd => ?_
            · rcases hd with rfl | hd
              · exact z3
              · exact neP d _ hd (by intro ps z; cases z)
            · rw [at' d (neP d _ hd (by intro ps z; cases z)) (ofs d _ hd).1 (ofs d _ hd).2]; exact hd
            · rw [at' d (neP d _ hd (by intro ps z; cases z)) (ofs d _ hd).1 (ofs d _ hd).2]; exact hd
    exact ⟨.ref h'.objs.size, _, I.un un hok, rfl, qq _ c' ct hfn hcn nfc⟩
  · obtain ⟨e, ng, bb⟩ := hP _ hp
    refine PySem.W.kla_makeFunctionHit (mg := X.mg) (cv := .ref c') hcl I.ok.glob hg hcode C e True.intro (by simp [codeAmong, rawInt]) bb fun ct h' tk hk hsz => ?_
    refine ⟨.ref h'.objs.size, _, I.laid (a := h'.objs.size) (o := LamO h'.objs.size (PySem.W.kla_fn "<lambda>" (X.env.qual ++ "<lambda>") params body scope cl ((X.mg "__name__").getD .none) (.ref c') ct)) (t' := tk) (fun b u e => Heap.get?_push_of_some _ (hk b u e)) hsz ⟨⟨_, Heap.get?_push_size _ rfl, rfl⟩, ⟨_, Heap.get?_push_size _ rfl⟩, fun h1 h2 ⟨o, e1, e2⟩ k => ⟨o, k _ e1, e2⟩⟩, rfl, qq _ ct (I.hok.fresh hsz)⟩
end L2

namespace L2
open PySem PySem.Spec PyProof.Rows
/-! ### a built-in function with keywords, where the names of the frame count -/
section
variable {X : Cx} {K : PySem.W.Frag} {x : Str} {p pos : Pos} {e : Expr} {es : List Expr} {kws : List Keyword} {t tk : TA} {id : String} {ks : List Str}
def tCBKS (r : St → List V → List V → Hp → VK → Prop) (t tk : TA) : TE := fun σ H Q => t σ H fun vs H1 => tk σ H1 fun zs H2 => r σ vs zs H2 Q
def CallKS (X : Cx) (id : String) (ks : List Str) (r : St → List V → List V → Hp → VK → Prop) : Prop :=
  ∀ (pins : List (Addr × Obj)) (s : Shared) (σ : St) (H : Hp) (vs zs : List V) (us ws : List Value) (Q : VK), Inv X pins σ H s → Vals vs us → Vals zs ws → r σ vs zs H Q →
    wpAny (model X.prog X.w) X.A (call (.builtin id) us (ks.zip ws)) (EP X pins σ Q) X.xe s
theorem pe_callBKS {r : St → List V → List V → Hp → VK → Prop} (hc : CallKS X id ks r) (hg : Gl X x) (hm : X.mg x = none) (hv : bootBuiltins x = some (.builtin id)) (ha : PA X (e :: es) t) (hk : PK X kws tk) (hn : x ≠ "__name__" := by decide) (hdb : (x == ("__debug__" : Str)) = false := by decide)
    (hks : (backToKw pos (keywordEach kws X.env)).filterMap (·.1) = ks := by rfl)
    (he : backTo pos (starEach (e :: es) X.env) = (false, eval e X.env) :: backTo pos (starEach es X.env) := by rfl)
    (hplain : (backTo pos (starEach (e :: es) X.env)).any (·.1) = false := by rfl)
    (hall : (backToKw pos (keywordEach kws X.env)).all (·.1.isSome) = true := by rfl)
    (hkw : (backToKw pos (keywordEach kws X.env)).any (·.1.isNone) = false := by rfl) : PE X (.Call (.Name x p) (e :: es) kws pos) (tCBKS r t tk) := by
  intro pins s σ H Q I h
  refine wpAny_Call_Name_kw (ld_blt I hg hm hv ?_ hn hdb)
  refine callWith_kw (thn (ha pos pins s σ H _ I h) fun us s1 ⟨vs, H1, I1, r1, q1⟩ => thn (hk pos pins s1 σ H1 _ I1 q1) fun ws s2 ⟨zs, H2, I2, r2, q2⟩ => ?_) he hplain hall hkw
  rw [hks]
  exact hc pins s2 σ H2 vs zs us ws Q I2 r1 r2 q2
end
/-! ### what may be sorted: a list, a range -/
def ArgK (X : Cx) (AR : Hp → V → List V → Prop) : Prop := ∀ (pins : List (Addr × Obj)) (σ : St) (H : Hp) (s : Shared) (v : V) (u : Value) (xs : List V), Inv X pins σ H s → RelV v u → AR H v xs → Coll X u xs s
def ArL (K : PySem.W.Frag) (H : Hp) (v : V) (xs : List V) : Prop := ∃ l, v = .ref l ∧ SqL K H l xs ∧ xs.length ≤ 1000000
theorem argL {X : Cx} {K : PySem.W.Frag} (hK : X.K = K) : ArgK X (ArL K) := by
  subst hK
  rintro pins σ H s v u xs I r ⟨l, rfl, hl, hz⟩
  obtain rfl : u = Value.ref l := r
  exact coll_list I hl hz
/-- sorted(xs, key=lambda ..), the lambda made in this frame -/
def rSortC (AR : Hp → V → List V → Prop) (VC : Hp → V → List Int → Prop) (cap : List (Option Nat)) (t : TE) (qual : Str) (fd : Addr → Value → FuncData) : St → List V → List V → Hp → VK → Prop := fun σ vs zs H Q =>
  ∃ (v : V) (f c : Addr) (ct : Value) (xs : List V) (cs : List (List Int)), vs = [v] ∧ zs = [.ref f] ∧ AR H v xs ∧ H f = some (LamO f (fd c ct)) ∧ H c = some (CodeO c qual) ∧ xs.length ≤ 1000000 ∧ cs.length = xs.length ∧
  (∀ (i : Nat) x c H', xs[i]? = some x → cs[i]? = some c → Same H H' → t (some x :: capt cap σ) H' fun y H2 => VC H2 y c ∧ Same H' H2) ∧
  ∀ (q : Addr) (ps : List (List Int × V)) (H' : Hp), H q = none → H' q = none → Same H H' → KeyOut cs xs ps → Q (.ref q) (upd H' q (.lst (ps.map (·.2))))
/-- what is known of a lambda's text and of the names that it keeps -/
structure LamOk (X : Cx) (y : Str) (Nc : List Str) (cap : List (Option Nat)) (params : Arguments) (scope : Scope) (cl : List (Str × Addr)) : Prop where
  ok : blkOk X.N X.env.scope Nc cap scope = true
  co : scope.isCoroutine = false
  gen : scope.isGenerator = false
  loc : scope.names.lookup y = some .local
  cls : closureFor scope X.env = pure cl
  cl1 : ∀ x c, cl.lookup x = some c → X.env.cells.lookup x = some c
  cl2 : ∀ x ∈ scope.names, x.2 = .free → ∃ c, cl.lookup x.1 = some c
theorem cSortC {X : Cx} {AR : Hp → V → List V → Prop} {VC : Hp → V → List Int → Prop} {HC : Heap → Value → List Int → Prop} {y : Str} {Nc : List Str} {cap : List (Option Nat)} {params : Arguments} {body : Expr} {scope : Scope} {cl : List (Str × Addr)} {name qual : Str} {pm : Value} {t : TE} {k : Nat}
    (ar : ArgK X AR) (sc : SCode X VC HC) (vm : ∀ H H' v c, Same H H' → VC H v c → VC H' v c) (L : LamOk X y Nc cap params scope cl) (hr : Room k X.A.in1.in1)
    (hb : ∀ c ct u, bindArgs (PySem.W.kla_fn name qual params body scope cl pm (.ref c) ct) ⟨[u], []⟩ = pure [(y, u)]) (ht : ∀ f c s H, PE (X.lam X.A.in1.in1 (y :: Nc) qual scope cl f c s H) body t) :
    CallKS X "sorted" [Str.ofString "key"] (rSortC AR VC cap t qual fun c ct => PySem.W.kla_fn name qual params body scope cl pm (.ref c) ct) := by
  intro pins s σ H vs zs us ws Q I r1 r2 h
  obtain ⟨v, f, c, ct, xs, cs, rfl, rfl, ha, hf, hc, hz, hlen, hs, hq⟩ := h
  obtain ⟨u, rfl, ru⟩ := vals1 r1
  obtain ⟨d, rfl, rd⟩ := vals1 r2
  cases (show d = Value.ref f from rd)
  refine sorted_keyed (H0 := H) (cs := cs) sc vm hz hlen I (ar _ _ _ _ _ _ _ I ru ha) ?_ hq
  intro i x u' c' pins' s' H' hx hc' I' rx S'
  have := lam_run (Q := fun y H2 => VC H2 y c' ∧ Same H' H2) I' (blk_of L.ok) L.co L.gen L.loc L.cl1 L.cl2 I'.env0.in1.in1 hr rx (S' _ _ hf) (S' _ _ hc) (hb c ct u') (ht f c s' H') (hs i x c' H' hx hc' S')
  refine wpAny_mono this (fun w s'' hq' => ?_) fun _ _ z => z
  obtain ⟨y, H2, J, ry, vc, S2⟩ := hq'
  exact ⟨y, H2, J, ry, vc, S2⟩
/-- the truth of a list -/
theorem pt_lst {X : Cx} {a : Expr} {ta : TE} (ha : PE X a ta) (he : ∀ whole, isTrue a X.env whole = (do let v ← whole; standAt a.pos; holding [v] (truthy v)) := by intro _; rfl) :
    PT X a (fun σ H Q => ta σ H fun x H' => ∃ p xs, x = .ref p ∧ H' p = some (.lst xs) ∧ Q (!xs.isEmpty) H') := by
  intro pins s σ H Q I h
  refine isTrue_plain (thn (ha pins s σ H _ I h) fun v s1 ⟨x, H1, I1, r1, p, xs, e1, e2, q1⟩ => ?_) (he _)
  subst e1
  exact tru_ok pins s1 σ H1 (.ref p) v Q I1 r1 ⟨_, .inl ⟨xs, SqL.of e2, rfl⟩, q1⟩
/-- the cells that a lambda of a def keeps -/
theorem lam_cls {env : Env} {outer scope : Scope} {n : Nat} (hX : env.cells = cellsFrom n outer.names []) (h : scope.names.all (fun y => y.2 != .free || outer.names.lookup y.1 == some .cell) = true) :
    ∃ cl, closureFor scope env = pure cl ∧ (∀ x c, cl.lookup x = some c → env.cells.lookup x = some c) ∧ ∀ x ∈ scope.names, x.2 = .free → ∃ c, cl.lookup x.1 = some c := by
  refine closure_of fun x hx hf => ?_
  have := List.all_eq_true.mp h x hx
  rw [Bool.or_eq_true] at this
  rcases this with z | z
  · rw [hf] at z; exact absurd z (by decide)
  · rw [hX]
    exact cell_has (beq_iff_eq.mp z)
end L2

namespace L2
open PySem PySem.Spec PyProof.Rows
/-! ### min, max by keys that lie on the heap -/
def KeptH (xs : List V) (KV : Hp → Nat → V → Prop) (H : Hp) (jb : Option Nat) (its : Array Value) : Prop := match jb with
  | none => its = #[]
  | some j => ∃ x y u v, xs[j]? = some x ∧ RelV x u ∧ KV H j y ∧ RelV y v ∧ its = #[u, v]
theorem KeptH.mono {xs : List V} {KV : Hp → Nat → V → Prop} (km : ∀ H H' i y, Same H H' → KV H i y → KV H' i y) {H H' : Hp} {jb : Option Nat} {its : Array Value} (s : Same H H') (h : KeptH xs KV H jb its) : KeptH xs KV H' jb its := by
  cases jb with
  | none => exact h
  | some j =>
    obtain ⟨x, y, u, v, h1, h2, h3, h4, h5⟩ := h
    exact ⟨x, y, u, v, h1, h2, km _ _ _ _ s h3, h4, h5⟩
section
variable {X : Cx} {pins : List (Addr × Obj)} {σ : St} {H0 : Hp} {a I S : Addr} {xs : List V} {KV : Hp → Nat → V → Prop} {bt : Nat → Nat → Bool} {key : Value} {kw : List (Str × Value)} {R : Result → Shared → Prop}
end
inductive MmKwH : List (Str × Value) → Value → List (Str × Value) → Prop where
  | one : MmKwH [] .none []
  | dflt (d : Value) : MmKwH [(Str.ofString "default", d)] .none [(Str.ofString "default", d)]
  | key (q : Addr) (d : Value) : MmKwH [(Str.ofString "key", .ref q), (Str.ofString "default", d)] (.ref q) [(Str.ofString "default", d)]
  | key1 (q : Addr) : MmKwH [(Str.ofString "key", .ref q)] (.ref q) []
section
variable {X : Cx} {pins : List (Addr × Obj)} {σ : St} {H : Hp} {s : Shared} {a : Addr} {xs : List V} {KV : Hp → Nat → V → Prop} {bt : Nat → Nat → Bool} {Q : VK}
end
end L2

namespace L2
open PySem PySem.Spec PyProof.Rows
/-! ### values that are compared as their codes are -/
structure Cmp (A : Around) (s : Shared) (u v : Value) (c c' : List Int) : Prop where
  eq : SeqAt.EqAt A s u v (decide (c = c'))
  lt : ∀ (prog : Program) (w : World) (E : Value → Shared → Prop) (Q : Value → Shared → Prop), Q (.bool (HT.lexLt c c')) s → wpAny (model prog w) A (richCompare .Lt u v) Q E s
section
variable {A : Around} {s : Shared} {a b : Addr} {u1 u2 u3 v1 v2 v3 : Value} {i j : Int} {c c' : List Int}
end
/-! ### the shapes: (a, b); (n, (a, b)); (d, (n, (a, b))) -/
/-! ### min, max of coded values; by a lambda -/
end L2

namespace L2
open PySem PySem.Spec PyProof.Rows
/-! ### len(d), d a dict with tuples as keys -/
end L2

namespace L2
open PySem PySem.Spec PyProof.Rows
/-! ### list(zip(a, b)): the pairs are kept -/
section
variable {P : Program} {w : World} {A : Around} {E : Value → Shared → Prop} {s : Shared}
abbrev IsZ2 (h : Heap) (z TI TO : Addr) (ad : Addr) (f : Bool) : Prop :=
  h.get? z = some { cls := .type "zip", dict := none, data := .fields #[rawInt ad, .bool f, .bool false, .ref TI, .ref TO], slots := #[] }
/-- the state of a zip whose first pair is held by another -/
structure ZOut (b1 b2 : Bool) (z TI TO i1 i2 l1 l2 ad : Addr) (k : Nat) (h : Heap) : Prop where
  zz : ∃ f : Bool, IsZ2 h z TI TO ad f
  ti : IsPair h TI (.ref i1) (.ref i2)
  al : ∃ o, h.get? ad = some o
  h1 : ZI b1 h i1 l1 k
  h2 : ZI b2 h i2 l2 k
  n1 : ad ≠ z
  n2 : ad ≠ i1
  n3 : ad ≠ i2
/-- the state of a zip, its pairs held or not yet made -/
def ZAny (b1 b2 : Bool) (z TI TO i1 i2 l1 l2 S : Addr) (k : Nat) (h : Heap) : Prop := ZSt b1 b2 z TI TO i1 i2 l1 l2 .none k h ∨ ∃ ad, ZOut b1 b2 z TI TO i1 i2 l1 l2 ad k h ∧ ad ≠ S
theorem ZAny.keep {b1 b2 : Bool} {z TI TO i1 i2 l1 l2 S : Addr} {k : Nat} {h h' : Heap} (Z : ZAny b1 b2 z TI TO i1 i2 l1 l2 S k h) (hS : S ∉ [z, TI, TO, i1, i2]) (e : ∀ b o, b ≠ S → h.get? b = some o → h'.get? b = some o) : ZAny b1 b2 z TI TO i1 i2 l1 l2 S k h' := by
  simp only [List.mem_cons, List.not_mem_nil, or_false, not_or] at hS
  obtain ⟨s1, s2, s3, s4, s5⟩ := hS
  rcases Z with ⟨z1, z2, ⟨a, c, z3⟩, y1, y2⟩ | ⟨ad, ⟨⟨f, z1⟩, z2, ⟨o, z3⟩, y1, y2, n1, n2, n3⟩, ne⟩
  · exact .inl ⟨e _ _ (Ne.symm s1) z1, e _ _ (Ne.symm s2) z2, ⟨a, c, e _ _ (Ne.symm s3) z3⟩, y1.at fun o q => e _ _ (Ne.symm s4) q, y2.at fun o q => e _ _ (Ne.symm s5) q⟩
  · exact .inr ⟨ad, ⟨⟨f, e _ _ (Ne.symm s1) z1⟩, e _ _ (Ne.symm s2) z2, ⟨o, e _ _ ne z3⟩, y1.at fun o q => e _ _ (Ne.symm s4) q, y2.at fun o q => e _ _ (Ne.symm s5) q, n1, n2, n3⟩, ne⟩
theorem ZAny.type {b1 b2 : Bool} {z TI TO i1 i2 l1 l2 S : Addr} {k : Nat} (Z : ZAny b1 b2 z TI TO i1 i2 l1 l2 S k s.heap) : s.TypeIs (.ref z) "zip" := by
  rcases Z with Z | ⟨ad, ⟨⟨f, z1⟩, _⟩, _⟩
  · exact ⟨_, Z.zz, rfl⟩
  · exact ⟨_, z1, rfl⟩
end
section
variable {X : Cx} {pins : List (Addr × Obj)} {σ : St} {A : Around} {R : Result → Shared → Prop} {b1 b2 : Bool} {z TI TO i1 i2 l1 l2 S : Addr} {xs ys : List V} {n : Nat}
end
theorem SqB.same {K : PySem.W.Frag} {H H' : Hp} {b : Bool} {l : Addr} {us : List V} (S : Same H H') (h : SqB K b H l us) : SqB K b H' l us := by
  have rd : ∀ o, Rd H l o → Rd H' l o := fun o r => by
    rcases r with r | ⟨ob, r⟩
    · exact .inl (S _ _ r)
    · exact .inr ⟨ob, S _ _ r⟩
  cases b with
  | true =>
    rcases (show SqT K H l us from h) with r | r
    · exact Or.inl (rd _ r)
    · exact Or.inr r
  | false =>
    rcases (show SqL K H l us from h) with r | r
    · exact Or.inl (rd _ r)
    · exact Or.inr r
section
variable {X : Cx}
end
end L2

namespace L2
open PySem PySem.Spec PyProof.Rows
/-! ### the places of a set's table rise -/
def Rise (xs : Array Nat) : Prop := xs.toList.Pairwise (· < ·)
theorem below_go {xs : Array Nat} {j : Nat} (hr : Rise xs) : ∀ (fuel lo hi : Nat), hi - lo ≤ fuel → lo ≤ hi → hi ≤ xs.size → (∀ i x, i < lo → xs[i]? = some x → x < j) → (∀ i x, hi ≤ i → xs[i]? = some x → j ≤ x) →
    (∀ i x, i < SetTable.below.go xs j fuel lo hi → xs[i]? = some x → x < j) ∧ (∀ i x, SetTable.below.go xs j fuel lo hi ≤ i → xs[i]? = some x → j ≤ x) ∧ SetTable.below.go xs j fuel lo hi ≤ xs.size
  | 0, lo, hi, hf, hl, hs, h1, h2 => by
    unfold SetTable.below.go
    have : lo = hi := by omega
    subst this
    exact ⟨h1, h2, hs⟩
  | fuel + 1, lo, hi, hf, hl, hs, h1, h2 => by
    unfold SetTable.below.go
    by_cases hlt : lo < hi
    · rw [if_pos hlt]
      have hm : (lo + hi) / 2 < xs.size := by omega
      have hg : xs[(lo + hi) / 2]? = some xs[(lo + hi) / 2] := Array.getElem?_eq_getElem hm
      have hd : xs.getD ((lo + hi) / 2) j = xs[(lo + hi) / 2] := by simp [Array.getD, hm]
      have pw := List.pairwise_iff_getElem.mp hr
      have mono : ∀ a b x y, a < b → xs[a]? = some x → xs[b]? = some y → x < y := fun a b x y hab ha hb => by
        obtain ⟨ha', ea⟩ := Array.getElem?_eq_some_iff.mp ha
        obtain ⟨hb', eb⟩ := Array.getElem?_eq_some_iff.mp hb
        have := pw a b (by simpa using ha') (by simpa using hb') hab
        simp only [Array.getElem_toList] at this
        rw [ea, eb] at this
        exact this
      simp only [hd]
      by_cases hx : xs[(lo + hi) / 2] < j
      · rw [if_pos hx]
        refine below_go hr fuel _ _ (by omega) (by omega) hs (fun i x hi' e => ?_) h2
        rcases Nat.lt_or_ge i ((lo + hi) / 2) with q | q
        · exact Nat.lt_trans (mono _ _ _ _ q e hg) hx
        · have : i = (lo + hi) / 2 := by omega
          subst this
          rw [hg] at e; cases e; exact hx
      · rw [if_neg hx]
        refine below_go hr fuel _ _ (by omega) (by omega) (by omega) h1 (fun i x hi' e => ?_)
        rcases Nat.lt_or_ge ((lo + hi) / 2) i with q | q
        · have := mono _ _ _ _ q hg e; omega
        · have : i = (lo + hi) / 2 := by omega
          subst this
          rw [hg] at e; cases e; omega
    · rw [if_neg hlt]
      have : lo = hi := by omega
      subst this
      exact ⟨h1, h2, hs⟩
theorem below_spec {xs : Array Nat} (hr : Rise xs) (j : Nat) : (∀ i x, i < SetTable.below xs j → xs[i]? = some x → x < j) ∧ (∀ i x, SetTable.below xs j ≤ i → xs[i]? = some x → j ≤ x) ∧ SetTable.below xs j ≤ xs.size := by
  unfold SetTable.below
  exact below_go hr _ _ _ (by omega) (Nat.zero_le _) (Nat.le_refl _) (fun i x h _ => by omega) (fun i x h e => by have := (Array.getElem?_eq_some_iff.mp e).1; omega)
theorem below_next {xs : Array Nat} (hr : Rise xs) {i x : Nat} (h : xs[i]? = some x) : SetTable.below xs (x + 1) = i + 1 := by
  obtain ⟨h1, h2, h3⟩ := below_spec hr (x + 1)
  obtain ⟨hi, ei⟩ := Array.getElem?_eq_some_iff.mp h
  have pw := List.pairwise_iff_getElem.mp hr
  rcases Nat.lt_trichotomy (SetTable.below xs (x + 1)) (i + 1) with q | q | q
  · have := h2 i x (by omega) h; omega
  · exact q
  · exfalso
    have hs : i + 1 < xs.size := by omega
    have e := h1 (i + 1) xs[i + 1] q (Array.getElem?_eq_getElem hs)
    have := pw i (i + 1) (by simpa using hi) (by simpa using hs) (by omega)
    simp only [Array.getElem_toList] at this
    omega
theorem below_zero {xs : Array Nat} (hr : Rise xs) : SetTable.below xs 0 = 0 := by
  obtain ⟨h1, h2, h3⟩ := below_spec hr 0
  rcases Nat.eq_zero_or_pos (SetTable.below xs 0) with q | q
  · exact q
  · have := h1 0 xs[0] q (Array.getElem?_eq_getElem (by omega)); omega
theorem rise_insert {xs : Array Nat} (hr : Rise xs) {j : Nat} (hn : xs[SetTable.below xs j]? ≠ some j) : Rise (SetTable.insertAt xs (SetTable.below xs j) j) := by
  obtain ⟨h1, h2, h3⟩ := below_spec hr j
  unfold Rise
  rw [SetTable.toList_insertAt]
  generalize SetTable.below xs j = r at *
  have pw : xs.toList.Pairwise (· < ·) := hr
  rw [List.pairwise_append, List.pairwise_cons]
  have ge : ∀ b ∈ xs.toList.drop r, j < b := fun b hb => by
    obtain ⟨k, hk⟩ := List.mem_iff_getElem?.mp hb
    rw [List.getElem?_drop] at hk
    have hk' : xs[r + k]? = some b := by simpa using hk
    have hle := h2 (r + k) b (by omega) hk'
    rcases Nat.lt_or_eq_of_le hle with q | q
    · exact q
    · exfalso
      subst q
      rcases Nat.eq_zero_or_pos k with z | z
      · subst z; exact hn hk'
      · obtain ⟨hb', eb⟩ := Array.getElem?_eq_some_iff.mp hk'
        have hr' : xs[r]? = some xs[r] := Array.getElem?_eq_getElem (by omega)
        have := h2 r _ (Nat.le_refl _) hr'
        have := List.pairwise_iff_getElem.mp pw r (r + k) (by simp; omega) (by simpa using hb') (by omega)
        simp only [Array.getElem_toList] at this
        omega
  refine ⟨pw.sublist (List.take_sublist ..), ⟨ge, pw.sublist (List.drop_sublist ..)⟩, fun a ha b hb => ?_⟩
  have ha' : a < j := by
    obtain ⟨k, hk⟩ := List.mem_iff_getElem?.mp ha
    rw [List.getElem?_take] at hk
    split at hk
    · exact h1 k a (by assumption) (by simpa using hk)
    · cases hk
  rcases List.mem_cons.mp hb with rfl | hb
  · exact ha'
  · exact Nat.lt_trans ha' (ge b hb)
/-- what is kept of a table -/
structure TabOk (b : Bool) (t : SetTable) : Prop where
  led : t.led = b
  rise : Rise t.place
  dum : t.dummies = #[]
theorem rise_range (n : Nat) : Rise (Array.range n) := by
  unfold Rise
  rw [Array.toList_range]
  exact List.pairwise_lt_range
theorem TabOk.standIn {b : Bool} {t : SetTable} (h : TabOk b t) (n : Nat) : TabOk b (t.standIn n) := ⟨h.led, rise_range n, rfl⟩
theorem TabOk.orStandIn {b : Bool} {t : SetTable} (h : TabOk b t) (n : Nat) : TabOk b (t.orStandIn n) := by
  unfold SetTable.orStandIn
  split
  · exact h
  · exact h.standIn n
theorem has_empty (j : Nat) : SetTable.has #[] j = false := rfl
theorem probe_go {t : SetTable} (hd : t.dummies = #[]) {hashAt : Nat → Int} {h : Int} : ∀ (fuel : Nat) (p : SetTable.Probe) (j : Nat) (d : Option Nat), p.dummy = none → SetTable.probe.go t hashAt h fuel p = some (.empty j d) → d = none ∧ t.slot j = .empty
  | 0, p, j, d, hp, e => by unfold SetTable.probe.go at e; cases e
  | fuel + 1, p, j, d, hp, e => by
    unfold SetTable.probe.go at e
    cases hs : t.slot p.j with
    | empty => rw [hs] at e; cases e; exact ⟨hp, hs⟩
    | dummy =>
      exfalso
      unfold SetTable.slot at hs
      rw [hd, has_empty] at hs
      simp only [Bool.false_eq_true, if_false] at hs
      split at hs <;> cases hs
    | live i =>
      rw [hs] at e
      simp only at e
      split at e
      · cases e
      · refine probe_go hd fuel _ j d ?_ e
        unfold SetTable.advance
        split
        · exact hp
        · exact hp
theorem TabOk.layNew {b : Bool} {t : SetTable} (h : TabOk b t) (es : Array (Int × Value)) (k : Int) (x : Value) : TabOk b (layNew t es k x).2.1 := by
  unfold PySem.layNew
  cases hf : t.freeSlot k with
  | none => exact h.standIn _
  | some sd =>
    obtain ⟨slot, wd⟩ := sd
    unfold SetTable.freeSlot at hf
    have hs : t.slot slot = .empty := by
      split at hf
      · rename_i j d e
        obtain ⟨rfl, hs⟩ := probe_go h.dum _ _ j d rfl e
        cases hf
        exact hs
      · cases hf
    show TabOk b ((t.put slot).1.orStandIn _)
    refine TabOk.orStandIn (t := (t.put slot).1) ⟨h.led, ?_, ?_⟩ _
    · show Rise (SetTable.insertAt t.place (SetTable.below t.place slot) slot)
      refine rise_insert h.rise fun e => ?_
      unfold SetTable.slot at hs
      dsimp only at hs
      rw [e] at hs
      simp at hs
    · show (if SetTable.has t.dummies slot = true then _ else t.dummies) = #[]
      rw [h.dum, has_empty]
      rfl
theorem laid_ok {b : Bool} {mask finger moves : Nat} {plain : Bool} {hs : Array Int} {t' : SetTable} {ord : Array Nat} (e : SetTable.laid mask finger moves b plain hs = some (t', ord)) : TabOk b t' := by
  unfold SetTable.laid at e
  cases hl : SetTable.layClean mask hs with
  | none => rw [hl] at e; cases e
  | some owner =>
    rw [hl] at e
    cases e
    refine ⟨rfl, ?_, rfl⟩
    unfold Rise
    simp only
    have : ((List.range (mask + 1)).filterMap fun j => (owner.getD j none).map (j, ·)).Pairwise (fun p q => p.1 < q.1) := by
      refine List.Pairwise.filterMap _ ?_ (List.pairwise_lt_range (n := mask + 1))
      intro a a' hlt p hp q hq
      obtain ⟨y, _, rfl⟩ := Option.map_eq_some_iff.mp hp
      obtain ⟨z, _, rfl⟩ := Option.map_eq_some_iff.mp hq
      exact hlt
    simpa [List.pairwise_map] using this
theorem TabOk.relayAll {b : Bool} {t : SetTable} (h : TabOk b t) (es : Array (Int × Value)) (n : Nat) : TabOk b (relayAll t es n).2.1 := by
  unfold PySem.relayAll
  cases hr : t.relaid (es.map (·.1)) n with
  | none => exact h.standIn _
  | some to =>
    obtain ⟨t', ord⟩ := to
    simp only
    unfold SetTable.relaid at hr
    rw [h.led] at hr
    split
    · exact laid_ok hr
    · exact h.standIn _
theorem TabOk.plainOff {b : Bool} {t : SetTable} (h : TabOk b t) : TabOk b { t with plain := false } := ⟨h.led, h.rise, h.dum⟩
theorem TabOk.fresh (b : Bool) : TabOk b (.fresh 0 0 b) := ⟨rfl, List.Pairwise.nil, rfl⟩
end L2

namespace L2
open PySem PySem.Spec PyProof.Rows
def kOf (e : Int × Value) : Int := match e.2 with | .int k _ => k | _ => 0
/-- the entries of a set of ints: what was put in, each once -/
structure EsOk (es : List (Int × Value)) (ns : List Int) : Prop where
  el : ∀ e ∈ es, (∃ t, e.2 = .int (kOf e) t) ∧ e.1 = hashInt (kOf e)
  nd : (es.map kOf).Nodup
  mem : ∀ k, k ∈ es.map kOf ↔ k ∈ ns
theorem EsOk.len {es : List (Int × Value)} {ns : List Int} (h : EsOk es ns) : es.length ≤ ns.length := by
  have := List.Nodup.length_le_of_subset h.nd fun k hk => (h.mem k).mp hk
  rw [List.length_map] at this
  exact this
theorem EsOk.perm {es es' : List (Int × Value)} {ns : List Int} (h : EsOk es ns) (p : es'.Perm es) : EsOk es' ns :=
  ⟨fun e he => h.el e (p.mem_iff.mp he), (p.map kOf).nodup_iff.mpr h.nd, fun k => ((p.map kOf).mem_iff).trans (h.mem k)⟩
theorem EsOk.push {es es' : List (Int × Value)} {ns : List Int} {k : Int} {t : Tok} (h : EsOk es ns) (hn : k ∉ ns) (p : es'.Perm (es ++ [(hashInt k, .int k t)])) : EsOk es' (ns ++ [k]) := by
  refine EsOk.perm ⟨fun e he => ?_, ?_, fun k' => ?_⟩ p
  · rcases List.mem_append.mp he with he | he
    · exact h.el e he
    · rw [List.mem_singleton.mp he]; exact ⟨⟨t, rfl⟩, rfl⟩
  · rw [List.map_append, List.nodup_append]
    refine ⟨h.nd, by simp, fun a ha b hb => ?_⟩
    have : b = k := List.mem_singleton.mp hb
    rw [this]
    rintro rfl
    exact hn ((h.mem _).mp ha)
  · rw [List.map_append, List.mem_append, List.mem_append, h.mem k']
    rfl
theorem EsOk.again {es : List (Int × Value)} {ns : List Int} {k : Int} (h : EsOk es ns) (hn : k ∈ ns) : EsOk es (ns ++ [k]) :=
  ⟨h.el, h.nd, fun k' => by rw [h.mem k', List.mem_append, List.mem_singleton]; exact ⟨.inl, fun q => q.elim id fun e => by rw [e]; exact hn⟩⟩
theorem EsOk.elems {P : Program} {w : World} {es : List (Int × Value)} {ns : List Int} (h : EsOk es ns) : ElemsOf (intKind P w) es := fun e he => by
  obtain ⟨⟨t, e1⟩, e2⟩ := h.el e he
  refine ⟨⟨kOf e, ?_, e2⟩, ?_⟩
  · show Value.isInt (kOf e) e.2 = true
    generalize kOf e = k at *
    rw [e1]
    exact intKind_is P w k t
  · rw [e1]; rfl
theorem EsOk.find {P : Program} {w : World} {es : List (Int × Value)} {ns : List Int} (h : EsOk es ns) (k : Int) : (List.findIdx? (fun e => (intKind P w).is k e.2) es).isSome = decide (k ∈ ns) := by
  have key : ∀ e ∈ es, ((intKind P w).is k e.2 = true ↔ kOf e = k) := fun e he => by
    obtain ⟨⟨t, e1⟩, e2⟩ := h.el e he
    generalize kOf e = k' at *
    rw [e1]
    constructor
    · intro q
      exact ((intKind P w).inj _ _ _ q (intKind_is P w k' t)).symm
    · rintro rfl; exact intKind_is P w k' t
  rw [Bool.eq_iff_iff, decide_eq_true_eq, ← h.mem k, List.mem_map]
  constructor
  · intro q
    obtain ⟨j, hj⟩ := Option.isSome_iff_exists.mp q
    obtain ⟨hj', hp, _⟩ := List.findIdx?_eq_some_iff_getElem.mp hj
    exact ⟨es[j], List.getElem_mem hj', (key _ (List.getElem_mem hj')).mp hp⟩
  · rintro ⟨e, he, q⟩
    cases hr : List.findIdx? (fun e => (intKind P w).is k e.2) es with
    | some j => rfl
    | none =>
      have := List.findIdx?_eq_none_iff.mp hr e he
      rw [(key e he).mpr q] at this
      cases this
/-- a set of ints on the heap -/
def ISet (h : Heap) (a : Addr) (b : Bool) (ns : List Int) : Prop := ∃ o es ep t, h.get? a = some o ∧ o.ExactSet ∧ o.data = .set es ep t ∧ EsOk es.toList ns ∧ t.fits es.size = true ∧ TabOk b t
theorem ISet.at {h h' : Heap} {a : Addr} {b : Bool} {ns : List Int} (x : ISet h a b ns) (k : ∀ o, h.get? a = some o → h'.get? a = some o) : ISet h' a b ns := let ⟨o, es, ep, t, ho, r⟩ := x; ⟨o, es, ep, t, k o ho, r⟩
section
variable {P : Program} {w : World} {A : Around} {E : Value → Shared → Prop} {s : Shared}
theorem store_iset {h : Heap} {a : Addr} {o : Obj} {es : Array (Int × Value)} {ep : Nat} {t : SetTable} (ho : h.get? a = some o) (hex : o.ExactSet) (hd : o.data = .set es ep t) {es' : Array (Int × Value)} {t' : SetTable} :
    (h.update a (Obj.putSet es' t')).get? a = some { o with data := .set es' (ep + 1) t' } := by
  have := Heap.get?_update_self (Obj.putSet es' t') ho (by rw [putSet_of es' t' hd]; rfl)
  rw [putSet_of es' t' hd] at this; exact this
theorem addI_tail {b : Bool} {ns : List Int} {g : Bool → Sem Unit} (hg : ∀ (b : Bool) (s₁ : Shared) (Q' : Unit → Shared → Prop), Q' () s₁ → wpAny (model P w) A (g b) Q' E s₁)
    {a : Addr} {o : Obj} {es : Array (Int × Value)} {ep : Nat} {t : SetTable} (ho : s.heap.get? a = some o) (hex : o.ExactSet) (hd : o.data = .set es ep t)
    {es1 : Array (Int × Value)} {t2 : SetTable} (he1 : EsOk es1.toList ns) (hb1 : ns.length < scanBound) (hf2 : t2.fits es1.size = true) (ht2 : TabOk b t2) {wasDummy : Bool} {R : Option Bool → Shared → Prop}
    (h : ∀ h', Heap.SameBut a s.heap h' → ISet h' a b ns → R (some true) { s with heap := h' }) :
    wpAny (model P w) A (do
        storeSet a es1 t2
        if (!wasDummy && t2.tooFull) = true then do
            g (relayAll t2 es1 (SetTable.grown es1.size)).2.2
            storeSet a (relayAll t2 es1 (SetTable.grown es1.size)).1 (relayAll t2 es1 (SetTable.grown es1.size)).2.1
            pure (some true)
          else pure (some true)) R E s := by
  have l1 : es1.size < scanBound := by have := he1.len; rw [Array.length_toList] at this; omega
  refine wpAny_bind (wpAny_storeSet_of ho hd ?_ (fits_of_scanBound l1))
  have ho1 := store_iset ho hex hd (es' := es1) (t' := t2)
  have hsb1 := Heap.SameBut.update s.heap a (Obj.putSet es1 t2)
  split
  · have hp := relayAll_perm t2 es1 (SetTable.grown es1.size)
    have hfr := relayAll_fits t2 es1 (SetTable.grown es1.size)
    have hto := ht2.relayAll es1 (SetTable.grown es1.size)
    generalize hRl : relayAll t2 es1 (SetTable.grown es1.size) = Rl at hp hfr hto ⊢
    obtain ⟨es2, t3, gave2⟩ := Rl
    dsimp only at hp hfr hto ⊢
    have he2 := he1.perm hp
    have l2 : es2.size < scanBound := by have := he2.len; rw [Array.length_toList] at this; omega
    refine wpAny_bind (hg _ _ _ ?_)
    refine wpAny_bind (wpAny_storeSet_of ho1 rfl ?_ (fits_of_scanBound l2))
    have ho2 := store_iset ho1 hex rfl (es' := es2) (t' := t3)
    exact wpAny_pure (h _ (hsb1.trans (Heap.SameBut.update _ a _)) ⟨_, es2, _, t3, ho2, hex, rfl, he2, hfr, hto⟩)
  · exact wpAny_pure (h _ hsb1 ⟨_, es1, _, t2, ho1, hex, rfl, he1, hf2, ht2⟩)
theorem addI {b : Bool} {ns : List Int} {a : Addr} {k : Int} {tk : Tok} {Q : Bool → Shared → Prop} (hS : ISet s.heap a b ns) (hroom : ns.length + 1 < scanBound)
    (h : ∀ r h', Heap.SameBut a s.heap h' → ISet h' a b (ns ++ [k]) → Q r { s with heap := h' }) :
    wpAny (model P w) A (setAddHashed a (.int k tk) ((intKind P w).hash k)) Q E s := by
  obtain ⟨o, es, ep, t, ho, hex, hd, he, hf, ht⟩ := hS
  have hel : ElemsOf (intKind P w) es.toList := he.elems
  have hb : es.size < scanBound := by have := he.len; rw [Array.length_toList] at this; omega
  have hfi := he.find (P := P) (w := w) k
  unfold setAddHashed setAddHashedIn
  refine wpAny_holding (wpAny_bind (wpAny_setState_of ho hd hf ?_))
  dsimp only
  rw [byScan_of rfl hb hel]
  simp only [↓reduceIte]
  unfold setAddByScan
  refine wpAny_bind ?_
  refine wpAny_bind (wpAny_rule ?_)
  refine wpAny_bind (wpAny_setScan_of (intKind_is P w k tk) ho hd hf hel ?_)
  cases hr : List.findIdx? (fun e => (intKind P w).is k e.2) es.toList with
  | some j =>
    dsimp only
    rw [hr] at hfi
    have hk : k ∈ ns := of_decide_eq_true hfi.symm
    refine wpAny_pure (wpAny_pure ?_)
    exact h _ s.heap (Heap.SameBut.refl a s.heap) ⟨o, es, ep, t, ho, hex, hd, he.again hk, hf, ht⟩
  | none =>
    dsimp only
    rw [hr] at hfi
    have hk : k ∉ ns := of_decide_eq_false hfi.symm
    have hgw : ∀ (b : Bool) {s₁ : Shared} {Q' : Unit → Shared → Prop}, Q' () s₁ → wpAny (model P w) A (match b with | true => rule "set.scan.the-table-gave-way" | false => pure ()) Q' E s₁ :=
      fun b s₁ Q' hq => by cases b <;> first | exact wpAny_pure hq | exact wpAny_rule hq
    have hperm := layNew_perm t es ((intKind P w).hash k) (.int k tk)
    have hfits := layNew_fits t es ((intKind P w).hash k) (.int k tk)
    have hto := ht.layNew es ((intKind P w).hash k) (.int k tk)
    generalize hL : layNew t es ((intKind P w).hash k) (.int k tk) = L at hperm hfits hto ⊢
    obtain ⟨es1, t1, wasDummy, gave⟩ := L
    dsimp only at hperm hfits hto ⊢
    rw [Array.toList_push] at hperm
    have he1 : EsOk es1.toList (ns ++ [k]) := he.push hk hperm
    have hb1' : (ns ++ [k]).length < scanBound := by rw [List.length_append, List.length_singleton]; exact hroom
    refine wpAny_bind (hgw _ ?_)
    split
    · refine wpAny_bind ?_
      rw [hashByValue_scannable 8 rfl]
      refine wpAny_pure ?_
      refine addI_tail (b := b) ?_ ho hex hd he1 hb1' ?_ ?_ ?_
      · intro b s₁ Q' hq; cases b <;> first | exact wpAny_pure hq | exact wpAny_rule hq
      · split
        · exact hfits
        · exact SetTable.fits_plain_off hfits
      · split
        · exact hto
        · exact hto.plainOff
      · intro h' hsb hS'; dsimp only; exact wpAny_pure (h _ h' hsb hS')
    · refine wpAny_bind (wpAny_pure ?_)
      simp only [↓reduceIte]
      refine addI_tail ?_ ho hex hd he1 hb1' hfits hto ?_
      · intro b s₁ Q' hq; cases b <;> first | exact wpAny_pure hq | exact wpAny_rule hq
      · intro h' hsb hS'; dsimp only; exact wpAny_pure (h _ h' hsb hS')
end
end L2

namespace L2
open PySem PySem.Spec PyProof.Rows
/-! ### going through a set -/
theorem slot_seti_next : Slot "set_iterator" "__next__" "set_iterator.__next__" :=
  .of (owner := "set_iterator") (n := "__next__") (by rw [typeLookup_type, builtinLookup_eq_fast]; kernel_rfl) (by decide +kernel) (by decide +kernel) (by decide +kernel)
    (by first | exact .inl (by decide +kernel) | exact .inr (by decide +kernel)) (by rw [isSubtype_type]; kernel_rfl)
theorem entry_seti_next : entryFor table "set_iterator.__next__" = some Builtin.«set_iterator.__next__» := entryFor_of_tree (by kernel_rfl)
theorem entry_set_iter' : entryFor table "set.__iter__" = some Builtin.«frozenset.__iter__» :=
  entryFor_alias (id' := "frozenset.__iter__") (by kernel_rfl) rfl (by decide +kernel) (by kernel_rfl)
theorem set_len_is : typeLookup (.type "set") "__len__" = pure (some (.builtin "set.__len__")) := by rw [typeLookup_type, builtinLookup_eq_fast]; kernel_rfl
theorem erase_perm {α : Type} : ∀ {xs : List α} {i : Nat} (h : i < xs.length), (xs[i] :: xs.eraseIdx i).Perm xs
  | x :: xs, 0, _ => List.Perm.refl _
  | x :: xs, i + 1, h => by
    have := erase_perm (xs := xs) (i := i) (by simpa using h)
    show ((xs[i]'(by simpa using h)) :: x :: xs.eraseIdx i).Perm (x :: xs)
    exact (List.Perm.swap _ _ _).trans (List.Perm.cons _ this)
/-- the order by the text is an order -/
theorem pick_go {α : Type} (next : Nat → Nat) : ∀ (fuel k : Nat) (left : List α) (out : Array α), left.length ≤ fuel → (pickOrder.go next fuel k left out).toList.Perm (out.toList ++ left)
  | 0, k, left, out, h => by
    have : left = [] := List.length_eq_zero_iff.mp (by omega)
    subst this
    unfold pickOrder.go
    simp
  | fuel + 1, k, left, out, h => by
    unfold pickOrder.go
    cases hl : left[next k % left.length]? with
    | none =>
      have : left = [] := by
        cases left with
        | nil => rfl
        | cons a r =>
          have := List.getElem?_eq_none_iff.mp hl
          have := Nat.mod_lt (next k) (show 0 < (a :: r).length by simp)
          omega
      subst this
      simp
    | some x =>
      simp only
      obtain ⟨hi, ex⟩ := List.getElem?_eq_some_iff.mp hl
      refine (pick_go next fuel (k + 1) _ _ (by rw [List.length_eraseIdx_of_lt hi]; omega)).trans ?_
      rw [Array.toList_push, List.append_assoc]
      refine List.Perm.append_left _ ?_
      have := erase_perm hi
      rw [ex] at this
      exact this
theorem pick_perm {α : Type} (next : Nat → Nat) (xs : Array α) : (pickOrder next xs).toList.Perm xs.toList := by
  have := pick_go next xs.size 0 xs.toList #[] (by simp)
  unfold pickOrder
  simpa using this
section
variable {P : Program} {w : World} {A : Around} {E : Value → Shared → Prop} {s : Shared}
theorem wpAny_choose_ {src : Source} {n : Nat} {Q : Nat → Shared → Prop} (hn : n ≠ 0) (h : ∀ i d, i < n → Q i { s with drawn := d }) : wpAny (model P w) A (choose src n) Q E s := fun Γ p hΓ => by
  show Sem.wp _ Γ (.choose src n .pure) _ _ p s
  rw [Sem.wp_choose]
  exact ⟨hn, h _ _ (Nat.mod_lt _ (Nat.pos_of_ne_zero hn))⟩
theorem draw_perm {α : Type} : ∀ (n : Nat) (xs : List α) (s : Shared) (Q : List α → Shared → Prop), xs.length ≤ n → (∀ ys d, ys.Perm xs → Q ys { s with drawn := d }) → wpAny (model P w) A (drawOrder n xs) Q E s
  | 0, xs, s, Q, hl, h => by
    have : xs = [] := List.length_eq_zero_iff.mp (by omega)
    subst this
    unfold drawOrder
    exact wpAny_pure (h [] s.drawn (List.Perm.refl _))
  | n + 1, [], s, Q, hl, h => by
    unfold drawOrder
    exact wpAny_pure (h [] s.drawn (List.Perm.refl _))
  | n + 1, x :: xs, s, Q, hl, h => by
    unfold drawOrder
    refine wpAny_bind (wpAny_choose_ (by simp) fun i d hi => ?_)
    have e : (x :: xs)[i]? = some (x :: xs)[i] := List.getElem?_eq_getElem hi
    simp only [e]
    refine wpAny_bind (draw_perm n _ _ _ (by rw [List.length_eraseIdx_of_lt hi]; simp at hl ⊢; omega) fun ys d' p => wpAny_pure (h _ d' ?_))
    exact (List.Perm.cons _ p).trans (erase_perm hi)
abbrev IsSetIt (h : Heap) (it a : Addr) (first : Value) (i n ep : Nat) : Prop := h.get? it = some { cls := .type "set_iterator", dict := none, data := .fields #[first, .int i 0, .ref a, .int n 0, .int ep 0], slots := #[] }
def byT (w : World) : Bool := w.params.followText "set-order"
theorem wpAny_byText {Q : Bool → Shared → Prop} (h : Q (byT w) s) : wpAny (model P w) A setsByText Q E s := by
  unfold setsByText
  exact wpAny_bind (wpAny_askSetting (wpAny_pure h))
theorem owner_seti : Manifest.owners.lookup (String.ofList ['r', 'o', 't', 'a', 'r', 'e', 't', 'i', '_', 't', 'e', 's'].reverse) = some Manifest.sig_set_iterator := by kernel_rfl
theorem args_seti_next (a : Value) : argsOk "set_iterator.__next__" ⟨[a], []⟩ := by
  unfold argsOk; rw [signature?_of (id := "set_iterator.__next__") (n := ['_', '_', 't', 'x', 'e', 'n', '_', '_']) (o := ['r', 'o', 't', 'a', 'r', 'e', 't', 'i', '_', 't', 'e', 's']) (by kernel_rfl) owner_seti]; kernel_rfl
section
variable {it a : Addr} {o : Obj} {es : Array (Int × Value)} {ep : Nat} {t : SetTable}
theorem setWalk_text {Q : Array (Int × Value) → Shared → Prop} (hb : byT w = true) (ho : s.heap.get? a = some o) (hd : o.data = .set es ep t) (hf : t.fits es.size = true) (h : Q (pickOrder (w.params.setOrder a ep) es) s) : wpAny (model P w) A (setWalk a) Q E s := by
  unfold setWalk
  refine wpAny_bind (wpAny_setState_of ho hd hf ?_)
  dsimp only
  refine wpAny_bind (wpAny_byText ?_)
  rw [hb]
  simp only [if_true]
  exact wpAny_bind (wpAny_askSetting (wpAny_pure h))
theorem setNext_text {sl i : Nat} {Q : Option (Value × Nat) → Shared → Prop} (hb : byT w = true) (ho : s.heap.get? a = some o) (hd : o.data = .set es ep t) (hf : t.fits es.size = true)
    (h : Q (((pickOrder (w.params.setOrder a ep) es)[i]?).map fun e => (e.2, sl)) s) : wpAny (model P w) A (setNext a sl i ep) Q E s := by
  unfold setNext
  refine wpAny_bind (wpAny_setState_of ho hd hf ?_)
  dsimp only
  refine wpAny_bind (wpAny_byText ?_)
  rw [hb]
  simp only [if_true, bne_self_eq_false, Bool.false_eq_true, if_false]
  exact wpAny_bind (setWalk_text hb ho hd hf (wpAny_pure h))
theorem setNext_plain {sl i : Nat} {Q : Option (Value × Nat) → Shared → Prop} (hb : byT w = false) (ho : s.heap.get? a = some o) (hd : o.data = .set es ep t) (hf : t.fits es.size = true) (hp : (!t.plain && decide (es.size > 1)) = false) (hl : t.led = true)
    (h : Q (match es[SetTable.below t.place sl]?, t.place[SetTable.below t.place sl]? with | some (_, x), some j => some (x, j + 1) | _, _ => none) s) : wpAny (model P w) A (setNext a sl i ep) Q E s := by
  unfold setNext
  refine wpAny_bind (wpAny_setState_of ho hd hf ?_)
  dsimp only
  refine wpAny_bind (wpAny_byText ?_)
  rw [hb]
  simp only [Bool.false_eq_true, if_false]
  show wpAny _ _ (if (!t.plain && decide (es.size > 1)) = true then _ else _) _ _ _
  rw [hp]
  simp only [Bool.false_eq_true, if_false]
  refine wpAny_bind ?_
  show wpAny _ _ (if (!t.led && !es.isEmpty) = true then _ else _) _ _ _
  rw [hl]
  simp only [Bool.not_true, Bool.false_and, Bool.false_eq_true, if_false]
  exact wpAny_pure (wpAny_pure h)
theorem seti_item {sl i sl' : Nat} {x : Value} {Q : Option Value → Shared → Prop} (hit : IsSetIt s.heap it a (rawInt sl) i es.size ep) (ho : s.heap.get? a = some o) (hd : o.data = .set es ep t) (hf : t.fits es.size = true)
    (hR : ∀ (Q' : Option (Value × Nat) → Shared → Prop) (E' : Value → Shared → Prop), Q' (some (x, sl')) s → wpAny (model P w) A.in1 (setNext a sl i ep) Q' E' s)
    (hQ : ∀ h', IsSetIt h' it a (rawInt sl') (i + 1) es.size ep → Heap.SameBut it s.heap h' → Q (some x) { s with heap := h' }) : wpAny (model P w) A (pyNext (.ref it)) Q E s := by
  have hT : s.TypeIs (.ref it) "set_iterator" := ⟨_, hit, rfl⟩
  unfold pyNext
  refine wpAny_bind (wpAny_attempt (wpAny_callSpecial?_slot (name := Str.ofString "__next__") hT slot_seti_next (wpAny_call_entry slot_seti_next hT entry_seti_next ?_ (args_seti_next _))))
  show wpAny _ _ (fieldsOf (.ref it) >>= _) _ _ s
  refine wpAny_bind (wpAny_fieldsOf hit rfl ?_)
  show wpAny _ _ (setEntries a >>= _) _ _ s
  refine wpAny_bind (wpAny_setEntries_of ho hd hf ?_)
  rw [if_neg (by simp)]
  show wpAny _ _ (setNext a ((sl : Int).toNat) ((i : Int).toNat) ((ep : Int).toNat) >>= _) _ _ s
  rw [Int.toNat_natCast, Int.toNat_natCast, Int.toNat_natCast]
  refine wpAny_bind (hR _ _ ?_)
  dsimp only
  refine wpAny_bind (wpAny_setField_rec hit (by simp) fun h1 e1 k1 => ?_)
  refine wpAny_bind (wpAny_setField_rec e1 (by simp) fun h2 e2 k2 => ?_)
  refine wpAny_pure ⟨_, rfl, wpAny_pure (hQ h2 ?_ (k1.trans k2))⟩
  have e : ((i + 1 : Nat) : Int) = (i : Int) + 1 := by omega
  unfold IsSetIt
  rw [e]
  simpa [rawInt] using e2
theorem seti_end {sl i : Nat} {Q : Option Value → Shared → Prop} (hh : A.handled = none) (hit : IsSetIt s.heap it a (rawInt sl) i es.size ep) (ho : s.heap.get? a = some o) (hd : o.data = .set es ep t) (hf : t.fits es.size = true)
    (hR : ∀ (Q' : Option (Value × Nat) → Shared → Prop) (E' : Value → Shared → Prop), Q' none s → wpAny (model P w) A.in1 (setNext a sl i ep) Q' E' s)
    (hQ : ∀ h', (∀ b o, b ≠ it → s.heap.get? b = some o → h'.get? b = some o) → Q none { s with heap := h' }) : wpAny (model P w) A (pyNext (.ref it)) Q E s := by
  have hT : s.TypeIs (.ref it) "set_iterator" := ⟨_, hit, rfl⟩
  unfold pyNext
  refine wpAny_bind (wpAny_attempt (wpAny_callSpecial?_slot (name := Str.ofString "__next__") hT slot_seti_next (wpAny_call_entry slot_seti_next hT entry_seti_next ?_ (args_seti_next _))))
  show wpAny _ _ (fieldsOf (.ref it) >>= _) _ _ s
  refine wpAny_bind (wpAny_fieldsOf hit rfl ?_)
  show wpAny _ _ (setEntries a >>= _) _ _ s
  refine wpAny_bind (wpAny_setEntries_of ho hd hf ?_)
  rw [if_neg (by simp)]
  show wpAny _ _ (setNext a ((sl : Int).toNat) ((i : Int).toNat) ((ep : Int).toNat) >>= _) _ _ s
  rw [Int.toNat_natCast, Int.toNat_natCast, Int.toNat_natCast]
  refine wpAny_bind (hR _ _ ?_)
  dsimp only
  refine wpAny_bind (wpAny_setField hit rfl (by simp) ?_)
  show wpAny _ _ (newExc (.type "StopIteration") [] >>= _) _ _ _
  refine wpAny_bind ?_
  simp only [newExc, newTuple]
  refine wpAny_bind (wpAny_newObj_type ?_ (by size_fits))
  refine wpAny_bind (m := firstArgMember _ _) (wpAny_of_eq (a := Value.none) (by first | rfl | (simp only [firstArgMember]; rfl)) ?_)
  refine wpAny_newObj_type ?_ (by size_fits)
  simp only [raiseNew]
  refine wpAny_bind (wpAny_handled ?_)
  rw [show A.in1.handled = none from hh]
  refine wpAny_bind (wpAny_pure (wpAny_throw ?_))
  refine wpAny_bind (wpAny_isInstance (T := "StopIteration") (b := true) ⟨_, Heap.get?_push_size _ rfl, rfl⟩ isSubtype_stop ?_)
  exact wpAny_pure (hQ _ fun b o hb e => (((Heap.SameBut.update ..).extBut.push _).push _) b o hb e)
/-- the next one of a drawn order -/
theorem setd_item {tp : Addr} {i p : Nat} {ps : Array Value} {x : Int × Value} {Q : Option Value → Shared → Prop} (hit : IsSetIt s.heap it a (.ref tp) i es.size ep) (ho : s.heap.get? a = some o) (hd : o.data = .set es ep t) (hf : t.fits es.size = true)
    (ht : s.heap.get? tp = some { cls := .type "tuple", data := .seq ps }) (hp : ps[i]? = some (rawInt p)) (hx : es[p]? = some x)
    (hQ : ∀ h', IsSetIt h' it a (.ref tp) (i + 1) es.size ep → Heap.SameBut it s.heap h' → Q (some x.2) { s with heap := h' }) : wpAny (model P w) A (pyNext (.ref it)) Q E s := by
  have hT : s.TypeIs (.ref it) "set_iterator" := ⟨_, hit, rfl⟩
  unfold pyNext
  refine wpAny_bind (wpAny_attempt (wpAny_callSpecial?_slot (name := Str.ofString "__next__") hT slot_seti_next (wpAny_call_entry slot_seti_next hT entry_seti_next ?_ (args_seti_next _))))
  show wpAny _ _ (fieldsOf (.ref it) >>= _) _ _ s
  refine wpAny_bind (wpAny_fieldsOf hit rfl ?_)
  show wpAny _ _ (setEntries a >>= _) _ _ s
  refine wpAny_bind (wpAny_setEntries_of ho hd hf ?_)
  rw [if_neg (by simp)]
  show wpAny _ _ (seqItems? (.ref tp) >>= _) _ _ s
  refine wpAny_bind (wpAny_seqItems ht rfl ?_)
  simp only [Int.toNat_natCast, hp, rawInt]
  refine wpAny_bind ?_
  unfold setNextDrawn
  refine wpAny_bind (wpAny_setState_of ho hd hf ?_)
  dsimp only
  simp only [Int.toNat_natCast, bne_self_eq_false, Bool.false_eq_true, if_false, hx]
  refine wpAny_pure ?_
  refine wpAny_bind (wpAny_setField_rec hit (by simp) fun h1 e1 k1 => ?_)
  refine wpAny_pure ⟨_, rfl, wpAny_pure (hQ h1 ?_ k1)⟩
  have e : ((i + 1 : Nat) : Int) = (i : Int) + 1 := by omega
  unfold IsSetIt
  rw [e]
  simpa [rawInt] using e1
theorem setd_end {tp : Addr} {i : Nat} {ps : Array Value} {Q : Option Value → Shared → Prop} (hh : A.handled = none) (hit : IsSetIt s.heap it a (.ref tp) i es.size ep) (ho : s.heap.get? a = some o) (hd : o.data = .set es ep t) (hf : t.fits es.size = true)
    (ht : s.heap.get? tp = some { cls := .type "tuple", data := .seq ps }) (hp : ps[i]? = none)
    (hQ : ∀ h', (∀ b o, b ≠ it → s.heap.get? b = some o → h'.get? b = some o) → Q none { s with heap := h' }) : wpAny (model P w) A (pyNext (.ref it)) Q E s := by
  have hT : s.TypeIs (.ref it) "set_iterator" := ⟨_, hit, rfl⟩
  unfold pyNext
  refine wpAny_bind (wpAny_attempt (wpAny_callSpecial?_slot (name := Str.ofString "__next__") hT slot_seti_next (wpAny_call_entry slot_seti_next hT entry_seti_next ?_ (args_seti_next _))))
  show wpAny _ _ (fieldsOf (.ref it) >>= _) _ _ s
  refine wpAny_bind (wpAny_fieldsOf hit rfl ?_)
  show wpAny _ _ (setEntries a >>= _) _ _ s
  refine wpAny_bind (wpAny_setEntries_of ho hd hf ?_)
  rw [if_neg (by simp)]
  show wpAny _ _ (seqItems? (.ref tp) >>= _) _ _ s
  refine wpAny_bind (wpAny_seqItems ht rfl ?_)
  simp only [Int.toNat_natCast, hp]
  refine wpAny_bind (wpAny_setField_rec hit (by simp) fun h1 e1 k1 => ?_)
  refine wpAny_bind (wpAny_setField_rec e1 (by simp) fun h2 e2 k2 => ?_)
  show wpAny _ _ (newExc (.type "StopIteration") [] >>= _) _ _ _
  refine wpAny_bind ?_
  simp only [newExc, newTuple]
  refine wpAny_bind (wpAny_newObj_type ?_ (by size_fits))
  refine wpAny_bind (m := firstArgMember _ _) (wpAny_of_eq (a := Value.none) (by first | rfl | (simp only [firstArgMember]; rfl)) ?_)
  refine wpAny_newObj_type ?_ (by size_fits)
  simp only [raiseNew]
  refine wpAny_bind (wpAny_handled ?_)
  rw [show A.in1.handled = none from hh]
  refine wpAny_bind (wpAny_pure (wpAny_throw ?_))
  refine wpAny_bind (wpAny_isInstance (T := "StopIteration") (b := true) ⟨_, Heap.get?_push_size _ rfl, rfl⟩ isSubtype_stop ?_)
  exact wpAny_pure (hQ _ fun b o hb e => ((k1.trans k2).extBut.push _).push _ b o hb e)
end
end
end L2

namespace L2
open PySem PySem.Spec PyProof.Rows
theorem slot_seti_iter : Slot "set_iterator" "__iter__" "set_iterator.__iter__" :=
  .of (owner := "set_iterator") (n := "__iter__") (by rw [typeLookup_type, builtinLookup_eq_fast]; kernel_rfl) (by decide +kernel) (by decide +kernel) (by decide +kernel)
    (by first | exact .inl (by decide +kernel) | exact .inr (by decide +kernel)) (by rw [isSubtype_type]; kernel_rfl)
theorem entry_seti_iter : entryFor table "set_iterator.__iter__" = some Builtin.«dict_keyiterator.__iter__» :=
  entryFor_alias (id' := "dict_keyiterator.__iter__") (by kernel_rfl) rfl (by decide +kernel) (by kernel_rfl)
theorem args_seti_iter (a : Value) : argsOk "set_iterator.__iter__" ⟨[a], []⟩ := by
  unfold argsOk; rw [signature?_of (id := "set_iterator.__iter__") (n := ['_', '_', 'r', 'e', 't', 'i', '_', '_']) (o := ['r', 'o', 't', 'a', 'r', 'e', 't', 'i', '_', 't', 'e', 's']) (by kernel_rfl) owner_seti]; kernel_rfl
section
variable {P : Program} {w : World} {A : Around} {E : Value → Shared → Prop} {s : Shared}
def slotAt (t : SetTable) : Nat → Nat
  | 0 => 0
  | i + 1 => t.place.getD i 0 + 1
/-- a set that is being gone through, in some order -/
structure Dealt (w : World) (it a : Addr) (fp : List Addr) (order : List Value) (St : Nat → Heap → Prop) : Prop where
  walk : ∀ (P : Program) (A : Around), A.handled = none → Walks P w A it fp [it] order.length (fun i v => order[i]? = some v) St
theorem self_seti {it a : Addr} {f : Value} {i n ep : Nat} {Q : Value → Shared → Prop} (hit : IsSetIt s.heap it a f i n ep) (h : Q (.ref it) s) : wpAny (model P w) A (pyIter (.ref it)) Q E s := by
  have hT : s.TypeIs (.ref it) "set_iterator" := ⟨_, hit, rfl⟩
  refine wpAny_pyIter_slot hT slot_seti_iter (wpAny_call_entry slot_seti_iter hT entry_seti_iter ?_ (args_seti_iter _))
  show wpAny _ _ (ret (.ref it)) _ _ s
  exact wpAny_pure ⟨_, rfl, "set_iterator", _, hT, slot_seti_next.lookup, h⟩
theorem dealt_text {it a : Addr} {o : Obj} {es : Array (Int × Value)} {ep : Nat} {t : SetTable} (hb : byT w = true) (hne : a ≠ it) (hd : o.data = .set es ep t) (hf : t.fits es.size = true) :
    Dealt w it a [it, a] ((pickOrder (w.params.setOrder a ep) es).toList.map (·.2)) (fun i h => IsSetIt h it a (rawInt 0) i es.size ep ∧ h.get? a = some o) where
  walk := fun P A hh => {
    sub := fun b hb => by simp at hb; simp [hb]
    frame := fun _ _ _ st hk => ⟨hk it (by simp) _ st.1, hk a (by simp) _ st.2⟩
    item := fun i s Q E hi st hQ => by
      have hi' : i < (pickOrder (w.params.setOrder a ep) es).size := by simpa using hi
      have hg : (pickOrder (w.params.setOrder a ep) es)[i]? = some (pickOrder (w.params.setOrder a ep) es)[i] := Array.getElem?_eq_getElem hi'
      refine seti_item st.1 st.2 hd hf (x := (pickOrder (w.params.setOrder a ep) es)[i].2) (sl' := 0) (fun Q' E' q => setNext_text hb st.2 hd hf ?_) fun h' hit' hs' => ?_
      · rw [hg]; exact q
      · exact hQ _ h' s.toks (by simp [hi']) ⟨hit', (hs'.2 a hne).trans st.2⟩ fun b o hb e => hs'.extBut b o (fun h => hb (by simp [h])) e
    done := fun s Q E st hQ => by
      refine seti_end hh st.1 st.2 hd hf (fun Q' E' q => setNext_text hb st.2 hd hf ?_) fun h' he' => hQ h' s.toks fun b o hb e => he' b o (fun h => hb (by simp [h])) e
      have : (pickOrder (w.params.setOrder a ep) es)[((pickOrder (w.params.setOrder a ep) es).toList.map (·.2)).length]? = none := by simp
      rw [this]; exact q
    self := fun _ _ _ _ st hQ => self_seti st.1 hQ }
theorem dealt_plain {it a : Addr} {o : Obj} {es : Array (Int × Value)} {ep : Nat} {t : SetTable} (hb : byT w = false) (hne : a ≠ it) (hd : o.data = .set es ep t) (hf : t.fits es.size = true) (ht : TabOk true t) (hp : (!t.plain && decide (es.size > 1)) = false) :
    Dealt w it a [it, a] (es.toList.map (·.2)) (fun i h => IsSetIt h it a (rawInt (slotAt t i)) i es.size ep ∧ h.get? a = some o) where
  walk := fun P A hh => by
    have hsz : t.place.size = es.size := by
      unfold SetTable.fits at hf
      simp only [Bool.and_eq_true, beq_iff_eq] at hf
      exact hf.1
    have hbl : ∀ i, i ≤ es.size → SetTable.below t.place (slotAt t i) = i := fun i hi => by
      cases i with
      | zero => exact below_zero ht.rise
      | succ i =>
        have hlt : i < t.place.size := by omega
        have : t.place[i]? = some (t.place.getD i 0) := by simp [Array.getD, hlt]
        exact below_next ht.rise this
    exact {
      sub := fun b hb => by simp at hb; simp [hb]
      frame := fun _ _ _ st hk => ⟨hk it (by simp) _ st.1, hk a (by simp) _ st.2⟩
      item := fun i s Q E hi st hQ => by
        have hi' : i < es.size := by simpa using hi
        have hg : es[i]? = some es[i] := Array.getElem?_eq_getElem hi'
        have hlt : i < t.place.size := by omega
        have hg2 : t.place[i]? = some (t.place.getD i 0) := by simp [Array.getD, hlt]
        refine seti_item st.1 st.2 hd hf (x := es[i].2) (sl' := slotAt t (i + 1)) (fun Q' E' q => setNext_plain hb st.2 hd hf hp ht.led ?_) fun h' hit' hs' => ?_
        · rw [hbl i (by omega), hg, hg2]; exact q
        · exact hQ _ h' s.toks (by simp [hi']) ⟨hit', (hs'.2 a hne).trans st.2⟩ fun b o hb e => hs'.extBut b o (fun h => hb (by simp [h])) e
      done := fun s Q E st hQ => by
        have hl : (es.toList.map (·.2)).length = es.size := by simp
        rw [hl] at st
        refine seti_end hh st.1 st.2 hd hf (fun Q' E' q => setNext_plain hb st.2 hd hf hp ht.led ?_) fun h' he' => hQ h' s.toks fun b o hb e => he' b o (fun h => hb (by simp [h])) e
        rw [hbl es.size (Nat.le_refl _), Array.getElem?_eq_none (Nat.le_refl _)]; exact q
      self := fun _ _ _ _ st hQ => self_seti st.1 hQ }
theorem dealt_drawn {it a tp : Addr} {o : Obj} {es : Array (Int × Value)} {ep : Nat} {t : SetTable} {ps : List Nat} (hne : a ≠ it) (hne2 : tp ≠ it) (hd : o.data = .set es ep t) (hf : t.fits es.size = true) (hp : ∀ p ∈ ps, p < es.size) :
    Dealt w it a [it, a, tp] (ps.filterMap fun p => (es[p]?).map (·.2)) (fun i h => IsSetIt h it a (.ref tp) i es.size ep ∧ h.get? a = some o ∧ h.get? tp = some { cls := .type "tuple", data := .seq (ps.map fun (p : Nat) => rawInt (p : Int)).toArray }) where
  walk := fun P A hh => by
    have hget : ∀ i : Nat, (ps.filterMap fun p => (es[p]?).map (·.2))[i]? = (ps[i]?).bind fun p => (es[p]?).map (·.2) := by
      have : ps.filterMap (fun p => (es[p]?).map (·.2)) = ps.map fun p => (es.getD p default).2 := by
        clear hne2
        induction ps with
        | nil => rfl
        | cons p r ih =>
          have hlt := hp p (List.mem_cons_self ..)
          rw [List.filterMap_cons_some (b := (es.getD p default).2) (by simp [Array.getD, hlt]), ih fun q hq => hp q (List.mem_cons_of_mem _ hq)]
          rfl
      intro i
      rw [this, List.getElem?_map]
      cases hpi : ps[i]? with
      | none => rfl
      | some p =>
        have hlt := hp p (List.mem_of_getElem? hpi)
        simp [Array.getD, hlt]
    have hlen : (ps.filterMap fun p => (es[p]?).map (·.2)).length = ps.length := by
      clear hget hne2
      induction ps with
      | nil => rfl
      | cons p r ih =>
        have hlt := hp p (List.mem_cons_self ..)
        rw [List.filterMap_cons_some (b := (es.getD p default).2) (by simp [Array.getD, hlt]), List.length_cons, List.length_cons, ih fun q hq => hp q (List.mem_cons_of_mem _ hq)]
    exact {
      sub := fun b hb => by simp at hb; simp [hb]
      frame := fun _ _ _ st hk => ⟨hk it (by simp) _ st.1, hk a (by simp) _ st.2.1, hk tp (by simp) _ st.2.2⟩
      item := fun i s Q E hi st hQ => by
        rw [hlen] at hi
        have hpi : ps[i]? = some ps[i] := List.getElem?_eq_getElem hi
        have hlt := hp ps[i] (List.getElem_mem hi)
        have hg : es[ps[i]]? = some es[ps[i]] := Array.getElem?_eq_getElem hlt
        refine setd_item st.1 st.2.1 hd hf st.2.2 (p := ps[i]) (x := es[ps[i]]) (by simp [hi]) hg fun h' hit' hs' => ?_
        exact hQ _ h' s.toks (by rw [hget, hpi]; simp [hlt]) ⟨hit', (hs'.2 a hne).trans st.2.1, (hs'.2 tp hne2).trans st.2.2⟩ fun b o hb e => hs'.extBut b o (fun h => hb (by simp [h])) e
      done := fun s Q E st hQ => by
        rw [hlen] at st
        exact setd_end hh st.1 st.2.1 hd hf st.2.2 (by simp) fun h' he' => hQ h' s.toks fun b o hb e => he' b o (fun h => hb (by simp [h])) e
      self := fun _ _ _ _ st hQ => self_seti st.1 hQ }
end
end L2

namespace L2
open PySem PySem.Spec PyProof.Rows
/-- the values of a set of ints, in some order -/
def Vals1 (vs : List Value) (ns : List Int) : Prop := ∃ ks : List Int, IntsAre vs ks ∧ ks.Nodup ∧ ∀ k, k ∈ ks ↔ k ∈ ns
theorem vals1_of {es : List (Int × Value)} {ns : List Int} (h : EsOk es ns) {fs : List (Int × Value)} (p : fs.Perm es) : Vals1 (fs.map (·.2)) ns := by
  have h' := h.perm p
  refine ⟨fs.map kOf, ?_, h'.nd, h'.mem⟩
  have el := h'.el
  clear h h' p
  induction fs with
  | nil => exact .nil
  | cons e r ih =>
    obtain ⟨⟨t, e1⟩, _⟩ := el e (List.mem_cons_self ..)
    rw [List.map_cons, List.map_cons, e1]
    exact .cons _ t (ih fun x hx => el x (List.mem_cons_of_mem _ hx))
theorem filterMap_perm {α β : Type} (es : Array α) (f : α → β) {ps : List Nat} (p : ps.Perm (List.range es.size)) : (ps.filterMap fun i => (es[i]?).map f).Perm (es.toList.map f) := by
  refine (p.filterMap _).trans ?_
  have : (List.range es.size).filterMap (fun i => (es[i]?).map f) = es.toList.map f := by
    rw [← filterMap_getElem?_range es, List.map_filterMap]
  rw [this]
section
variable {P : Program} {w : World} {A : Around} {E : Value → Shared → Prop} {s : Shared}
/-- what iter(s) gives -/
def IterEnd (w : World) (s : Shared) (a : Addr) (ns : List Int) (v : Value) (s' : Shared) : Prop :=
  ∃ (it : Addr) (fp : List Addr) (order : List Value) (St : Nat → Heap → Prop) (h' : Heap) (d : Drawn), v = .ref it ∧ s' = { s with heap := h', drawn := d } ∧ (∀ b o, s.heap.get? b = some o → h'.get? b = some o) ∧
    Dealt w it a fp order St ∧ Vals1 order ns ∧ St 0 h' ∧ it ∈ fp ∧ (∀ b ∈ fp, b = a ∨ s.heap.objs.size ≤ b) ∧ (∀ b ∈ fp, b < h'.objs.size) ∧ s.heap.objs.size ≤ it
theorem iter_set {ns : List Int} {a : Addr} (hS : ISet s.heap a (!byT w) ns) (hz : ns.length ≤ 4000) {Q : Value → Shared → Prop} (h : ∀ v s', IterEnd w s a ns v s' → Q v s') : wpAny (model P w) A (pyIter (.ref a)) Q E s := by
  obtain ⟨o, es, ep, t, ho, hex, hd, he, hf, ht⟩ := hS
  have hT : s.TypeIs (.ref a) "set" := ⟨o, ho, hex.1⟩
  have hsl : sizeLine = 16777216 := sizeLine_eq
  have hes : es.size ≤ 4000 := by have := he.len; rw [Array.length_toList] at this; omega
  have hal : a < s.heap.objs.size := Heap.lt_size ho
  refine wpAny_pyIter_slot hT PySem.F.slot_set_iter (wpAny_call_entry PySem.F.slot_set_iter hT entry_set_iter' ?_ (PySem.F.args_set_iter_1 _))
  show wpAny _ _ ((setEntries a >>= fun e => pure e.size) >>= _) _ _ s
  refine wpAny_bind (wpAny_bind (wpAny_setEntries_of ho hd hf (wpAny_pure ?_)))
  refine wpAny_bind ?_
  unfold setDrawn
  refine wpAny_bind (wpAny_setState_of ho hd hf ?_)
  dsimp only
  refine wpAny_bind (wpAny_byText (wpAny_pure ?_))
  show wpAny _ _ (if (!byT w && (!t.plain && decide (es.size > 1))) = true then _ else _) _ _ _
  have fin : ∀ (f : Value) (order : List Value) (St : Nat → Heap → Prop) (fp : List Addr) (h1 : Heap) (d1 : Drawn), (∀ b o, s.heap.get? b = some o → h1.get? b = some o) → s.heap.objs.size ≤ h1.objs.size → Dealt w h1.objs.size a fp order St → Vals1 order ns →
      St 0 (h1.push { cls := .type "set_iterator", data := .fields #[f, .int 0 0, .ref a, .int es.size 0, .int ep 0] }) → h1.objs.size ∈ fp → (∀ b ∈ fp, b = a ∨ s.heap.objs.size ≤ b) → (∀ b ∈ fp, b ≤ h1.objs.size) →
      wpAny (model P w) A.in1 (newFields "set_iterator" [f, rawInt 0, .ref a, rawInt es.size, rawInt ep] >>= fun v => ret v) (fun fin s' => ∃ r, fin = .done (.ret r) ∧ ∃ T id, s'.TypeIs r T ∧ typeLookup (.type T) "__next__" = pure (some id) ∧ Q r s') E { s with heap := h1, drawn := d1 } := by
    intro f order St fp h1 d1 k hsz D V st m1 m2 m3
    refine wpAny_bind (wpAny_newObj_type ?_)
    refine wpAny_pure ⟨_, rfl, "set_iterator", _, ⟨_, Heap.get?_push_size _ rfl, rfl⟩, slot_seti_next.lookup, h _ _ ⟨h1.objs.size, fp, order, St, _, d1, rfl, rfl, fun b o e => Heap.get?_push_of_some _ (k b o e), D, V, st, m1, m2, fun b hb => ?_, hsz⟩⟩
    rw [Heap.size_push]
    exact Nat.lt_succ_of_le (m3 b hb)
  by_cases hc : (!byT w && (!t.plain && decide (es.size > 1))) = true
  · rw [if_pos hc]
    refine wpAny_bind (draw_perm es.size (List.range es.size) s _ (by simp) fun ps d p => ?_)
    have hp : ∀ q ∈ ps, q < es.size := fun q hq => List.mem_range.mp (p.mem_iff.mp hq)
    have pl : ps.length = es.size := by rw [p.length_eq, List.length_range]
    first | refine wpAny_bind (wpAny_newTuple ?_ ?hz1) | refine wpAny_newTuple ?_ ?hz1
    case hz1 => rw [List.length_map, pl]; omega
    have ho1 : (s.heap.push { cls := .type "tuple", data := .seq (ps.map fun (p : Nat) => rawInt (p : Int)).toArray }).get? a = some o := Heap.get?_push_of_some _ ho
    have htp : (s.heap.push { cls := .type "tuple", data := .seq (ps.map fun (p : Nat) => rawInt (p : Int)).toArray }).get? s.heap.objs.size = some _ := Heap.get?_push_size _ rfl
    have hs1 : (s.heap.push { cls := .type "tuple", data := .seq (ps.map fun (p : Nat) => rawInt (p : Int)).toArray }).objs.size = s.heap.objs.size + 1 := Heap.size_push ..
    have k1 : ∀ b o, s.heap.get? b = some o → (s.heap.push { cls := .type "tuple", data := .seq (ps.map fun (p : Nat) => rawInt (p : Int)).toArray }).get? b = some o := fun b o e => Heap.get?_push_of_some _ e
    show wpAny _ _ (setEpoch a >>= _) _ _ { s with heap := s.heap.push { cls := .type "tuple", data := .seq (ps.map fun (p : Nat) => rawInt (p : Int)).toArray }, drawn := d }
    generalize s.heap.push { cls := .type "tuple", data := .seq (ps.map fun (p : Nat) => rawInt (p : Int)).toArray } = h1 at ho1 htp hs1 k1
    refine wpAny_bind (wpAny_setEpoch_of (s := { s with heap := h1, drawn := d }) ho1 hd hf ?_)
    refine fin _ _ _ _ h1 d k1 (by omega) (dealt_drawn (tp := s.heap.objs.size) (ps := ps) (by rw [hs1]; exact Nat.ne_of_lt (Nat.lt_succ_of_lt hal)) (by rw [hs1]; exact Nat.ne_of_lt (Nat.lt_succ_self _)) hd hf hp) ?_ ⟨Heap.get?_push_size _ rfl, Heap.get?_push_of_some _ ho1, Heap.get?_push_of_some _ htp⟩ (by simp) (fun b hb => ?_) (fun b hb => ?_)
    · have := filterMap_perm es (fun e => e) p
      have e2 : ps.filterMap (fun i => (es[i]?).map (·.2)) = (ps.filterMap fun i => (es[i]?).map fun e => e).map (·.2) := by
        rw [List.map_filterMap]
        congr 1
        funext i
        cases es[i]? <;> rfl
      rw [e2]
      exact vals1_of he (by simpa using this)
    · simp only [List.mem_cons, List.not_mem_nil, or_false] at hb
      rcases hb with rfl | rfl | rfl
      · right; omega
      · left; rfl
      · right; omega
    · simp only [List.mem_cons, List.not_mem_nil, or_false] at hb
      rcases hb with rfl | rfl | rfl
      · exact Nat.le_refl _
      · rw [hs1]; exact Nat.le_of_lt (Nat.lt_succ_of_lt hal)
      · rw [hs1]; exact Nat.le_succ _
  · rw [if_neg hc]
    first | refine wpAny_bind (wpAny_pure ?_) | refine wpAny_pure ?_
    show wpAny _ _ (setEpoch a >>= _) _ _ s
    refine wpAny_bind (wpAny_setEpoch_of ho hd hf ?_)
    have nea : a ≠ s.heap.objs.size := Nat.ne_of_lt hal
    have mfp : ∀ b ∈ [s.heap.objs.size, a], b = a ∨ s.heap.objs.size ≤ b := fun b hb => by
      simp only [List.mem_cons, List.not_mem_nil, or_false] at hb
      rcases hb with rfl | rfl
      · right; omega
      · left; rfl
    have mle : ∀ b ∈ [s.heap.objs.size, a], b ≤ s.heap.objs.size := fun b hb => by
      simp only [List.mem_cons, List.not_mem_nil, or_false] at hb
      rcases hb with rfl | rfl
      · exact Nat.le_refl _
      · exact Nat.le_of_lt hal
    cases hb : byT w with
    | true => exact fin _ _ _ _ s.heap s.drawn (fun _ _ e => e) (Nat.le_refl _) (dealt_text (o := o) hb nea hd hf) (vals1_of he (pick_perm _ es)) ⟨Heap.get?_push_size _ rfl, Heap.get?_push_of_some _ ho⟩ (by simp) mfp mle
    | false =>
      rw [hb] at hc ht
      have hp : (!t.plain && decide (es.size > 1)) = false := by simpa using hc
      exact fin _ _ _ _ s.heap s.drawn (fun _ _ e => e) (Nat.le_refl _) (dealt_plain (o := o) hb nea hd hf ht hp) (vals1_of he (List.Perm.refl _)) ⟨Heap.get?_push_size _ rfl, Heap.get?_push_of_some _ ho⟩ (by simp) mfp mle
end
end L2

namespace L2
open PySem PySem.Spec PyProof.Rows
section
variable {P : Program} {w : World} {A : Around} {E : Value → Shared → Prop} {s : Shared}
theorem hint_set {r : Addr} (hT : s.TypeIs (.ref r) "set") {Q : Bool → Shared → Prop} (h : Q false s) : wpAny (model P w) A (Builtin.List.listLengthHint (.ref r)) Q E s := by
  unfold Builtin.List.listLengthHint
  refine wpAny_bind (wpAny_specialOf hT set_len_is ?_)
  generalize hid : ("set.__len__" : String) = id0
  wp_delta
  rw [show splitId id0 = some ("set", "__len__") from by subst hid; decide +kernel]
  subst hid
  refine wpAny_bind (wpAny_isInstance (T := "set") (b := true) hT (by rw [isSubtype_type]; kernel_rfl) ?_)
  refine wpAny_ite_split (fun hab => absurd hab (by decide)) (fun _ => ?_)
  refine wpAny_ite_split (fun _ => ?_) (fun hab => absurd (by decide +kernel) hab)
  refine wpAny_bind (wpAny_typeOf hT ?_)
  exact wpAny_pure h
theorem collect_set {ns : List Int} {a : Addr} (hh : A.handled = none) (hS : ISet s.heap a (!byT w) ns) (hz : ns.length ≤ 4000) {Q : List Value → Shared → Prop}
    (h : ∀ (hC : Heap) (tk : Nat) (d : Drawn) (vs : List Value), (∀ b o, s.heap.get? b = some o → hC.get? b = some o) → s.heap.objs.size ≤ hC.objs.size → Vals1 vs ns → Q vs { s with heap := hC, toks := tk, drawn := d }) : wpAny (model P w) A (collect (.ref a)) Q E s := by
  have hsl : sizeLine = 16777216 := sizeLine_eq
  have hal : a < s.heap.objs.size := by obtain ⟨o, _, _, _, e, _⟩ := hS; exact Heap.lt_size e
  unfold collect
  refine wpAny_bind (wpAny_runValue (codeAny_builtin PySem.F.entry_proto_collect ?_))
  rw [Around.under_plainId PySem.F.plain_proto_collect _]
  show wpAny _ A.in1 (newList [] >>= fun l => again (.builtin "list.__iadd__" ⟨[l, .ref a], []⟩)) _ _ s
  refine wpAny_bind (wpAny_newObj_type ?_)
  refine wpAny_pure ⟨plainId_quiet PySem.F.plain_list_iadd _, codeAny_builtin PySem.F.entry_list_iadd ?_⟩
  rw [Around.under_plainId PySem.F.plain_list_iadd _]
  have hS1 : ISet (s.heap.push { cls := .type "list", data := .seq ([] : List Value).toArray }) a (!byT w) ns := hS.at fun o e => Heap.get?_push_of_some _ e
  have hL : (s.heap.push { cls := .type "list", data := .seq ([] : List Value).toArray }).get? s.heap.objs.size = some { cls := .type "list", data := .seq ([] : List Value).toArray } := Heap.get?_push_size _ rfl
  have hsz : (s.heap.push { cls := .type "list", data := .seq ([] : List Value).toArray }).objs.size = s.heap.objs.size + 1 := Heap.size_push ..
  have k1 : ∀ b o, s.heap.get? b = some o → (s.heap.push { cls := .type "list", data := .seq ([] : List Value).toArray }).get? b = some o := fun b o e => Heap.get?_push_of_some _ e
  show wpAny _ A.in1 (Builtin.List.listExtendWith (.ref s.heap.objs.size) (.ref a) (.ref s.heap.objs.size)) _ _ _
  generalize s.heap.push { cls := .type "list", data := .seq ([] : List Value).toArray } = h1 at hS1 hL hsz k1
  have hT1 : Shared.TypeIs { s with heap := h1 } (.ref a) "set" := by obtain ⟨o, _, _, _, e, hx, _⟩ := hS1; exact ⟨o, e, hx.1⟩
  unfold Builtin.List.listExtendWith
  refine wpAny_bind (wpAny_typeOf hT1 ?_)
  have q1 : Builtin.List.listSameRef (.ref s.heap.objs.size) (.ref a) = false := by simp [Builtin.List.listSameRef, Nat.ne_of_gt hal]
  have q2 : (Value.type "set" == Value.type "list") = false := by decide
  have q3 : (Value.type "set" == Value.type "tuple") = false := by decide
  simp only [q1, q2, q3, Bool.or_false, Bool.false_eq_true, if_false]
  refine wpAny_bind (iter_set (s := { s with heap := h1 }) hS1 hz fun v s2 hv => ?_)
  obtain ⟨it, fp, order, St, h2, d, rfl, rfl, k2, D, V, st, m1, m2, m3, mit⟩ := hv
  dsimp only at k2 m2 mit
  have hL2 := k2 _ _ hL
  have hT2 : Shared.TypeIs { s with heap := h2, drawn := d } (.ref a) "set" := by obtain ⟨o, e, c⟩ := hT1; exact ⟨o, k2 _ _ e, c⟩
  refine wpAny_bind (wpAny_holding (hint_set hT2 ?_))
  have W := (D.walk P A.in1 hh).toS
  have hSf : s.heap.objs.size ∉ fp := fun hm => by
    rcases m2 _ hm with e | e
    · exact absurd hal (by rw [e]; exact Nat.lt_irrefl _)
    · rw [hsz] at e; exact absurd e (Nat.not_succ_le_self _)
  have hz2 : s.heap.objs.size < h2.objs.size := Heap.lt_size hL2
  have ol : order.length ≤ 4000 := by
    obtain ⟨ks, i1, i2, i3⟩ := V
    have e1 := IntsAre.length i1
    have e2 := List.Nodup.length_le_of_subset i2 fun k hk => (i3 k).mp hk
    omega
  have key : ∀ {R : Result → Shared → Prop} (h3 : Heap) (c : Nat), (∀ b o, b ≠ s.heap.objs.size → h2.get? b = some o → h3.get? b = some o) → h3.get? s.heap.objs.size = some { cls := .type "list", data := .seq #[] c } →
      (∀ (h4 : Heap) (tk : Nat) (acc : Array Value) (c' : Nat), (∀ b o, s.heap.get? b = some o → h4.get? b = some o) → h4.get? s.heap.objs.size = some { cls := .type "list", dict := none, data := .seq acc c', slots := #[] } → acc.toList = order → R (.ok (.ret (.ref s.heap.objs.size))) { s with heap := h4, toks := tk, drawn := d }) →
      codeAny (model P w) A (.builtin "list.extend.loop" ⟨[.ref s.heap.objs.size, .ref it, .ref s.heap.objs.size], []⟩) R { s with heap := h3, drawn := d } := by
    intro R h3 c k3 hL3 hR
    have st3 : St 0 h3 := (D.walk P A.in1 hh).frame 0 h2 h3 st fun b hb o e => k3 b o (fun z => hSf (by rw [← z]; exact hb)) e
    refine codeAny_extend_loopS W (by omega) s.heap.objs.size hSf (.ref s.heap.objs.size) order.length 0 { s with heap := h3, drawn := d } #[] c rfl (Nat.zero_le _) st3 hL3 (ItemsOf.nil _) fun s' acc c' hm hS' hacc => ?_
    have e := Moved.eq_with hm
    rw [e]
    refine hR s'.heap s'.toks acc c' (fun b o eb => ?_) hS' ?_
    · have hb : b ≠ s.heap.objs.size := Nat.ne_of_lt (Heap.lt_size eb)
      refine hm.heap b o (fun hmem => ?_) (k3 b o hb (k2 b o (k1 b o eb)))
      rcases List.mem_cons.mp hmem with z | z
      · exact hb z
      · have := List.mem_singleton.mp z
        rw [this] at eb
        rw [hsz] at mit
        exact absurd (Heap.lt_size eb) (Nat.not_lt.mpr (Nat.le_of_succ_le mit))
    · refine List.ext_getElem? fun i => ?_
      rcases Nat.lt_or_ge i acc.size with q | q
      · have := hacc.2 i acc[i] (Array.getElem?_eq_getElem q)
        rw [this]; simp [q]
      · rw [List.getElem?_eq_none (by simpa using q), List.getElem?_eq_none (by rw [hacc.1] at q; exact q)]
  have fin : ∀ (h4 : Heap) (tk : Nat) (acc : Array Value) (c' : Nat), (∀ b o, s.heap.get? b = some o → h4.get? b = some o) → h4.get? s.heap.objs.size = some { cls := .type "list", dict := none, data := .seq acc c', slots := #[] } → acc.toList = order → Q acc.toList { s with heap := h4, toks := tk, drawn := d } := fun h4 tk acc c' k4 e4 ea => h h4 tk d acc.toList k4 (Nat.le_of_lt (Heap.lt_size e4)) (by rw [ea]; exact V)
  refine wpAny_ite_split (fun _ => ?_) (fun _ => wpAny_pure ⟨plainId_quiet PySem.F.plain_extend_loop _, key h2 _ (fun _ _ _ e => e) hL2 fun h4 tk acc c' k4 e4 ea => ?_⟩)
  · refine wpAny_bind (wpAny_rule ?_)
    refine wpAny_bind ?_
    show wpAny _ _ (updateSeq s.heap.objs.size (·.push .none) >>= fun _ => updateSeq s.heap.objs.size (·.pop)) _ _ _
    refine wpAny_bind (wpAny_updateSeq hL2 rfl ?_)
    have hS₂ := Heap.get?_update_self (Obj.mapSeq (·.push Value.none)) hL2 rfl
    refine wpAny_updateSeq (hz := by seq_fits) hS₂ rfl ?_
    have hS₃ := Heap.get?_update_self (Obj.mapSeq (·.pop)) hS₂ rfl
    refine wpAny_pure ⟨plainId_quiet PySem.F.plain_extend_loop _, key _ _ (fun b o hb e => (Heap.get?_update_other _ _ (Ne.symm hb)).trans ((Heap.get?_update_other _ _ (Ne.symm hb)).trans e)) hS₃ fun h4 tk acc c' k4 e4 ea => ?_⟩
    show wpAny _ A (load s.heap.objs.size >>= _) _ _ _
    exact wpAny_bind (wpAny_load e4 (wpAny_pure (fin h4 tk acc c' k4 e4 ea)))
  · show wpAny _ A (load s.heap.objs.size >>= _) _ _ _
    exact wpAny_bind (wpAny_load e4 (wpAny_pure (fin h4 tk acc c' k4 e4 ea)))
end
end L2

namespace L2
open PySem PySem.Spec PyProof.Rows
theorem Inv.keptD {X : Cx} {pins : List (Addr × Obj)} {σ : St} {H : Hp} {s : Shared} {h' : Heap} {t' : Nat} {d' : Drawn} (I : Inv X pins σ H s) (k : ∀ b u, s.heap.get? b = some u → h'.get? b = some u) : Inv X pins σ H { s with heap := h', toks := t', drawn := d' } := by
  refine I.step (g' := s.gens) (d' := d') (ch := []) (fun b hb => by cases hb) (fun b o _ _ _ e _ => k b o e) (fun b o _ _ _ e _ => ⟨o.slots, k b o e⟩) (fun _ _ _ _ n => n) (fun b o _ e => ⟨o, k b o e⟩)
    (fun _ _ e => e) (fun _ _ _ e => e) (fun b ps e => ⟨#[], by rw [e]; simp⟩) (fun m hm => ?_) (I.hok.kept k) I.bare
  obtain ⟨o, es, ep, ho, r⟩ := hm
  exact ⟨o, es, ep, k _ o ho, r⟩
section
variable {P : Program} {w : World} {A : Around} {E : Value → Shared → Prop} {s : Shared} {R : Result → Shared → Prop}
theorem set_loop {b : Bool} {I : Addr} {fp wr : List Addr} {G : Array GenState → Array GenState → Prop} {n : Nat} {PP : Nat → Value → Prop} {St : Nat → Shared → Prop} (W : WalksS P w A.in1 I fp wr G n PP St) (S : Addr) (hSf : S ∉ fp)
    (ns : List Int) (hn : ns.length = n) (hval : ∀ i v, PP i v → ∃ k t, ns[i]? = some k ∧ v = .int k t) (hb : n + 1 < scanBound) :
    ∀ (k i : Nat) (s : Shared), n - i = k → i ≤ n → St i s → ISet s.heap S b (ns.take i) →
      (∀ s', Moved (S :: wr) G s s' → ISet s'.heap S b ns → R (.ok (.ret .none)) s') →
      codeAny (model P w) A (.builtin "set.update.loop" ⟨[.ref S, .ref I], []⟩) R s := by
  have hSw : S ∉ wr := fun h => hSf (W.sub _ h)
  have hsub : ∀ b ∈ wr, b ∈ S :: wr := fun b hb => List.mem_cons_of_mem _ hb
  intro k
  induction k with
  | zero =>
    intro i s hk hi hst hS hR
    have hin : i = n := by omega
    subst hin
    refine codeAny_builtin F.entry_set_update_loop ?_
    rw [Around.under_plainId F.plain_set_update_loop _]
    show wpAny _ A.in1 (pyNext (.ref I) >>= _) _ _ s
    refine wpAny_bind (W.done s _ _ hst fun s' hm => ?_)
    show wpAny _ A.in1 (ret Value.none) _ _ s'
    rw [List.take_of_length_le (by omega)] at hS
    exact wpAny_pure (hR s' (hm.mono hsub) (hS.at fun o e => hm.heap S _ hSw e))
  | succ k ih =>
    intro i s hk hi hst hS hR
    have hlt : i < n := by omega
    refine codeAny_builtin F.entry_set_update_loop ?_
    rw [Around.under_plainId F.plain_set_update_loop _]
    show wpAny _ A.in1 (pyNext (.ref I) >>= _) _ _ s
    refine wpAny_bind (W.item i s _ _ hlt hst fun v s' hP hst' hm => ?_)
    obtain ⟨x, t, hx, rfl⟩ := hval i v hP
    have hS' : ISet s'.heap S b (ns.take i) := hS.at fun o e => hm.heap S _ hSw e
    show wpAny _ A.in1 (holding [Value.int x t] (setAdd S (.int x t)) >>= _) _ _ s'
    refine wpAny_bind (wpAny_holding ?_)
    unfold setAdd
    refine wpAny_holding ?_
    refine wpAny_bind ((intKind P w).pyHash (k := x) (intKind_is _ _ _ _) ?_)
    refine addI (s := { s' with toks := s'.toks + 1 }) hS' (by rw [List.length_take]; omega) fun r h' hsb hS2 => ?_
    have hS3 : ISet h' S b (ns.take (i + 1)) := by
      rw [List.take_add_one, hx]
      exact hS2
    refine wpAny_pure ⟨plainId_quiet F.plain_set_update_loop _, ih (i + 1) _ (by omega) hlt (W.frame _ s' _ _ hst' (Nat.le_succ _) fun b hb o e => ?_) hS3 fun s'' hm'' hS'' => ?_⟩
    · rw [hsb.2 b (fun h : b = S => hSf (by rw [← h]; exact hb))]; exact e
    · refine hR s'' (Moved.trans W.gtrans ((hm.mono hsub).then_heap (Nat.le_succ _) fun b o hb e => ?_) hm'') hS''
      rw [hsb.2 b (fun h : b = S => hb (by rw [h]; exact List.mem_cons_self))]; exact e
theorem tup_not_set : isSubtype (.type "tuple") (.type "set") = pure false := by rw [isSubtype_type]; kernel_rfl
theorem tup_not_fset : isSubtype (.type "tuple") (.type "frozenset") = pure false := by rw [isSubtype_type]; kernel_rfl
theorem newSet_led (a : Value) {Q₁ : Value → Shared → Prop}
    (h : Q₁ (.ref s.heap.objs.size) { s with heap := s.heap.push { cls := .type "set", dict := none, data := .set #[] 0 (.fresh 0 0 (!byT w)) } }) :
    codeAny (model P w) A (.call (.builtin "set.__new__") ⟨[.type "set", a], []⟩) (wants Q₁ E) s := by
  refine codeAny_of_tree ?_
  show wpAny _ A.in1 (do checkBuiltinCall "set.__new__" ⟨[.type "set", a], []⟩; again (.builtin "set.__new__" ⟨[.type "set", a], []⟩)) _ _ s
  refine wpAny_bind (wpAny_of_eq (PySem.F.newCall_set_1 a) (wpAny_pure ⟨plainId_quiet PySem.F.plain_set_new _, codeAny_builtin PySem.F.entry_set_new ?_⟩))
  rw [Around.under_plainId PySem.F.plain_set_new _]
  unfold Builtin.«set.__new__» Builtin.Frozenset.newClass
  have hsub := sub_set_self
  obtain ⟨hp, g, d, tk, os⟩ := s
  dsimp only
  wp_walk
  refine wpAny_askSetting (wpAny_pure ?_)
  dsimp only
  simp only [newObj]
  refine wpAny_bind (wpAny_alloc (wpAny_pure ?_))
  exact wpAny_pure h
set_option maxRecDepth 100000 in
set_option maxHeartbeats 3200000 in
theorem call_setT {l : Addr} {items : Array Value} {ns : List Int} {Q : Value → Shared → Prop} (hh : A.handled = none) (hl : s.heap.IsTuple l items) (hi : IntsAre items.toList ns) (hb : items.size + 1 < scanBound)
    (h : ∀ (h' : Heap) (tk : Nat), ISet h' s.heap.objs.size (!byT w) ns → (∀ b o, b < s.heap.objs.size → s.heap.get? b = some o → h'.get? b = some o) → Q (.ref s.heap.objs.size) { s with heap := h', toks := tk }) :
    wpAny (model P w) A (call (.type "set") [.ref l]) Q E s := by
  obtain ⟨c, tl, hmro⟩ := PySem.F.called_set.mro
  have hmade := PySem.F.called_set.made
  have hsub := PySem.F.called_set.sub
  refine wpAny_call (codeAny_of_tree ?_)
  show wpAny _ _ (callAny (.type "set") _) _ _ _
  refine wpAny_pure ⟨Code.quiet_builtin _ (by decide +kernel), codeAny_builtin PySem.F.entry_type_call ?_⟩
  rw [Around.under_plain (weight_type_call_type "set" [.ref l] []) rfl]
  have h1 := PySem.F.called_set.notType
  have h2 := PySem.F.called_set.canCreate
  have hct := PySem.F.typeCall_set_1 (.ref l)
  repeat (any_goals (first | assumption | wp_step))
  refine codeAny_mono (newSet_led (.ref l) (E := E) (Q₁ := fun obj s₁ => obj = .ref s.heap.objs.size ∧ s₁ = { s with heap := s.heap.push { cls := .type "set", dict := none, data := .set #[] 0 (.fresh 0 0 (!byT w)) } }) ⟨rfl, rfl⟩) fun r s₁ hr => ?_
  cases r with
  | error e => exact hr
  | ok fl =>
    cases fl with
    | ret obj =>
      obtain ⟨rfl, rfl⟩ := hr
      have hS : (s.heap.push { cls := .type "set", dict := none, data := .set #[] 0 (.fresh 0 0 (!byT w)) }).get? s.heap.objs.size = some { cls := .type "set", dict := none, data := .set #[] 0 (.fresh 0 0 (!byT w)) } := Heap.get?_push_size _ rfl
      have hT : Shared.TypeIs { s with heap := s.heap.push { cls := .type "set", dict := none, data := .set #[] 0 (.fresh 0 0 (!byT w)) } } (.ref s.heap.objs.size) "set" := ⟨_, hS, rfl⟩
      have hli := PySem.F.called_set.init.lookup
      have hbi := PySem.F.called_set.init.bind (.ref s.heap.objs.size)
      repeat (any_goals (first | assumption | wp_step))
      refine codeAny_mono (codeAny_call_builtin (R := wants (fun r s₂ => r = .none ∧ ∃ h' tk, s₂ = { s with heap := h', toks := tk } ∧ ISet h' s.heap.objs.size (!byT w) ns ∧
          (∀ b o, b < s.heap.objs.size → s.heap.get? b = some o → h'.get? b = some o)) E) PySem.F.called_set.init.plain PySem.F.entry_set_init (check_set_init_1 hT ?_)) fun r₂ s₂ hr₂ => ?_
      · obtain ⟨ol, hol, hcl, nl, hdl⟩ := hl
        obtain ⟨ocls, odict, odata, oslots⟩ := ol
        simp only at hcl hdl
        subst hcl; subst hdl
        have hol' : (s.heap.push { cls := .type "set", dict := none, data := .set #[] 0 (.fresh 0 0 (!byT w)) }).get? l = some { cls := .type "tuple", dict := odict, data := .seq items nl, slots := oslots } := Heap.get?_push_of_some _ hol
        have hsls := tup_not_set
        have hslf := tup_not_fset
        have hne : (Value.type "tuple" == Value.type "dict") = false := by decide
        have hl1 : (s.heap.push { cls := .type "set", dict := none, data := .set #[] 0 (.fresh 0 0 (!byT w)) }).IsTuple l items := ⟨_, hol', rfl, nl, rfl⟩
        unfold Builtin.«set.__init__» noKeywords Builtin.Frozenset.updateFrom
        generalize hPI : pyIter = PI
        wp_walk
        subst hPI
        refine wpAny_pyIter_tuple hl1 ?_
        refine wpAny_bind (wpAny_runValue ?_)
        have hlS : l < s.heap.objs.size := Heap.lt_size hol
        have hh3 : A.in1.in1.in1.handled = none := by simp [hh]
        have hneI : l ≠ (s.heap.push { cls := .type "set", dict := none, data := .set #[] 0 (.fresh 0 0 (!byT w)) }).objs.size := by
          rw [Heap.size_push]; exact Nat.ne_of_lt (Nat.lt_succ_of_lt hlS)
        have hSf : s.heap.objs.size ∉ [(s.heap.push { cls := .type "set", dict := none, data := .set #[] 0 (.fresh 0 0 (!byT w)) }).objs.size, l] := by
          rw [Heap.size_push]; simp only [List.mem_cons, List.mem_singleton, List.not_mem_nil, or_false, not_or]
          exact ⟨Nat.ne_of_lt (Nat.lt_succ_self _), Nat.ne_of_gt hlS⟩
        have hlen : ns.length = items.size := by rw [← IntsAre.length hi, Array.length_toList]
        refine set_loop (b := !byT w) ((Walks.tuple hh3 _ l hneI items).toS) s.heap.objs.size hSf ns hlen (fun i v hv => ?_) hb (items.size - 0) 0 _ (by omega) (Nat.zero_le _)
          ⟨⟨_, Heap.get?_push_size _ rfl, rfl, rfl⟩, (hl1.push _)⟩ ?hS0 ?hR
        · have hi' : i < ns.length := by rw [hlen]; exact (Array.getElem?_eq_some_iff.mp hv).1
          obtain ⟨t, e⟩ := IntsAre.int_at hi i v (by rw [Array.getElem?_toList]; exact hv)
          refine ⟨ns[i], t, List.getElem?_eq_getElem hi', ?_⟩
          rw [e]; simp [hi']
        case hS0 =>
          have hget : ((s.heap.push { cls := .type "set", dict := none, data := .set #[] 0 (.fresh 0 0 (!byT w)) }).push { cls := .type "tuple_iterator", data := .fields #[.ref l, .int 0 0] }).get? s.heap.objs.size
              = some { cls := .type "set", dict := none, data := .set #[] 0 (.fresh 0 0 (!byT w)) } := Heap.get?_push_of_some _ hS
          exact ⟨_, #[], 0, _, hget, ⟨rfl, rfl, rfl⟩, rfl, ⟨fun e he => by simp at he, by simp, fun k => by simp⟩, by rfl, TabOk.fresh _⟩
        case hR =>
          intro s' hm hS'
          obtain ⟨h', g', d', tk', os'⟩ := s'
          have eg : g' = s.gens := hm.gens
          have ed : d' = s.drawn := hm.drawn
          have eo : os' = s.os := hm.os
          subst eg; subst ed; subst eo
          show wpAny _ _ _ _ _ _
          refine wpAny_pure ?_
          show wpAny _ _ (ret Value.none) _ _ _
          refine wpAny_pure ⟨rfl, h', tk', rfl, hS', fun b o hb e => ?_⟩
          have hb1 : b ≠ s.heap.objs.size := Nat.ne_of_lt hb
          have hb2 : b ≠ (s.heap.push { cls := .type "set", dict := none, data := .set #[] 0 (.fresh 0 0 (!byT w)) }).objs.size := by
            rw [Heap.size_push]; exact Nat.ne_of_lt (Nat.lt_succ_of_lt hb)
          exact hm.heap b o (by simp only [List.mem_cons, List.mem_singleton, List.not_mem_nil, or_false, not_or]; exact ⟨hb1, hb2⟩) (Heap.get?_push_of_some _ (Heap.get?_push_of_some _ e))
      · cases r₂ with
        | error e => exact hr₂
        | ok fl₂ =>
          cases fl₂ with
          | ret r =>
            obtain ⟨rfl, h', tk, rfl, hS', hk'⟩ := hr₂
            repeat (any_goals (first | assumption | wp_step))
            exact h _ _ hS' hk'
          | _ => exact hr₂.elim
    | _ => exact hr.elim
end
end L2

namespace L2
open PySem PySem.Spec PyProof.Rows
/-- a set of ints, tracked -/
def SetO (w : World) (p : Addr) (ns : List Int) : HO := .ext fun h => ISet h p (!byT w) ns
/-- set(t), t a tuple of ints -/
def rSetT (K : PySem.W.Frag) (w : World) : List V → Hp → VK → Prop := fun xs H Q => ∃ (l : Addr) (ns : List Int), xs = [.ref l] ∧ SqT K H l (ns.map V.int) ∧ ns.length ≤ 4000 ∧ ∀ p, H p = none → Q (.ref p) (upd H p (SetO w p ns))
theorem call_setTu {X : Cx} {K : PySem.W.Frag} {w : World} (hK : X.K = K) (hw : X.w = w) (hc : X.calm = true) : CallR X (.type "set") (rSetT K w) := by
  subst hK hw
  intro pins s σ H xs us Q I rv h
  obtain ⟨l, ns, rfl, hl, hz, q⟩ := h
  obtain ⟨u, rfl, ru⟩ := vals1 rv
  obtain rfl : u = Value.ref l := ru
  obtain ⟨its, r, p, _⟩ := I.tuple hl
  have hlen : its.length = ns.length := by rw [← Vals.length r, List.length_map]
  refine call_setT (items := its.toArray) (ns := ns) (I.ok.hd hc) p (intsAre_of (by simpa using r)) (by unfold scanBound; simp; omega) fun h' tk hS hk => ?_
  have hk' : ∀ b o, s.heap.get? b = some o → h'.get? b = some o := fun b o e => hk b o (Heap.lt_size e) e
  refine ⟨.ref s.heap.objs.size, _, I.laid (a := s.heap.objs.size) (o := SetO X.w s.heap.objs.size ns) (t' := tk) hk' (Nat.le_refl _) ⟨hS, ?_, fun h1 h2 x k => ISet.at x k⟩, rfl, q _ (I.hok.fresh (Nat.le_refl _))⟩
  obtain ⟨o, _, _, _, e, _⟩ := hS
  exact ⟨o, e⟩
/-- sorted(s), s a set of ints -/
def rSortS (w : World) : List V → Hp → VK → Prop := fun xs H Q => ∃ (p : Addr) (ns : List Int), xs = [.ref p] ∧ H p = some (SetO w p ns) ∧ ns.length ≤ 4000 ∧ ∀ (q : Addr) (ms : List Int), H q = none → ms.Pairwise (· < ·) → (∀ k, k ∈ ms ↔ k ∈ ns) → Q (.ref q) (upd H q (.lst (ms.map V.int)))
def intOf (v : Value) : Int := match v with | .int k _ => k | _ => 0
theorem ints_map {vs : List Value} {ks : List Int} (h : IntsAre vs ks) : vs.map intOf = ks := by
  induction h with
  | nil => rfl
  | cons n t _ ih => rw [List.map_cons, ih]; rfl
theorem ints_self : ∀ {vs : List Value}, (∀ v ∈ vs, ∃ i t, v = Value.int i t) → Vals ((vs.map intOf).map V.int) vs
  | [], _ => .nil
  | v :: r, h => by
    obtain ⟨i, t, rfl⟩ := h v (List.mem_cons_self ..)
    exact .cons ⟨t, rfl⟩ (ints_self fun x hx => h x (List.mem_cons_of_mem _ hx))
def ltI (u v : Value) : Bool := match u, v with | .int i _, .int j _ => decide (i < j) | _, _ => false
theorem call_sortS {X : Cx} {w : World} (hw : X.w = w) (hc : X.calm = true) : CallR X (.builtin "sorted") (rSortS w) := by
  subst hw
  intro pins s σ H xs us Q I rv h
  obtain ⟨p, ns, rfl, hp, hz, q⟩ := h
  obtain ⟨u, rfl, ru⟩ := vals1 rv
  obtain rfl : u = Value.ref p := ru
  have hsl : sizeLine = 16777216 := sizeLine_eq
  obtain ⟨hS, _, _⟩ := (show ObjOk X.prog X.w H s.heap p (SetO X.w p ns) from I.hok p _ hp)
  refine PySem.Calls.call_function_entry kind_sorted plain_sorted entry_sorted (args_sorted1 _) ?_
  unfold Builtin.«sorted»
  refine wpAny_bind (m := checkCount "sorted" 1 1 _) (wpAny_pure ?_)
  refine wpAny_bind (collect_set (A := X.A.in1) (show X.A.in1.handled = none from I.ok.hd hc) hS hz fun hC tk d vs hk hsz V => ?_)
  obtain ⟨ks, i1, i2, i3⟩ := V
  have lv : vs.length = ks.length := IntsAre.length i1
  have lk : ks.length ≤ ns.length := List.Nodup.length_le_of_subset i2 fun k hk => (i3 k).mp hk
  have I1 : Inv X pins σ H { s with heap := hC, toks := tk, drawn := d } := I.keptD hk
  have mem : ∀ v ∈ vs, ∃ i t, v = Value.int i t := fun v hv => by
    obtain ⟨j, hj⟩ := List.mem_iff_getElem?.mp hv
    obtain ⟨t, e⟩ := IntsAre.int_at i1 j v hj
    exact ⟨_, t, e⟩
  refine wpAny_bind (wpAny_newList ?_ (by omega))
  have hoL : (hC.push (seqObj "list" vs.toArray 0)).get? hC.objs.size = some (seqObj "list" vs.toArray 0) := Heap.get?_push_size _ rfl
  have ord : Ord (· ∈ vs) ltI := by
    refine ⟨fun x y hx hy h => ?_, fun x y z hx hy hz h1 h2 => ?_⟩
    · obtain ⟨i, t, rfl⟩ := mem x hx
      obtain ⟨j, t', rfl⟩ := mem y hy
      have h : decide (i < j) = true := h
      show decide (j < i) = false
      simp only [decide_eq_true_eq, decide_eq_false_iff_not] at h ⊢
      omega
    · obtain ⟨i, t, rfl⟩ := mem x hx
      obtain ⟨j, t', rfl⟩ := mem y hy
      obtain ⟨k, t'', rfl⟩ := mem z hz
      have h1 : decide (j < i) = false := h1
      have h2 : decide (k < j) = false := h2
      show decide (k < i) = false
      simp only [decide_eq_false_iff_not] at h1 h2 ⊢
      omega
  refine wpAny_bind (wpAny_holding (wpAny_call_entry slot_list_sort ⟨_, hoL, rfl⟩ entry_list_sort (sort_gen (s := { s with heap := hC.push (seqObj "list" vs.toArray 0), toks := tk, drawn := d }) (LT := ltI) hoL (by omega) ord (fun hh2 h3 hk3 => ?_) fun out p1 p2 => ⟨_, rfl, ?_⟩) (args_list_sort _)))
  · obtain ⟨κ, k1, k2⟩ := (scI X).asks (s := { s with heap := h3, toks := tk, drawn := d }) (vs := vs) (fun v hv => by obtain ⟨i, t, rfl⟩ := mem v hv; exact ⟨[i], i, t, rfl, rfl⟩) hh2
    refine ⟨κ, fun Q q => wpAny_mono (k1 Q q) (fun _ _ x => x) fun _ _ x => x.elim, fun u v C hu hv hC => ?_⟩
    obtain ⟨i, t, rfl⟩ := mem u hu
    obtain ⟨j, t', rfl⟩ := mem v hv
    exact k2 _ _ [i] [j] C ⟨i, t, rfl, rfl⟩ ⟨j, t', rfl, rfl⟩ (by rw [lex1]; exact hC)
  · have hold : ∀ b o, hC.get? b = some o → (sortedHeap (hC.push (seqObj "list" vs.toArray 0)) hC.objs.size vs out.toArray).get? b = some o := fun b o e => by
      have hlt : b < hC.objs.size := Heap.lt_size e
      rw [sortedHeap_old (Nat.ne_of_lt hlt) (by rw [Heap.size_push]; exact Nat.lt_succ_of_lt hlt)]
      exact Heap.get?_push_of_some _ e
    obtain ⟨c, hat⟩ : ∃ c, (sortedHeap (hC.push (seqObj "list" vs.toArray 0)) hC.objs.size vs out.toArray).get? hC.objs.size = some (seqObj "list" out.toArray c) := by
      first | exact ⟨_, sortedHeap_at hoL⟩ | exact sortedHeap_at hoL
    have mo : ∀ v ∈ out, ∃ i t, v = Value.int i t := fun v hv => mem v (p1.mem_iff.mp hv)
    have pm : (out.map intOf).Perm ks := by
      have := p1.map intOf
      rw [ints_map i1] at this
      exact this
    have I2 : Inv X pins σ (upd H hC.objs.size (.lst ((out.map intOf).map V.int))) { s with heap := sortedHeap (hC.push (seqObj "list" vs.toArray 0)) hC.objs.size vs out.toArray, toks := tk, drawn := d } :=
      Inv.laid (s := { s with heap := hC, toks := tk, drawn := d }) I1 (a := hC.objs.size) (o := .lst ((out.map intOf).map V.int)) (t' := tk) hold (Nat.le_refl _)
        ⟨by rw [List.length_map, List.length_map, p1.length_eq]; omega, out, c, ints_self mo, hat⟩
    refine wpAny_pure ⟨_, rfl, .ref hC.objs.size, _, I2, rfl, q hC.objs.size (out.map intOf) (I.hok.fresh hsz) ?_ fun k => (pm.mem_iff).trans (i3 k)⟩
    have nd : (out.map intOf).Nodup := pm.nodup_iff.mpr i2
    have le : (out.map intOf).Pairwise (· ≤ ·) := by
      rw [List.pairwise_map]
      refine List.Pairwise.imp_of_mem ?_ p2
      intro x y hx hy h
      obtain ⟨i, t, rfl⟩ := mo x hx
      obtain ⟨j, t', rfl⟩ := mo y hy
      have h : decide (j < i) = false := h
      show i ≤ j
      simp only [decide_eq_false_iff_not] at h
      omega
    have := le.and nd
    exact this.imp fun ⟨a, b⟩ => by omega
end L2

namespace L2
open PySem PySem.Spec PyProof.Rows
/-! ### a def of the top, as a caller wants it -/
structure DefAt (K : PySem.W.Frag) (mg : Str → Option Value) (x : Str) (st : Stmt) (ps : List Str) (f : Addr) (fd : FuncData) : Prop where
  fn : Fun K x x st f fd
  mg : mg x = some (.ref f)
  bd : Binds K fd ps []
/-- a walk's kinds, one or the other -/
theorem PI.or {X : Cx} {tg it : Expr} {wi wi' : TI} (h : PI X tg it wi) (h' : PI X tg it wi') : PI X tg it (fun σ H R => wi σ H R ∨ wi' σ H R) := fun pins s σ H R I q => by
  rcases q with q | q
  · exact h pins s σ H R I q
  · exact h' pins s σ H R I q
end L2
namespace My
open PySem L2
def top (i : Nat) : Stmt := PySem.Challenge.pw_toldsums_k27_points_that_hit.main.body.getD i (.Pass ⟨0, 0, 0, 0⟩)
/-- what is no name of the module -/
structure Txt (mg : Str → Option Value) : Prop where
  b_len : mg "len" = none
  b_sum : mg "sum" = none
  b_range : mg "range" = none
  b_tuple : mg "tuple" = none
  b_list : mg "list" = none
  b_int : mg "int" = none
  b_str : mg "str" = none
  b_bool : mg "bool" = none
  b_isinstance : mg "isinstance" = none
  b_min : mg "min" = none
  b_max : mg "max" = none
  b_zip : mg "zip" = none
  b_reversed : mg "reversed" = none
  b_sorted : mg "sorted" = none
  b_abs : mg "abs" = none
  b_all : mg "all" = none
  b_any : mg "any" = none
  b_set : mg "set" = none
  b_ValueError : mg "ValueError" = none
theorem mod_lt (x m : Int) (h : 0 < m) : 0 ≤ x % m ∧ x % m < m := ⟨Int.emod_nonneg _ (by omega), Int.emod_lt_of_pos _ h⟩
theorem mulL {x : Int} (y m : Int) (h : 0 < m) (hm : m < 2 ^ 64) : CMul (x % m) y := by
  have := mod_lt x m h
  left
  omega
theorem iteB {A B : Prop} (h : B) : if (!true) = true then A else B := h
end My
namespace L2
open PySem PySem.Spec PyProof.Rows
/-! ### the forms of a comprehension's walk that one uses -/
theorem walk_range {lo : Int} {n : Nat} {g : TG} {t : TT} {b : TB} {N : St → Hp → Prop} {σ : St} {H : Hp} (Pv : Nat → St → Hp → Prop) (h0 : Pv 0 σ H)
    (hs : ∀ i σ H, i < n → Pv i σ H → g (.int (lo + i)) σ H fun σ2 H2 => t σ2 H2 fun k H3 => if k = true then b σ2 H3 (Pv (i + 1)) else Pv (i + 1) σ2 H3) (hd : ∀ σ H, Pv n σ H → N σ H) : bWalk (Itr lo n) g t b N σ H :=
  for_range (tb := fun D σ2 H2 => t σ2 H2 fun k H3 => if k = true then b σ2 H3 D.nx else D.nx σ2 H3) (D := { nx := N, rt := fun _ _ => True }) Pv h0 hs hd
theorem walk_list {K : PySem.W.Frag} {a : Addr} {xs : List V} {g : TG} {t : TT} {b : TB} {N : St → Hp → Prop} {σ : St} {H : Hp} (Pv : Nat → St → Hp → Prop) (h0 : Pv 0 σ H) (hl : ∀ i σ H, i ≤ xs.length → Pv i σ H → SqL K H a xs)
    (hs : ∀ i x σ H, xs[i]? = some x → Pv i σ H → g x σ H fun σ2 H2 => t σ2 H2 fun k H3 => if k = true then b σ2 H3 (Pv (i + 1)) else Pv (i + 1) σ2 H3) (hd : ∀ σ H, Pv xs.length σ H → N σ H) : bWalk (Itl K a) g t b N σ H :=
  for_list (tb := fun D σ2 H2 => t σ2 H2 fun k H3 => if k = true then b σ2 H3 D.nx else D.nx σ2 H3) (D := { nx := N, rt := fun _ _ => True }) Pv h0 hl hs hd
theorem walk_tup {K : PySem.W.Frag} {a : Addr} {xs : List V} {g : TG} {t : TT} {b : TB} {N : St → Hp → Prop} {σ : St} {H : Hp} (Pv : Nat → St → Hp → Prop) (h0 : Pv 0 σ H) (hl : ∀ i σ H, i ≤ xs.length → Pv i σ H → SqT K H a xs)
    (hs : ∀ i x σ H, xs[i]? = some x → Pv i σ H → g x σ H fun σ2 H2 => t σ2 H2 fun k H3 => if k = true then b σ2 H3 (Pv (i + 1)) else Pv (i + 1) σ2 H3) (hd : ∀ σ H, Pv xs.length σ H → N σ H) : bWalk (Itt K a) g t b N σ H :=
  for_tup (tb := fun D σ2 H2 => t σ2 H2 fun k H3 => if k = true then b σ2 H3 D.nx else D.nx σ2 H3) (D := { nx := N, rt := fun _ _ => True }) Pv h0 hl hs hd
theorem walk_zip {K : PySem.W.Frag} {b1 b2 : Bool} {a1 a2 : Addr} {xs ys : List V} {g : TG} {t : TT} {b : TB} {N : St → Hp → Prop} {σ : St} {H : Hp} (Pv : Nat → St → Hp → Prop) (h0 : Pv 0 σ H)
    (hl : ∀ i σ H, i ≤ min xs.length ys.length → Pv i σ H → SqB K b1 H a1 xs ∧ SqB K b2 H a2 ys)
    (hs : ∀ i x y p σ H, xs[i]? = some x → ys[i]? = some y → H p = none → Pv i σ H → g (.ref p) σ (upd H p (.tup [x, y])) fun σ2 H2 => t σ2 H2 fun k H3 => if k = true then b σ2 H3 (Pv (i + 1)) else Pv (i + 1) σ2 H3) (hd : ∀ σ H, Pv (min xs.length ys.length) σ H → N σ H) :
    bWalk (Itz K b1 b2 a1 a2) g t b N σ H := by
  refine ⟨fun i m σ H => m = min xs.length ys.length - i ∧ i ≤ min xs.length ys.length ∧ Pv i σ H, ⟨_, rfl, Nat.zero_le _, h0⟩, ?_⟩
  rintro i m σ H ⟨rfl, hi, p⟩
  obtain ⟨q1, q2⟩ := hl i σ H hi p
  by_cases hlt : i < min xs.length ys.length
  · have h1 : i < xs.length := by omega
    have h2 : i < ys.length := by omega
    refine .inr ⟨⟨xs, ys, _, _, q1, q2, List.getElem?_eq_getElem h1, List.getElem?_eq_getElem h2⟩, Pv (i + 1), fun σ' H' p' => ⟨_, by omega, rfl, hlt, p'⟩, fun v H' y => ?_⟩
    obtain ⟨a, x, z, rfl, hn, rfl, y1, y2⟩ := y
    exact hs i x z a σ H (y1 xs q1) (y2 ys q2) hn p
  · have e : i = min xs.length ys.length := by omega
    subst e
    exact .inl ⟨⟨xs, ys, q1, q2, by omega⟩, hd σ H p⟩
theorem atI_ints (ns : List Int) {r : Int} (h0 : 0 ≤ r) (h1 : r < ns.length) : ∃ n, atI (ns.map V.int) r = some (.int n) ∧ n ∈ ns ∧ ns[r.toNat]? = some n := by
  obtain ⟨j, rfl⟩ := Int.eq_ofNat_of_zero_le h0
  have hj : j < ns.length := by omega
  refine ⟨ns[j], atI_nat ?_, List.getElem_mem hj, ?_⟩
  · rw [List.getElem?_map, List.getElem?_eq_getElem hj]; rfl
  · rw [Int.toNat_natCast]; exact List.getElem?_eq_getElem hj
theorem size_le {n : Nat} (h : n ≤ 1000000) : n ≤ sizeLine := Nat.le_trans h (by decide)
theorem size_lt {n : Nat} (h : n ≤ 1000000) : n < sizeLine := Nat.lt_of_le_of_lt h (by decide)
end L2

namespace My
open PySem L2
def Scr (K : PySem.W.Frag) (H : Hp) (a : Addr) (scr : List Int) : Prop := SqL K H a (scr.map V.int) ∧ scr.length ≤ 63
theorem Scr.same {K : PySem.W.Frag} {H H' : Hp} {a : Addr} {scr : List Int} (h : Scr K H a scr) (s : Same H H') : Scr K H' a scr := ⟨s.seq h.1, h.2⟩
def spDraw (K : PySem.W.Frag) : Sp := fun vs H Q _ => ∃ (a : Addr) (scr : List Int) (n : Int), vs = [.ref a, .int n] ∧ Scr K H a scr ∧ 0 ≤ n ∧ n < 1000000 ∧ ∀ (r : Int) (H' : Hp), 0 ≤ r → r < 2147483579 → Same H H' → Q (.int r) H'
def spNumD (K : PySem.W.Frag) : Sp := fun vs H Q _ => ∃ (a : Addr) (scr : List Int) (at' most : Int), vs = [.ref a, .int at', .int most] ∧ Scr K H a scr ∧ 0 ≤ at' ∧ at' < 900000 ∧ 0 < most ∧ most ≤ 14 ∧ ∀ (r : Int) (H' : Hp), Same H H' → Q (.int r) H'
theorem joinE_cps : ∀ ws : List Str, (Str.join ("" : Str) ws).cps.toList = (ws.map (·.cps.toList)).flatten
  | [] => rfl
  | [w] => by simp [Str.join]
  | w :: y :: r => by
    have e : Str.join ("" : Str) (w :: y :: r) = w ++ ("" : Str) ++ Str.join ("" : Str) (y :: r) := rfl
    have e2 : ("" : Str).cps.toList = [] := by decide
    rw [e, PySem.W.KT.app_list, PySem.W.KT.app_list, e2, joinE_cps (y :: r)]
    simp
theorem dig_text {ws : List Str} (h : ∀ w ∈ ws, ∃ d : Nat, d < 10 ∧ w = numS (d : Int)) : PySem.NumText.AllDigits (Str.join ("" : Str) ws).cps.toList ∧ (Str.join ("" : Str) ws).cps.toList.length = ws.length := by
  rw [joinE_cps]
  induction ws with
  | nil => exact ⟨fun c hc => by simp at hc, rfl⟩
  | cons w r ih =>
    obtain ⟨i1, i2⟩ := ih fun x hx => h x (List.mem_cons_of_mem _ hx)
    obtain ⟨d, hd, rfl⟩ := h w (List.mem_cons_self ..)
    have e : (numS (d : Int)).cps.toList = [48 + d] := by
      rw [numS_cps]
      unfold numL
      rw [if_neg (by omega), Int.natAbs_natCast, dig_low hd]
    rw [List.map_cons, List.flatten_cons, e]
    refine ⟨fun c hc => ?_, by rw [List.length_append, i2]; simp; omega⟩
    rcases List.mem_append.mp hc with hc | hc
    · have := List.mem_singleton.mp hc
      omega
    · exact i1 c hc
section
variable {P : Program} {w : World} {K : PySem.W.Frag} {mg : Str → Option Value} {base : Heap}
abbrev s_law_draw : Stmt := top 12
theorem sc_law_draw : FnScope ["script", "k", "many", "cell", "turn", "mixed"] ["script", "k"] (defScope s_law_draw) := ⟨rfl, rfl, rfl, by decide +kernel, rfl, by decide +kernel, by decide +kernel⟩
theorem ok_draw {f : Addr} {fd : FuncData} (F : Fun K "_law_draw" "_law_draw" s_law_draw f fd) (T : Txt mg) : FnOk P w K mg base CX0 1 f fd ["script", "k"] (spDraw K) := by
  refine F.ok sc_law_draw (fun vs H Q E h => ?_) (fun cdv A outer s H vs Q E hr h => ?_)
  · obtain ⟨a, scr, n, rfl, _⟩ := h
    rfl
  · obtain ⟨a, scr, n, rfl, ⟨hS, hl⟩, n0, n1, k⟩ := h
    refine ⟨_, (pss_cons (ps_set (i := 2) sc_law_draw.nd rfl (Or.inl rfl) (pe_callB (call_max2 rfl) (by rfl) T.b_max PyProof.Rows.Boot.«max» (pa_cons pe_int (pa_cons (pe_callB (cLen (K := K) rfl) (by rfl) T.b_len PyProof.Rows.Boot.«len» (pa_cons (pv 0) pa_nil)) pa_nil))))
      (pss_cons (ps_set (i := 3) sc_law_draw.nd rfl (Or.inl rfl) (pe_ix (ixL (K := K) rfl) (pe_op op_cat (pe_callTy (cList (K := K) rfl) (by rfl) T.b_list PyProof.Rows.Boot.«list» (pa_cons (pv 0) pa_nil)) (pe_lst (pa_cons pe_int pa_nil))) (pe_op op_mod (pv 1) (pv 2)) (fun _ _ => rfl)))
      (pss_cons (ps_if (PW.pt (pw_or (pt_cmpR op_ge (pv 3) (pe_op op_pow pe_int pe_int) (nomark _)) (pw_or1 (pt_cmpR op_le (pv 3) (pe_un un_neg (pe_op op_pow pe_int pe_int)) (nomark _)))))
        (pss_cons (ps_for PassesOwn.never rfl (pi_range1 (by rfl) T.b_range (pa_cons (pe_callB (call_min2 rfl) (by rfl) T.b_min PyProof.Rows.Boot.«min» (pa_cons (pe_op op_fdiv (pv 1) (pv 2)) (pa_cons pe_int pa_nil))) pa_nil)) (pg_name (i := 4) sc_law_draw.nd rfl (Or.inl rfl))
          (pss_one (ps_set (i := 3) sc_law_draw.nd rfl (Or.inl rfl) (pe_op op_fdiv (pv 3) pe_int))))
        (pss_one (ps_ret (pe_op op_mod (pv 3) pe_int))))
        pss_nil)
      (pss_cons (ps_set (i := 5) sc_law_draw.nd rfl (Or.inl rfl) (pe_op op_mod (pe_op op_mul (pe_op op_add (pe_op op_add (pe_op op_mod (pv 3) pe_int) pe_int) (pe_op op_mul pe_int (pe_op op_fdiv (pv 1) (pv 2)))) pe_int) pe_int))
      (pss_cons (ps_set (i := 5) sc_law_draw.nd rfl (Or.inl rfl) (pe_op op_mod (pe_op op_mul (pv 5) (pv 5)) pe_int))
      (pss_one (ps_ret (pe_op op_mod (pe_op op_mul (pv 5) pe_int) pe_int)))))))), ?_⟩
    have hlm : (scr.map V.int).length = scr.length := List.length_map _
    refine ⟨_, rfl, a, _, rfl, .inl hS, _, _, rfl, ?_⟩
    obtain ⟨sz, hsz⟩ : ∃ sz : Int, (if ((scr.map V.int).length : Int) > 1 then ((scr.map V.int).length : Int) else 1) = sz := ⟨_, rfl⟩
    have sz0 : 0 < sz := by rw [← hsz]; split <;> omega
    have sz1 : sz ≤ scr.length + 1 := by rw [← hsz]; split <;> omega
    rw [hsz]
    dsimp only [gName]
    refine ⟨_, rfl, a, _, rfl, .inl hS, fun l1 hl1 => ⟨by show 1 ≤ sizeLine; decide, fun l2 hl2 => ⟨l1, l2, _, _, rfl, rfl, (upd_ne (ne_of_none upd_same hl2)).trans upd_same, upd_same, size_le (by rw [hlm]; show scr.length + 1 ≤ 1000000; omega), fun l3 hl3 => ?_⟩⟩⟩
    have S3 : Same H (upd (upd (upd H l1 (.lst (scr.map V.int))) l2 (.lst [.int 0])) l3 (.lst (scr.map V.int ++ [.int 0]))) := (Same.lay hl1).trans ((Same.lay hl2).trans (Same.lay hl3))
    have hc3 : upd (upd (upd H l1 (.lst (scr.map V.int))) l2 (.lst [.int 0])) l3 (.lst (scr.map V.int ++ [.int 0])) l3 = some (.lst ((scr ++ [0]).map V.int)) := by rw [upd_same, List.map_append]; rfl
    generalize upd (upd (upd H l1 (.lst (scr.map V.int))) l2 (.lst [.int 0])) l3 (.lst (scr.map V.int ++ [.int 0])) = H3 at S3 hc3
    have ⟨m0, m1⟩ := mod_lt n sz sz0
    obtain ⟨cell, hcell, _, _⟩ := atI_ints (scr ++ [0]) m0 (by rw [List.length_append]; simp only [List.length_cons, List.length_nil]; omega)
    refine ⟨_, rfl, _, rfl, _, _, rfl, rfl, sz0, l3, _, _, _, rfl, rfl, SqL.of hc3, hcell, ?_⟩
    dsimp only [gName]
    have t0 : 0 ≤ n / sz := Int.ediv_nonneg n0 (by omega)
    refine ⟨_, rfl, _, _, rfl, rfl, ⟨by decide, by decide, by decide⟩, _, _, rfl, rfl, _, rfl, ite2 (fun e1 => iteT ?y1) (fun e1 => ⟨_, rfl, _, _, rfl, rfl, ⟨by decide, by decide, by decide⟩, _, rfl, _, _, rfl, rfl, _, rfl, ite2 (fun e2 => ?y2) (fun e2 => ?n)⟩)⟩
    case y1 | y2 =>
      refine ⟨_, rfl, _, rfl, _, _, rfl, rfl, ⟨sz0, by omega⟩, _, _, rfl, _, rfl, by split <;> omega, by split <;> omega, for_range (fun i σ H' => ∃ (r : Int) (v4 : Option V), σ = [some (.ref a), some (.int n), some (.int sz), some (.int r), v4, none] ∧ H' = H3) ⟨_, none, rfl, rfl⟩ ?_ ?_⟩
      · rintro i σ H' _ ⟨r, v4, rfl, rfl⟩
        exact ⟨_, rfl, _, _, rfl, rfl, ⟨by decide, by decide⟩, _, _, rfl, rfl⟩
      · rintro σ H' ⟨r, v4, rfl, rfl⟩
        refine ⟨_, rfl, _, _, rfl, rfl, (by show (0 : Int) < _; decide), ?_⟩
        have := mod_lt r 1000003 (by decide)
        exact k _ _ this.1 (by omega) S3
    case n =>
      refine ⟨_, rfl, _, _, rfl, rfl, (by show (0 : Int) < _; decide), _, _, rfl, rfl, _, rfl, _, rfl, _, _, rfl, rfl, ⟨sz0, by omega⟩, _, _, rfl, rfl, .inl ⟨by decide, by decide⟩, _, _, rfl, rfl, _, _, rfl, rfl, .inr ⟨by decide, by decide⟩, _, _, rfl, rfl, (by show (0 : Int) < _; decide), ?_⟩
      dsimp only [gName]
      refine ⟨_, rfl, _, rfl, _, _, rfl, rfl, mulL _ _ (by decide) (by decide), _, _, rfl, rfl, (by show (0 : Int) < _; decide), ?_⟩
      dsimp only [gName]
      refine ⟨_, rfl, _, _, rfl, rfl, mulL _ _ (by decide) (by decide), _, _, rfl, rfl, (by show (0 : Int) < _; decide), ?_⟩
      exact k _ _ (mod_lt _ _ (by decide)).1 (mod_lt _ _ (by decide)).2 S3
abbrev s_law_number : Stmt := top 13
theorem sc_law_number : FnScope ["script", "at", "most", "figures", "found"] ["script", "at", "most"] (defScope s_law_number) := ⟨rfl, rfl, rfl, by decide +kernel, rfl, by decide +kernel, by decide +kernel⟩
theorem ok_number {f fw : Addr} {fd fdw : FuncData} (F : Fun K "_law_number" "_law_number" s_law_number f fd) (T : Txt mg) (D__law_draw : DefAt K mg "_law_draw" s_law_draw ["script", "k"] fw fdw) : FnOk P w K mg base CX0 2 f fd ["script", "at", "most"] (spNumD K) := by
  have G__law_draw : FnOk P w K mg base CX0 1 fw fdw ["script", "k"] (spDraw K) := ok_draw D__law_draw.fn T
  refine F.ok sc_law_number (fun vs H Q E h => ?_) (fun cdv A outer s H vs Q E hr h => ?_)
  · obtain ⟨a, scr, at', most, rfl, _⟩ := h
    rfl
  · obtain ⟨a, scr, at', most, rfl, hS, a0, a1, m0, m1, k⟩ := h
    have hsl := sizeLine_eq
    refine ⟨_, (pss_cons (ps_set (i := 3) sc_law_number.nd rfl (Or.inl rfl) (pe_op op_add pe_int (pe_op op_mod (pe_call G__law_draw (hr.mono (by first | decide | exact Nat.le_refl _)) rfl D__law_draw.mg D__law_draw.fn.kp D__law_draw.bd .nil pass0 (pa_cons (pv 0) (pa_cons (pv 1) pa_nil))) (pv 2))))
      (pss_cons (ps_set (i := 4) sc_law_number.nd rfl (Or.inl rfl) (pe_callTy call_int_text (by rfl) T.b_int PyProof.Rows.Boot.«int» (pa_cons (pe_bm PySem.F.plainAttrs_str PySem.F.slot_str_join PySem.F.type_str_join mt_join pe_str (pa_cons (pe_comp (N := ["k", "script", "at"]) (cap := [none, some 0, some 1]) rfl (show blkOk ["script", "at", "most", "figures", "found"] (defScope s_law_number) ["k", "script", "at"] [none, some 0, some 1] _ = true by decide +kernel) (pi_range1 (by rfl) T.b_range (pa_cons (pv 3) pa_nil)) (fun cl C s3 H3 fp => ⟨(pg_name (i := 0) (show (["k", "script", "at"] : List Str).Nodup by decide +kernel) rfl (Or.inl rfl)), pts_nil, fun it acc => (paf_emit rfl (pe_callTy call_str_int (by rfl) T.b_str PyProof.Rows.Boot.«str» (pa_cons (pe_op op_mod (pe_call G__law_draw (hr.mono (by first | decide | exact Nat.le_refl _)) rfl D__law_draw.mg D__law_draw.fn.kp D__law_draw.bd .nil pass0 (pa_cons (pv 1) (pa_cons (pe_op op_add (pe_op op_add (pv 2) pe_int) (pv 0)) pa_nil))) pe_int) pa_nil)))⟩)) pa_nil)) pa_nil)))
      (pss_one (ps_ret (pe_op op_mul (pv 4) (pe_ix (ixT (K := K) rfl) (pe_tup (pa_cons pe_int (pa_cons (pe_un un_neg pe_int) pa_nil))) (pe_op op_mod (pe_call G__law_draw (hr.mono (by first | decide | exact Nat.le_refl _)) rfl D__law_draw.mg D__law_draw.fn.kp D__law_draw.bd .nil pass0 (pa_cons (pv 0) (pa_cons (pe_op op_add (pv 1) pe_int) pa_nil))) pe_int) (fun _ _ => rfl))))))), ?_⟩
    refine ⟨_, rfl, _, rfl, a, scr, at', rfl, hS, a0, by omega, fun r1 H1 _ _ S1 => ⟨_, rfl, _, _, rfl, rfl, m0, _, _, rfl, rfl, ?_⟩⟩
    have ⟨q0, q1⟩ := mod_lt r1 most m0
    obtain ⟨fg, hfg⟩ := Int.eq_ofNat_of_zero_le (show 0 ≤ 1 + r1 % most by omega)
    dsimp only [gName]
    rw [hfg]
    have fg0 : 1 ≤ fg := by omega
    have fg1 : fg ≤ 14 := by omega
    refine ⟨rfl, _, rfl, _, rfl, by omega, by omega, fun acc hacc => ?_⟩
    rw [Int.toNat_natCast]
    refine walk_range (fun i σ H' => ∃ (v : Option V) (ws : List Str), σ = [v, some (.ref a), some (.int at')] ∧ H' acc = some (.lst (ws.map V.str)) ∧ ws.length = i ∧ (∀ w ∈ ws, ∃ d : Nat, d < 10 ∧ w = numS (d : Int)) ∧ Same H1 H') ⟨none, [], rfl, upd_same, rfl, (fun _ h => nomatch h), Same.lay hacc⟩ ?_ ?_
    · rintro i σ H' hi ⟨v, ws, rfl, ha, hw, hd, S'⟩
      dsimp only [gName]
      refine ⟨_, rfl, _, rfl, _, _, rfl, rfl, _, rfl, _, _, rfl, rfl, a, scr, _, rfl, hS.same (S1.trans S'), by omega, by omega, fun r2 H2 _ _ S2 => ⟨_, _, rfl, rfl, (by show (0 : Int) < _; decide), ?_⟩⟩
      have ⟨d0, d1⟩ := mod_lt r2 10 (by decide)
      obtain ⟨d, hd'⟩ := Int.eq_ofNat_of_zero_le d0
      refine ⟨_, rfl, ?_, _, S2 _ _ ha, size_lt (by rw [List.length_map]; omega), ?_⟩
      · rw [hd', Int.natAbs_natCast]
        by_cases h0 : d = 0
        · rw [h0]; decide
        · exact Nat.lt_trans ((Nat.log2_lt h0).mpr (show d < 2 ^ 64 by omega)) (by decide)
      · refine ⟨_, ws ++ [numS (r2 % 10)], rfl, ?_, by rw [List.length_append, hw]; rfl, fun x hx => ?_, fun b o e => by rw [upd_ne (ne_of_none e hacc)]; exact S2 _ _ (S' _ _ e)⟩
        · rw [upd_same, List.map_append]; rfl
        · rcases List.mem_append.mp hx with hx | hx
          · exact hd x hx
          · exact ⟨d, by omega, by rw [List.mem_singleton.mp hx, hd']⟩
    · rintro σ H' ⟨v, ws, rfl, ha, hw, hd, S'⟩
      obtain ⟨ad, al⟩ := dig_text hd
      have el : (Str.join ("" : Str) ws).length = fg := by rw [← hw, ← al]; simp [Str.length]
      have hsum : ∀ l : List Str, (∀ w ∈ l, ∃ d : Nat, d < 10 ∧ w = numS (d : Int)) → (l.map (·.length)).sum ≤ l.length * 16 := fun l hl => by
        induction l with
        | nil => simp
        | cons x r ih =>
          have h1 := ih fun w hw => hl w (List.mem_cons_of_mem _ hw)
          obtain ⟨d, hd, rfl⟩ := hl x (List.mem_cons_self ..)
          have h2 := numS_len (n := (d : Int)) (k := 15) (by decide) (by rw [Int.natAbs_natCast]; omega)
          simp only [List.map_cons, List.sum_cons, List.length_cons]
          omega
      have hs16 := hsum ws hd
      refine ⟨("" : Str), acc, ws, rfl, rfl, ha, ?_, ?_⟩
      · have e0 : ("" : Str).length = 0 := rfl
        rw [e0]
        omega
      refine ⟨_, _, rfl, PySem.intText_digits ad (by intro e; rw [e] at al; simp at al; omega) (by omega), by omega, ?_⟩
      dsimp only [gName]
      have S'' := S1.trans S'
      refine ⟨_, rfl, _, rfl, by show 2 ≤ sizeLine; decide, fun tp htp => ?_⟩
      have S3 : Same H' (upd H' tp (.tup [.int 1, .int (-1)])) := Same.lay htp
      have etp : upd H' tp (.tup [.int 1, .int (-1)]) tp = some (.tup (([1, -1] : List Int).map V.int)) := upd_same
      generalize upd H' tp (.tup [.int 1, .int (-1)]) = H3 at S3 etp
      refine ⟨_, rfl, _, rfl, _, _, rfl, rfl, a, scr, _, rfl, hS.same (S''.trans S3), by omega, by omega, fun r3 H4 _ _ S4 => ⟨_, _, rfl, rfl, (by show (0 : Int) < _; decide), ?_⟩⟩
      have ⟨z0, z1⟩ := mod_lt r3 2 (by decide)
      obtain ⟨v', hv, hm, _⟩ := atI_ints [1, -1] z0 (by simpa using z1)
      refine ⟨tp, _, _, _, rfl, rfl, SqT.of (S4 _ _ etp), hv, _, _, rfl, rfl, .inr ?_, k _ H4 ((S''.trans S3).trans S4)⟩
      simp only [List.mem_cons, List.not_mem_nil, or_false] at hm
      rcases hm with rfl | rfl <;> decide
end
end My

namespace My
open PySem L2
def spRowD (K : PySem.W.Frag) : Sp := fun vs H Q _ => ∃ (a : Addr) (scr : List Int) (at' most : Int), vs = [.ref a, .int at', .int most] ∧ Scr K H a scr ∧ 0 ≤ at' ∧ at' < 100000 ∧ 0 ≤ most ∧ most ≤ 60 ∧ ∀ (p : Addr) (ns : List Int) (H' : Hp), H' p = some (.tup (ns.map V.int)) → ns.length ≤ 60 → Same H H' → Q (.ref p) H'
section
variable {P : Program} {w : World} {K : PySem.W.Frag} {mg : Str → Option Value} {base : Heap}
abbrev s_law_row : Stmt := top 14
theorem sc_law_row : FnScope ["script", "at", "most", "many", "kind", "row", "k", "draw"] ["script", "at", "most"] (defScope s_law_row) := ⟨rfl, rfl, rfl, by decide +kernel, rfl, by decide +kernel, by decide +kernel⟩
theorem ok_row {f fw fn : Addr} {fd fdw fdn : FuncData} (F : Fun K "_law_row" "_law_row" s_law_row f fd) (T : Txt mg) (D__law_draw : DefAt K mg "_law_draw" s_law_draw ["script", "k"] fw fdw) (D__law_number : DefAt K mg "_law_number" s_law_number ["script", "at", "most"] fn fdn) : FnOk P w K mg base CX0 3 f fd ["script", "at", "most"] (spRowD K) := by
  have G__law_draw : FnOk P w K mg base CX0 1 fw fdw ["script", "k"] (spDraw K) := ok_draw D__law_draw.fn T
  have G__law_number : FnOk P w K mg base CX0 2 fn fdn ["script", "at", "most"] (spNumD K) := ok_number D__law_number.fn T D__law_draw
  refine F.ok sc_law_row (fun vs H Q E h => ?_) (fun cdv A outer s H vs Q E hr h => ?_)
  · obtain ⟨a, scr, at', most, rfl, _⟩ := h
    rfl
  · obtain ⟨a, scr, at', most, rfl, hS, a0, a1, m0, m1, k⟩ := h
    have hsl := sizeLine_eq
    refine ⟨_, (pss_cons (ps_set (i := 3) sc_law_row.nd rfl (Or.inl rfl) (pe_op op_mod (pe_call G__law_draw (hr.mono (by first | decide | exact Nat.le_refl _)) rfl D__law_draw.mg D__law_draw.fn.kp D__law_draw.bd .nil pass0 (pa_cons (pv 0) (pa_cons (pv 1) pa_nil))) (pe_op op_add (pv 2) pe_int)))
      (pss_cons (ps_set (i := 4) sc_law_row.nd rfl (Or.inl rfl) (pe_op op_mod (pe_call G__law_draw (hr.mono (by first | decide | exact Nat.le_refl _)) rfl D__law_draw.mg D__law_draw.fn.kp D__law_draw.bd .nil pass0 (pa_cons (pv 0) (pa_cons (pe_op op_add (pv 1) pe_int) pa_nil))) pe_int))
      (pss_cons (ps_set (i := 5) sc_law_row.nd rfl (Or.inl rfl) (pe_lst pa_nil))
      (pss_cons (ps_for PassesOwn.never rfl (pi_range1 (by rfl) T.b_range (pa_cons (pv 3) pa_nil)) (pg_name (i := 6) sc_law_row.nd rfl (Or.inl rfl))
        (pss_cons (ps_set (i := 7) sc_law_row.nd rfl (Or.inl rfl) (pe_call G__law_draw (hr.mono (by first | decide | exact Nat.le_refl _)) rfl D__law_draw.mg D__law_draw.fn.kp D__law_draw.bd .nil pass0 (pa_cons (pv 0) (pa_cons (pe_op op_add (pe_op op_add (pv 1) pe_int) (pv 6)) pa_nil))))
        (pss_one (ps_if (pt_cmpR op_eq (pv 4) pe_int (nomark _))
          (pss_one (ps_expr (pe_bm PySem.F.plainAttrs_list PySem.F.slot_list_append PySem.F.type_list_append mt_append (pv 5) (pa_cons (pe_call G__law_number (hr.mono (by first | decide | exact Nat.le_refl _)) rfl D__law_number.mg D__law_number.fn.kp D__law_number.bd .nil pass0 (pa_cons (pv 0) (pa_cons (pe_op op_add (pe_op op_add (pv 1) pe_int) (pe_op op_mul pe_int (pv 6))) (pa_cons pe_int pa_nil)))) pa_nil))))
          (pss_one (ps_expr (pe_bm PySem.F.plainAttrs_list PySem.F.slot_list_append PySem.F.type_list_append mt_append (pv 5) (pa_cons (pe_ix (ixL (K := K) rfl) (pe_lst (pa_cons (pe_op op_sub (pe_op op_mod (pv 7) pe_int) pe_int) (pa_cons (pe_op op_sub (pe_op op_mod (pv 7) pe_int) pe_int) (pa_cons (pe_op op_sub (pe_op op_mod (pv 7) pe_int) pe_int) (pa_cons (pe_op op_add pe_int (pe_op op_mod (pv 7) pe_int)) pa_nil))))) (pv 4) (fun _ _ => rfl)) pa_nil))))))))
      (pss_one (ps_ret (pe_callTy (cTuple (K := K) rfl) (by rfl) T.b_tuple PyProof.Rows.Boot.«tuple» (pa_cons (pv 5) pa_nil)))))))), ?_⟩
    have mp : (0 : Int) < most + 1 := by omega
    refine ⟨_, rfl, _, rfl, a, scr, at', rfl, hS, a0, by omega, fun r1 H1 _ _ S1 => ⟨_, rfl, _, _, rfl, rfl, _, _, rfl, rfl, mp, ?_⟩⟩
    have ⟨q0, q1⟩ := mod_lt r1 (most + 1) mp
    obtain ⟨mn, hmn⟩ := Int.eq_ofNat_of_zero_le q0
    dsimp only [gName]
    rw [hmn]
    have hmn1 : mn ≤ 60 := by omega
    refine ⟨_, rfl, _, rfl, _, _, rfl, rfl, a, scr, _, rfl, hS.same S1, by omega, by omega, fun r2 H2 _ _ S2 => ⟨_, _, rfl, rfl, (by show (0 : Int) < _; decide), ?_⟩⟩
    have ⟨k0, k1⟩ := mod_lt r2 5 (by decide)
    dsimp only [gName]
    generalize r2 % 5 = kd at k0 k1
    refine ⟨by show 0 ≤ sizeLine; omega, fun rl hrl => ?_⟩
    have S3 : Same H2 (upd H2 rl (.lst [])) := Same.lay hrl
    have Z2 := S1.trans S2
    dsimp only [gName]
    refine ⟨_, rfl, _, rfl, by omega, by omega, for_range (fun i σ H' => ∃ (v6 v7 : Option V) (ns : List Int), σ = [some (.ref a), some (.int at'), some (.int most), some (.int (mn : Int)), some (.int kd), some (.ref rl), v6, v7] ∧ H' rl = some (.lst (ns.map V.int)) ∧ ns.length = i ∧ Same H2 H') ⟨none, none, [], rfl, upd_same, rfl, S3⟩ ?_ ?_⟩
    · rintro i σ H' hi ⟨v6, v7, ns, rfl, hr', hn, S'⟩
      rw [Int.toNat_natCast] at hi
      dsimp only [gName]
      have Z' := Z2.trans S'
      refine ⟨_, rfl, _, rfl, _, _, rfl, rfl, _, rfl, _, _, rfl, rfl, a, scr, _, rfl, hS.same Z', by omega, by omega, fun dr H4 d0 d1 S4 => ?_⟩
      dsimp only [gName]
      have h4 := S4 _ _ hr'
      have Z4 := Z'.trans S4
      have fin : ∀ (x : Int) (H5 : Hp), Same H4 H5 → H5 rl = some (.lst (ns.map V.int)) → H2 rl = none → Same H2 (upd H5 rl (.lst (ns.map V.int ++ [.int x]))) := fun x H5 S5 _ hn0 b o e => by
        rw [upd_ne (ne_of_none e hn0)]; exact S5 _ _ (S4 _ _ (S' _ _ e))
      refine ⟨_, rfl, rfl, _, rfl, ite2 (fun e => ?_) (fun e => ?_)⟩
      · refine ⟨_, rfl, .inl ⟨rfl, _, SqL.of h4⟩, ?_⟩
        refine ⟨_, rfl, _, rfl, _, _, rfl, rfl, _, rfl, _, _, rfl, rfl, .inl ⟨by decide, by decide⟩, _, _, rfl, rfl, a, scr, _, 12, rfl, hS.same Z4, by omega, by omega, by decide, by decide, fun x H5 S5 => ?_⟩
        have h5 := S5 _ _ h4
        exact ⟨rl, _, _, rfl, rfl, h5, size_lt (by rw [List.length_map]; omega), _, _, ns ++ [x], rfl, by rw [upd_same, List.map_append]; rfl, by rw [List.length_append, hn]; rfl, fin x H5 S5 h5 hrl⟩
      · have k4 : kd < 4 := by
          have : ¬ kd = 4 := fun z => e (decide_eq_true (by rw [z]))
          omega
        refine ⟨_, rfl, .inl ⟨rfl, _, SqL.of h4⟩, ?_⟩
        refine ⟨_, rfl, _, _, rfl, rfl, (by show (0 : Int) < _; decide), _, _, rfl, rfl, _, rfl, _, _, rfl, rfl, (by show (0 : Int) < _; decide), _, _, rfl, rfl, _, rfl, _, _, rfl, rfl, (by show (0 : Int) < _; decide), _, _, rfl, rfl, _, rfl, _, _, rfl, rfl, (by show (0 : Int) < _; decide), _, _, rfl, rfl, by show 4 ≤ sizeLine; omega, fun l hl => ?_⟩
        have S5 := Same.lay (o := .lst [.int (dr % 3 - 1), .int (dr % 5 - 2), .int (dr % 19 - 9), .int (1 + dr % 4)]) hl
        have e5 : upd H4 l (.lst [.int (dr % 3 - 1), .int (dr % 5 - 2), .int (dr % 19 - 9), .int (1 + dr % 4)]) l = some (.lst (([dr % 3 - 1, dr % 5 - 2, dr % 19 - 9, 1 + dr % 4] : List Int).map V.int)) := upd_same
        generalize upd H4 l (.lst [.int (dr % 3 - 1), .int (dr % 5 - 2), .int (dr % 19 - 9), .int (1 + dr % 4)]) = H5 at S5 e5
        obtain ⟨x, hx, _, _⟩ := atI_ints [dr % 3 - 1, dr % 5 - 2, dr % 19 - 9, 1 + dr % 4] k0 (by simpa using k4)
        have h5 := S5 _ _ h4
        refine ⟨_, rfl, l, _, _, _, rfl, rfl, SqL.of e5, hx, ?_⟩
        exact ⟨rl, _, _, rfl, rfl, h5, size_lt (by rw [List.length_map]; omega), _, _, ns ++ [x], rfl, by rw [upd_same, List.map_append]; rfl, by rw [List.length_append, hn]; rfl, fin x H5 S5 h5 hrl⟩
    · rintro σ H' ⟨v6, v7, ns, rfl, hr', hn, S'⟩
      rw [Int.toNat_natCast] at hn
      refine ⟨_, rfl, rl, _, rfl, .inl ⟨SqL.of hr', fun q hq => k q ns _ upd_same (by omega) ((Z2.trans S').trans (Same.lay hq))⟩⟩
end
end My

namespace My
open PySem L2
/-! ### the mathematics: sums ahead, stretches -/
def psum (ns : List Int) (k : Nat) : Int := (ns.take k).sum
def psums (ns : List Int) (i : Nat) : List Int := (List.range (i + 1)).map (psum ns)
theorem psum_succ {ns : List Int} {i : Nat} {n : Int} (h : ns[i]? = some n) : psum ns (i + 1) = psum ns i + n := by
  unfold psum
  rw [List.take_add_one, h, List.sum_append]
  simp
theorem psums_last (ns : List Int) (i : Nat) : psums ns i = (List.range i).map (psum ns) ++ [psum ns i] := by
  unfold psums
  rw [List.range_succ, List.map_append]; rfl
theorem psums_succ (ns : List Int) (i : Nat) : psums ns (i + 1) = psums ns i ++ [psum ns (i + 1)] := by
  rw [psums_last ns (i + 1)]; rfl
theorem psums_len (ns : List Int) (i : Nat) : (psums ns i).length = i + 1 := by unfold psums; simp
theorem psums_get (ns : List Int) (n k : Nat) (h : k ≤ n) : (psums ns n)[k]? = some (psum ns k) := by
  unfold psums
  rw [List.getElem?_map, List.getElem?_range (by omega)]; rfl
/-- the stretches from the place lo on, j of them -/
def from1 (lo j : Nat) : List (Nat × Nat) := (List.range j).map fun t => (lo, lo + 1 + t)
theorem from1_succ (lo j : Nat) : from1 lo (j + 1) = from1 lo j ++ [(lo, lo + 1 + j)] := by
  unfold from1
  rw [List.range_succ, List.map_append]; rfl
/-- the stretches of a row of n numbers that begin ahead of the place i -/
def prsTo (n i : Nat) : List (Nat × Nat) := (List.range i).flatMap fun lo => from1 lo (n - lo)
def prs (n : Nat) : List (Nat × Nat) := prsTo n n
theorem prsTo_succ (n i : Nat) : prsTo n (i + 1) = prsTo n i ++ from1 i (n - i) := by
  unfold prsTo
  rw [List.range_succ, List.flatMap_append]; simp
theorem prs_mem {n lo hi : Nat} (h : (lo, hi) ∈ prs n) : lo < hi ∧ hi ≤ n := by
  unfold prs prsTo at h
  obtain ⟨l, h1, h2⟩ := List.mem_flatMap.mp h
  unfold from1 at h2
  obtain ⟨t, h3, h4⟩ := List.mem_map.mp h2
  have e1 : l = lo := congrArg Prod.fst h4
  have e2 : l + 1 + t = hi := congrArg Prod.snd h4
  have := List.mem_range.mp h1
  have := List.mem_range.mp h3
  omega
def hit (ns : List Int) (tot : Int) (p : Nat × Nat) : Bool := decide (psum ns p.2 - psum ns p.1 = tot)
theorem filter_take_succ {α : Type} (f : α → Bool) {l : List α} {i : Nat} {x : α} (h : l[i]? = some x) : (l.take (i + 1)).filter f = (l.take i).filter f ++ (if f x then [x] else []) := by
  rw [List.take_add_one, h, List.filter_append]
  cases hx : f x <;> simp [hx]
/-! ### lists of pairs, of triples, on the heap -/
/-- a list whose items are tuples: of each the values by g -/
def TupsAt {α : Type} (g : α → List V) (H : Hp) (xs : List V) (ps : List α) : Prop := xs.length = ps.length ∧ ∀ (i : Nat) (p : α), ps[i]? = some p → ∃ a, xs[i]? = some (.ref a) ∧ H a = some (.tup (g p))
theorem TupsAt.nil {α : Type} {g : α → List V} {H : Hp} : TupsAt g H [] [] := ⟨rfl, fun i p h => by simp at h⟩
theorem TupsAt.mono {α : Type} {g : α → List V} {H H' : Hp} {xs : List V} {ps : List α} (h : TupsAt g H xs ps) (k : ∀ a zs, H a = some (.tup zs) → H' a = some (.tup zs)) : TupsAt g H' xs ps :=
  ⟨h.1, fun i p e => let ⟨a, h1, h2⟩ := h.2 i p e; ⟨a, h1, k a _ h2⟩⟩
theorem TupsAt.snoc {α : Type} {g : α → List V} {H : Hp} {xs : List V} {ps : List α} {a : Addr} {p : α} (h : TupsAt g H xs ps) (ha : H a = some (.tup (g p))) : TupsAt g H (xs ++ [.ref a]) (ps ++ [p]) := by
  refine ⟨by rw [List.length_append, List.length_append, h.1]; rfl, fun i q e => ?_⟩
  by_cases hi : i < ps.length
  · rw [List.getElem?_append_left hi] at e
    obtain ⟨b, h1, h2⟩ := h.2 i q e
    exact ⟨b, by rw [List.getElem?_append_left (by rw [h.1]; exact hi)]; exact h1, h2⟩
  · have hl : i < (ps ++ [p]).length := (List.getElem?_eq_some_iff.mp e).1
    rw [List.length_append] at hl
    have hi2 : i = ps.length := by simp only [List.length_cons, List.length_nil] at hl; omega
    subst hi2
    rw [List.getElem?_append_right (Nat.le_refl _)] at e
    simp only [Nat.sub_self, List.getElem?_cons_zero, Option.some.injEq] at e
    subst e
    refine ⟨a, ?_, ha⟩
    rw [← h.1, List.getElem?_append_right (Nat.le_refl _)]; simp
def g2 (p : Nat × Nat) : List V := [.int p.1, .int p.2]
def g3 (ns : List Int) (p : Nat × Nat) : List V := [.int p.1, .int p.2, .int (psum ns p.2 - psum ns p.1)]
/-- a row of ints -/
def RowAt (H : Hp) (p : Addr) (ns : List Int) : Prop := H p = some (.tup (ns.map V.int)) ∧ ns.length ≤ 1000
def spSums : Sp := fun vs H Q _ => ∃ p ns, vs = [.ref p] ∧ RowAt H p ns ∧ ∀ q H', H' q = some (.tup ((psums ns ns.length).map V.int)) → Same H H' → Q (.ref q) H'
section
variable {P : Program} {w : World} {K : PySem.W.Frag} {mg : Str → Option Value} {base : Heap}
abbrev s_sums_ahead : Stmt := top 1
theorem sc_sums_ahead : FnScope ["row", "ahead", "number"] ["row"] (defScope s_sums_ahead) := ⟨rfl, rfl, rfl, by decide +kernel, rfl, by decide +kernel, by decide +kernel⟩
theorem ok_sums_ahead {f : Addr} {fd : FuncData} (F : Fun K "sums_ahead" "sums_ahead" s_sums_ahead f fd) (T : Txt mg) : FnOk P w K mg base CX0 1 f fd ["row"] spSums := by
  refine F.ok sc_sums_ahead (fun vs H Q E h => ?_) (fun cdv A outer s H vs Q E hr h => ?_)
  · obtain ⟨p, ns, rfl, _⟩ := h
    rfl
  · obtain ⟨p, ns, rfl, ⟨hp, hl⟩, k⟩ := h
    refine ⟨_, (pss_cons (ps_set (i := 1) sc_sums_ahead.nd rfl (Or.inl rfl) (pe_lst (pa_cons pe_int pa_nil)))
      (pss_cons (ps_for PassesOwn.never rfl (piT (K := K) rfl (pv 0)) (pg_name (i := 2) sc_sums_ahead.nd rfl (Or.inl rfl))
        (pss_one (ps_expr (pe_bm PySem.F.plainAttrs_list PySem.F.slot_list_append PySem.F.type_list_append mt_append (pv 1) (pa_cons (pe_op op_add (pe_ix (ixL (K := K) rfl) (pv 1) (pe_un un_neg pe_int) (fun _ _ => rfl)) (pv 2)) pa_nil)))))
      (pss_one (ps_ret (pe_callTy (cTuple (K := K) rfl) (by rfl) T.b_tuple PyProof.Rows.Boot.«tuple» (pa_cons (pv 1) pa_nil)))))), ?_⟩
    refine ⟨by show 1 ≤ sizeLine; decide, fun l hl1 => ?_⟩
    have S1 : Same H (upd H l (.lst [.int 0])) := Same.lay hl1
    refine ⟨_, rfl, p, rfl, ⟨_, SqT.of (S1 _ _ hp)⟩, for_tup (xs := ns.map V.int) (fun i σ H' => ∃ v2 : Option V, σ = [some (.ref p), some (.ref l), v2] ∧ Same H H' ∧ H' l = some (.lst ((psums ns i).map V.int))) ?_ ?_ ?_ ?_⟩
    · exact ⟨none, rfl, S1, upd_same⟩
    · rintro i σ H' _ ⟨v2, rfl, S', _⟩
      exact SqT.of (S' _ _ hp)
    · rintro i x σ H' hx ⟨v2, rfl, S', ha⟩
      obtain ⟨n, hn, rfl⟩ : ∃ n, ns[i]? = some n ∧ V.int n = x := by rw [List.getElem?_map] at hx; exact Option.map_eq_some_iff.mp hx
      have hi : i < ns.length := (List.getElem?_eq_some_iff.mp hn).1
      have ha' : H' l = some (.lst (((List.range i).map (psum ns)).map V.int ++ [.int (psum ns i)])) := by rw [ha, psums_last, List.map_append]; rfl
      refine ⟨_, rfl, .inl ⟨rfl, _, SqL.of ha⟩, _, rfl, 1, rfl, l, _, _, _, rfl, rfl, SqL.of ha', atI_last _ _, _, rfl, _, _, rfl, rfl, l, _, _, rfl, rfl, ha, size_lt (by rw [List.length_map, psums_len]; omega), ?_⟩
      refine ⟨_, rfl, fun b o e => by rw [upd_ne (ne_of_none e hl1)]; exact S' b o e, ?_⟩
      rw [upd_same, psums_succ, List.map_append, psum_succ hn]; rfl
    · rintro σ H' ⟨v2, rfl, S', ha⟩
      rw [List.length_map] at ha
      exact ⟨_, rfl, l, _, rfl, .inl ⟨SqL.of ha, fun q hq => k q _ upd_same (S'.trans (Same.lay hq))⟩⟩
def spStr : Sp := fun vs H Q _ => ∃ p ns, vs = [.ref p] ∧ RowAt H p ns ∧ ∀ q xs H', H' q = some (.lst xs) → TupsAt g2 H' xs (prs ns.length) → Same H H' → Q (.ref q) H'
abbrev s_stretches_of : Stmt := top 2
theorem sc_stretches_of : FnScope ["row", "many"] ["row"] (defScope s_stretches_of) := ⟨rfl, rfl, rfl, by decide +kernel, rfl, by decide +kernel, by decide +kernel⟩
theorem ok_stretches_of {f : Addr} {fd : FuncData} (F : Fun K "stretches_of" "stretches_of" s_stretches_of f fd) (T : Txt mg) : FnOk P w K mg base CX0 1 f fd ["row"] spStr := by
  refine F.ok sc_stretches_of (fun vs H Q E h => ?_) (fun cdv A outer s H vs Q E hr h => ?_)
  · obtain ⟨p, ns, rfl, _⟩ := h
    rfl
  · obtain ⟨p, ns, rfl, ⟨hp, hl⟩, k⟩ := h
    refine ⟨_, (pss_cons (ps_set (i := 1) sc_stretches_of.nd rfl (Or.inr rfl) (pe_callB (cLen (K := K) rfl) (by rfl) T.b_len PyProof.Rows.Boot.«len» (pa_cons (pv 0) pa_nil)))
      (pss_one (ps_ret (pe_comp (N := ["low", "high", "many"]) (cap := [none, none, some 1]) rfl (show blkOk ["row", "many"] (defScope s_stretches_of) ["low", "high", "many"] [none, none, some 1] _ = true by decide +kernel) (pi_range1 (by rfl) T.b_range (pa_cons (pv 1) pa_nil)) (fun cl C s3 H3 fp => ⟨(pg_name (i := 0) (show (["low", "high", "many"] : List Str).Nodup by decide +kernel) rfl (Or.inl rfl)), pts_nil, fun it acc => (paf_for rfl rfl rfl (pi_range2 (by rfl) T.b_range (pa_cons (pe_op op_add (pv 0) pe_int) (pa_cons (pe_op op_add (pv 2) pe_int) pa_nil))) (pg_name (i := 1) (show (["low", "high", "many"] : List Str).Nodup by decide +kernel) rfl (Or.inl rfl)) pts_nil (fun it1 => (paf_emit rfl (pe_tup (pa_cons (pv 0) (pa_cons (pv 1) pa_nil))))))⟩))))), ?_⟩
    refine ⟨_, rfl, p, _, rfl, .inr (SqT.of hp), ?_⟩
    have hlm : (ns.map V.int).length = ns.length := List.length_map _
    refine ⟨_, rfl, _, rfl, by omega, by omega, fun acc hacc => ?_⟩
    refine walk_range (fun i σ H' => ∃ (v1 v2 : Option V) (xs : List V), σ = [v1, v2, some (.int ((ns.map V.int).length : Int))] ∧ H' acc = some (.lst xs) ∧ TupsAt g2 H' xs (prsTo ns.length i) ∧ xs.length ≤ i * 1000 ∧ Same H H') ?_ ?_ ?_
    · exact ⟨none, none, [], rfl, upd_same, TupsAt.nil, by simp, Same.lay hacc⟩
    · rintro i σ H' hi ⟨v1, v2, xs, rfl, ha, ht, hx, S'⟩
      have hi' : i < ns.length := by omega
      refine ⟨_, rfl, _, _, rfl, rfl, _, rfl, _, _, rfl, rfl, _, _, rfl, ⟨by omega, by omega, by omega, by omega⟩, ?_⟩
      have ej : ((((ns.map V.int).length : Int) + 1) - (0 + (i : Int) + 1)).toNat = ns.length - i := by omega
      rw [ej]
      refine walk_range (fun j σ H' => ∃ (v2 : Option V) (xs : List V), σ = [some (.int (0 + (i : Int))), v2, some (.int ((ns.map V.int).length : Int))] ∧ H' acc = some (.lst xs) ∧ TupsAt g2 H' xs (prsTo ns.length i ++ from1 i j) ∧ xs.length ≤ i * 1000 + j ∧ Same H H') ?_ ?_ ?_
      · exact ⟨v2, xs, rfl, ha, by simpa [from1] using ht, by omega, S'⟩
      · rintro j σ H2 hj ⟨v2, xs, rfl, ha, ht, hx, S'⟩
        refine ⟨_, rfl, _, rfl, by show 2 ≤ sizeLine; decide, fun a hna => ⟨xs, (upd_ne (ne_of_none ha hna)).trans ha, size_lt (by omega), _, _, rfl, upd_same, ?_, by rw [List.length_append]; simp only [List.length_cons, List.length_nil]; omega, ?_⟩⟩
        · have e1 : (0 : Int) + (i : Int) = ((i : Nat) : Int) := by omega
          have e2 : (0 : Int) + (i : Int) + 1 + (j : Int) = ((i + 1 + j : Nat) : Int) := by omega
          rw [from1_succ, ← List.append_assoc]
          refine TupsAt.snoc (ht.mono fun b zs e => ?_) ?_
          · rw [upd_ne (ne_of e ha (by intro z; cases z)), upd_ne (ne_of_none e hna)]; exact e
          · rw [upd_ne (Ne.symm (ne_of_none ha hna)), upd_same, e2, e1]; rfl
        · exact fun b o e => by rw [upd_ne (ne_of_none e hacc), upd_ne (ne_of_none (S' b o e) hna)]; exact S' b o e
      · rintro σ H2 ⟨v2, xs, rfl, ha, ht, hx, S'⟩
        exact ⟨_, _, xs, rfl, ha, by rw [prsTo_succ]; exact ht, by omega, S'⟩
    · rintro σ H' ⟨v1, v2, xs, rfl, ha, ht, hx, S'⟩
      have e : (((ns.map V.int).length : Int)).toNat = ns.length := by omega
      rw [e] at ht
      exact k acc xs H' ha ht S'
theorem prsTo_len (n : Nat) (hn : n ≤ 1000) : ∀ i, i ≤ n → (prsTo n i).length ≤ i * 1000
  | 0, _ => by simp [prsTo]
  | i + 1, h => by
    have ih := prsTo_len n hn i (by omega)
    rw [prsTo_succ, List.length_append]
    have : (from1 i (n - i)).length = n - i := by unfold from1; simp
    omega
theorem prs_len (n : Nat) (hn : n ≤ 1000) : (prs n).length ≤ 1000000 := by
  have := prsTo_len n hn n (Nat.le_refl _)
  unfold prs
  omega
end
end My

namespace My
open PySem L2
/-- a list of pairs: a sum, and a stretch, a tuple of its own -/
def SumsAt (ns : List Int) (H : Hp) (xs : List V) (ps : List (Nat × Nat)) : Prop := xs.length = ps.length ∧ ∀ (i : Nat) (p : Nat × Nat), ps[i]? = some p → ∃ a b, xs[i]? = some (.ref a) ∧ H a = some (.tup [.int (psum ns p.2 - psum ns p.1), .ref b]) ∧ H b = some (.tup (g2 p))
theorem SumsAt.nil {ns : List Int} {H : Hp} : SumsAt ns H [] [] := ⟨rfl, fun i p h => by simp at h⟩
theorem SumsAt.mono {ns : List Int} {H H' : Hp} {xs : List V} {ps : List (Nat × Nat)} (h : SumsAt ns H xs ps) (k : ∀ a zs, H a = some (.tup zs) → H' a = some (.tup zs)) : SumsAt ns H' xs ps :=
  ⟨h.1, fun i p e => let ⟨a, b, h1, h2, h3⟩ := h.2 i p e; ⟨a, b, h1, k a _ h2, k b _ h3⟩⟩
theorem SumsAt.snoc {ns : List Int} {H : Hp} {xs : List V} {ps : List (Nat × Nat)} {a b : Addr} {p : Nat × Nat} (h : SumsAt ns H xs ps) (ha : H a = some (.tup [.int (psum ns p.2 - psum ns p.1), .ref b])) (hb : H b = some (.tup (g2 p))) : SumsAt ns H (xs ++ [.ref a]) (ps ++ [p]) := by
  refine ⟨by rw [List.length_append, List.length_append, h.1]; rfl, fun i q e => ?_⟩
  by_cases hi : i < ps.length
  · rw [List.getElem?_append_left hi] at e
    obtain ⟨c, c2, h1, h2, h3⟩ := h.2 i q e
    exact ⟨c, c2, by rw [List.getElem?_append_left (by rw [h.1]; exact hi)]; exact h1, h2, h3⟩
  · have hl : i < (ps ++ [p]).length := (List.getElem?_eq_some_iff.mp e).1
    rw [List.length_append] at hl
    have hi2 : i = ps.length := by simp only [List.length_cons, List.length_nil] at hl; omega
    subst hi2
    rw [List.getElem?_append_right (Nat.le_refl _)] at e
    simp only [Nat.sub_self, List.getElem?_cons_zero, Option.some.injEq] at e
    subst e
    refine ⟨a, b, ?_, ha, hb⟩
    rw [← h.1, List.getElem?_append_right (Nat.le_refl _)]; simp
/-- the stretches whose sum a test lets through -/
def hb (ns : List Int) (t : Int → Bool) (p : Nat × Nat) : Bool := t (psum ns p.2 - psum ns p.1)
def hitsBy (ns : List Int) (t : Int → Bool) : List (Nat × Nat) := (prs ns.length).filter (hb ns t)
theorem take_succ {α : Type} {l : List α} {i : Nat} {x : α} (h : l[i]? = some x) : l.take (i + 1) = l.take i ++ [x] := by
  rw [List.take_add_one, h]; rfl
def spSummed : Sp := fun vs H Q _ => ∃ p ns, vs = [.ref p] ∧ RowAt H p ns ∧ ∀ q xs H', H q = none → H' q = some (.lst xs) → SumsAt ns H' xs (prs ns.length) → Same H H' → Q (.ref q) H'
section
variable {P : Program} {w : World} {K : PySem.W.Frag} {mg : Str → Option Value} {base : Heap}
abbrev s_summed_stretches : Stmt := top 3
theorem sc_summed_stretches : FnScope ["row", "ahead"] ["row"] (defScope s_summed_stretches) := ⟨rfl, rfl, rfl, by decide +kernel, rfl, by decide +kernel, by decide +kernel⟩
theorem ok_summed_stretches {f fa fs : Addr} {fd fda fds : FuncData} (F : Fun K "summed_stretches" "summed_stretches" s_summed_stretches f fd) (T : Txt mg) (D_sums_ahead : DefAt K mg "sums_ahead" s_sums_ahead ["row"] fa fda) (D_stretches_of : DefAt K mg "stretches_of" s_stretches_of ["row"] fs fds) :
    FnOk P w K mg base CX0 2 f fd ["row"] spSummed := by
  have G_sums_ahead : FnOk P w K mg base CX0 1 fa fda ["row"] spSums := ok_sums_ahead D_sums_ahead.fn T
  have G_stretches_of : FnOk P w K mg base CX0 1 fs fds ["row"] spStr := ok_stretches_of D_stretches_of.fn T
  refine F.ok sc_summed_stretches (fun vs H Q E h => ?_) (fun cdv A outer s H vs Q E hr h => ?_)
  · obtain ⟨p, ns, rfl, _⟩ := h
    rfl
  · obtain ⟨p, ns, rfl, ⟨hp, hl⟩, k⟩ := h
    refine ⟨_, (pss_cons (ps_set (i := 1) sc_summed_stretches.nd rfl (Or.inr rfl) (pe_call G_sums_ahead (hr.mono (by first | decide | exact Nat.le_refl _)) rfl D_sums_ahead.mg D_sums_ahead.fn.kp D_sums_ahead.bd .nil pass0 (pa_cons (pv 0) pa_nil)))
      (pss_one (ps_ret (pe_comp (N := ["low", "high", "ahead"]) (cap := [none, none, some 1]) rfl (show blkOk ["row", "ahead"] (defScope s_summed_stretches) ["low", "high", "ahead"] [none, none, some 1] _ = true by decide +kernel) (piL (K := K) rfl (pe_call G_stretches_of (hr.mono (by first | decide | exact Nat.le_refl _)) rfl D_stretches_of.mg D_stretches_of.fn.kp D_stretches_of.bd .nil pass0 (pa_cons (pv 0) pa_nil))) (fun cl C s3 H3 fp => ⟨(pgT (K := K) (n := 2) rfl rfl (pgs_cons (pg_name (i := 0) (show (["low", "high", "ahead"] : List Str).Nodup by decide +kernel) rfl (Or.inl rfl)) (pgs_cons (pg_name (i := 1) (show (["low", "high", "ahead"] : List Str).Nodup by decide +kernel) rfl (Or.inl rfl)) pgs_nil))), pts_nil, fun it acc => (paf_emit rfl (pe_tup (pa_cons (pe_op op_sub (pe_ix (ixT (K := K) rfl) (pv 2) (pv 1) (fun _ _ => rfl)) (pe_ix (ixT (K := K) rfl) (pv 2) (pv 0) (fun _ _ => rfl))) (pa_cons (pe_tup (pa_cons (pv 0) (pa_cons (pv 1) pa_nil))) pa_nil))))⟩))))), ?_⟩
    refine ⟨_, rfl, p, ns, rfl, ⟨hp, hl⟩, fun q1 H1 hq1 S1 => ?_⟩
    refine ⟨_, rfl, p, ns, rfl, ⟨S1 _ _ hp, hl⟩, fun q2 ys H2 hq2 ht2 S2 => ⟨q2, rfl, ⟨_, SqL.of hq2⟩, fun acc hacc => ?_⟩⟩
    have hq1' := S2 _ _ hq1
    have plen := prs_len ns.length hl
    refine walk_list (xs := ys) (fun i σ H' => ∃ (v1 v2 : Option V) (xs : List V), σ = [v1, v2, some (.ref q1)] ∧ H' acc = some (.lst xs) ∧ SumsAt ns H' xs ((prs ns.length).take i) ∧ Same H2 H') ?_ ?_ ?_ ?_
    · exact ⟨none, none, [], rfl, upd_same, SumsAt.nil, Same.lay hacc⟩
    · rintro i σ H' _ ⟨v1, v2, xs, rfl, ha, ht, S'⟩
      exact SqL.of (S' _ _ hq2)
    · rintro i y σ H' hy ⟨v1, v2, xs, rfl, ha, ht, S'⟩
      have hi : i < (prs ns.length).length := by rw [← ht2.1]; exact (List.getElem?_eq_some_iff.mp hy).1
      obtain ⟨a, e1, e2⟩ := ht2.2 i _ (List.getElem?_eq_getElem hi)
      rw [hy] at e1
      have e1 : y = .ref a := Option.some.inj e1
      subst e1
      obtain ⟨⟨lo, hi'⟩, hpr⟩ : ∃ pr, (prs ns.length)[i] = pr := ⟨_, rfl⟩
      have hg : (prs ns.length)[i]? = some (lo, hi') := by rw [List.getElem?_eq_getElem hi, hpr]
      rw [hpr] at e2
      obtain ⟨m1, m2⟩ := prs_mem (List.mem_of_getElem? hg)
      have xlen : xs.length ≤ 1000000 := by
        rw [ht.1, List.length_take]; omega
      refine ⟨a, _, rfl, SqT.of (S' _ _ e2), rfl, _, _, rfl, _, _, rfl, rfl, ?_⟩
      refine ⟨_, rfl, _, rfl, q1, _, _, _, rfl, rfl, SqT.of (S' _ _ hq1'), atI_nat (by rw [List.getElem?_map, psums_get ns _ _ m2]; rfl), _, rfl, _, rfl, q1, _, _, _, rfl, rfl, SqT.of (S' _ _ hq1'), atI_nat (by rw [List.getElem?_map, psums_get ns _ _ (by omega)]; rfl), _, _, rfl, rfl, ?_⟩
      refine ⟨_, rfl, _, rfl, by show 2 ≤ sizeLine; decide, fun b hb => ?_⟩
      refine ⟨by show 2 ≤ sizeLine; decide, fun c hc => ?_⟩
      have ha1 := (upd_ne (o := HO.tup [V.int lo, V.int hi']) (ne_of_none ha hb)).trans ha
      have ha2 := (upd_ne (o := HO.tup [V.int (psum ns hi' - psum ns lo), V.ref b]) (ne_of_none ha1 hc)).trans ha1
      refine ⟨xs, ha2, size_lt xlen, _, _, _, rfl, upd_same, ?_, ?_⟩
      · rw [take_succ hg]
        have hbc : b ≠ c := fun e => by subst e; rw [upd_same] at hc; cases hc
        refine SumsAt.snoc (b := b) (ht.mono fun d zs e => ?_) ?_ ?_
        · rw [upd_ne (ne_of e ha (by intro z; cases z)), upd_ne (ne_of_none ((upd_ne (ne_of_none e hb)).trans e) hc), upd_ne (ne_of_none e hb)]; exact e
        · rw [upd_ne (Ne.symm (ne_of_none ha1 hc)), upd_same]
        · rw [upd_ne (Ne.symm (ne_of_none ha hb)), upd_ne hbc, upd_same]; rfl
      · exact fun d o e => by
          have e' := (upd_ne (o := HO.tup [V.int lo, V.int hi']) (ne_of_none (S' d o e) hb)).trans (S' d o e)
          rw [upd_ne (ne_of_none e hacc), upd_ne (ne_of_none e' hc)]; exact e'
    · rintro σ H' ⟨v1, v2, xs, rfl, ha, ht, S'⟩
      rw [ht2.1, List.take_length] at ht
      exact k acc xs H' ((S1.trans S2).free hacc) ha ht (S1.trans (S2.trans S'))
end
end My

namespace My
open PySem L2
section
variable {P : Program} {w : World} {K : PySem.W.Frag} {mg : Str → Option Value} {base : Heap}
def spAll : Sp := fun vs H Q _ => ∃ (p : Addr) (ns : List Int) (tot : Int), vs = [.ref p, .int tot] ∧ RowAt H p ns ∧ ∀ q xs H', H q = none → H' q = some (.lst xs) → TupsAt g2 H' xs (hitsBy ns (fun s => decide (s = tot))) → Same H H' → Q (.ref q) H'
abbrev s_all_with : Stmt := top 5
theorem sc_all_with : FnScope ["row", "total"] ["row", "total"] (defScope s_all_with) := ⟨rfl, rfl, rfl, by decide +kernel, rfl, by decide +kernel, by decide +kernel⟩
theorem ok_all_with {f fz : Addr} {fd fdz : FuncData} (F : Fun K "all_with" "all_with" s_all_with f fd) (T : Txt mg) (D_summed_stretches : DefAt K mg "summed_stretches" s_summed_stretches ["row"] fz fdz) (G_summed_stretches : FnOk P w K mg base CX0 2 fz fdz ["row"] spSummed) :
    FnOk P w K mg base CX0 3 f fd ["row", "total"] spAll := by
  refine F.ok sc_all_with (fun vs H Q E h => ?_) (fun cdv A outer s H vs Q E hr h => ?_)
  · obtain ⟨p, ns, tot, rfl, _⟩ := h
    rfl
  · obtain ⟨p, ns, tot, rfl, ⟨hp, hl⟩, k⟩ := h
    refine ⟨_, (pss_one (ps_ret (pe_comp (N := ["own", "stretch", "total"]) (cap := [none, none, some 1]) rfl (show blkOk ["row", "total"] (defScope s_all_with) ["own", "stretch", "total"] [none, none, some 1] _ = true by decide +kernel) (piL (K := K) rfl (pe_call G_summed_stretches (hr.mono (by first | decide | exact Nat.le_refl _)) rfl D_summed_stretches.mg D_summed_stretches.fn.kp D_summed_stretches.bd .nil pass0 (pa_cons (pv 0) pa_nil))) (fun cl C s3 H3 fp => ⟨(pgT (K := K) (n := 2) rfl rfl (pgs_cons (pg_name (i := 0) (show (["own", "stretch", "total"] : List Str).Nodup by decide +kernel) rfl (Or.inl rfl)) (pgs_cons (pg_name (i := 1) (show (["own", "stretch", "total"] : List Str).Nodup by decide +kernel) rfl (Or.inl rfl)) pgs_nil))), (pts_one (pt_cmpR op_eq (pv 0) (pv 2) (nomark _))), fun it acc => (paf_emit rfl (pv 1))⟩)))), ?_⟩
    refine ⟨_, rfl, p, ns, rfl, ⟨hp, hl⟩, fun q2 ys H2 _ hq2 ht2 S2 => ⟨q2, rfl, ⟨_, SqL.of hq2⟩, fun acc hacc => ?_⟩⟩
    have plen := prs_len ns.length hl
    refine walk_list (xs := ys) (fun i σ H' => ∃ (v1 v2 : Option V) (xs : List V), σ = [v1, v2, some (.int tot)] ∧ H' acc = some (.lst xs) ∧ TupsAt g2 H' xs (((prs ns.length).take i).filter (hb ns (fun s => decide (s = tot)))) ∧ Same H2 H') ?_ ?_ ?_ ?_
    · exact ⟨none, none, [], rfl, upd_same, by simpa using TupsAt.nil, Same.lay hacc⟩
    · rintro i σ H' _ ⟨v1, v2, xs, rfl, ha, ht, S'⟩
      exact SqL.of (S' _ _ hq2)
    · rintro i y σ H' hy ⟨v1, v2, xs, rfl, ha, ht, S'⟩
      have hi : i < (prs ns.length).length := by rw [← ht2.1]; exact (List.getElem?_eq_some_iff.mp hy).1
      obtain ⟨a, b, e1, e2, e3⟩ := ht2.2 i _ (List.getElem?_eq_getElem hi)
      rw [hy] at e1
      have e1 : y = .ref a := Option.some.inj e1
      subst e1
      have hg : (prs ns.length)[i]? = some (prs ns.length)[i] := List.getElem?_eq_getElem hi
      generalize (prs ns.length)[i] = pr at e2 e3 hg
      have xlen : xs.length ≤ 1000000 := by
        rw [ht.1]
        exact Nat.le_trans (List.length_filter_le _ _) (by rw [List.length_take]; omega)
      have yes : hb ns (fun s => decide (s = tot)) pr = true → ∀ v1 v2 : Option V, ∃ (v1' v2' : Option V) (xs' : List V), [v1, v2, some (.int tot)] = [v1', v2', some (.int tot)] ∧ upd H' acc (.lst (xs ++ [.ref b])) acc = some (.lst xs') ∧ TupsAt g2 (upd H' acc (.lst (xs ++ [.ref b]))) xs' (((prs ns.length).take (i + 1)).filter (hb ns (fun s => decide (s = tot)))) ∧ Same H2 (upd H' acc (.lst (xs ++ [.ref b]))) := fun hh v1 v2 => by
        refine ⟨v1, v2, _, rfl, upd_same, ?_, fun c o e => by rw [upd_ne (ne_of_none e hacc)]; exact S' c o e⟩
        rw [filter_take_succ _ hg, hh]
        exact TupsAt.snoc (ht.mono fun c zs e => by rw [upd_ne (ne_of e ha (by intro z; cases z))]; exact e) (by rw [upd_ne (ne_of (S' _ _ e3) ha (by intro z; cases z))]; exact S' _ _ e3)
      have no : hb ns (fun s => decide (s = tot)) pr = false → ∀ v1 v2 : Option V, ∃ (v1' v2' : Option V) (xs' : List V), [v1, v2, some (.int tot)] = [v1', v2', some (.int tot)] ∧ H' acc = some (.lst xs') ∧ TupsAt g2 H' xs' (((prs ns.length).take (i + 1)).filter (hb ns (fun s => decide (s = tot)))) ∧ Same H2 H' := fun hh v1 v2 => by
        refine ⟨v1, v2, xs, rfl, ha, ?_, S'⟩
        rw [filter_take_succ _ hg, hh]
        simpa using ht
      refine ⟨a, _, rfl, SqT.of (S' _ _ e2), rfl, _, _, rfl, _, _, rfl, rfl, ?_⟩
      refine ⟨_, rfl, _, rfl, rfl, _, rfl, ite2 (fun e => ?_) (fun e => ?_)⟩
      · refine ⟨_, rfl, xs, ha, size_lt xlen, yes ?_ _ _⟩
        rw [decide_eq_true_eq] at e
        injection e with e
        exact decide_eq_true e
      · refine no ?_ _ _
        exact decide_eq_false fun z => e (decide_eq_true (congrArg V.int z))
    · rintro σ H' ⟨v1, v2, xs, rfl, ha, ht, S'⟩
      rw [ht2.1, List.take_length] at ht
      exact k acc xs H' (S2.free hacc) ha ht (S2.trans S')
end
end My

namespace My
open PySem L2
def pLt (a b : Nat × Nat) : Prop := a.1 < b.1 ∨ a.1 = b.1 ∧ a.2 < b.2
theorem from1_sorted (lo : Nat) : ∀ j, (from1 lo j).Pairwise pLt
  | 0 => by unfold from1; simp
  | j + 1 => by
    rw [from1_succ, List.pairwise_append]
    refine ⟨from1_sorted lo j, by simp, fun a ha b hb => ?_⟩
    unfold from1 at ha
    obtain ⟨t, ht, rfl⟩ := List.mem_map.mp ha
    have hb : b = (lo, lo + 1 + j) := by simpa using hb
    subst hb
    have := List.mem_range.mp ht
    exact .inr ⟨rfl, by show lo + 1 + t < lo + 1 + j; omega⟩
theorem prsTo_sorted (n : Nat) : ∀ i, (prsTo n i).Pairwise pLt ∧ ∀ p ∈ prsTo n i, p.1 < i
  | 0 => by unfold prsTo; simp
  | i + 1 => by
    obtain ⟨h1, h2⟩ := prsTo_sorted n i
    have h3 : ∀ p ∈ from1 i (n - i), p.1 = i := fun p hp => by
      unfold from1 at hp
      obtain ⟨t, _, rfl⟩ := List.mem_map.mp hp
      rfl
    rw [prsTo_succ]
    refine ⟨List.pairwise_append.mpr ⟨h1, from1_sorted _ _, fun a ha b hb => .inl (by rw [h3 b hb]; exact h2 a ha)⟩, fun p hp => ?_⟩
    rcases List.mem_append.mp hp with h | h
    · have := h2 p h; omega
    · rw [h3 p h]; exact Nat.lt_succ_self _
theorem hitsBy_sorted (ns : List Int) (t : Int → Bool) : (hitsBy ns t).Pairwise pLt := (prsTo_sorted _ _).1.filter _
theorem hitsBy_mem {ns : List Int} {t : Int → Bool} {p : Nat × Nat} (h : p ∈ hitsBy ns t) : p.1 < p.2 ∧ p.2 ≤ ns.length := prs_mem (List.mem_filter.mp h).1
end My

namespace My
open PySem L2
def wb (lo hi : Int) : Int → Bool := fun s => decide (lo ≤ s) && decide (s ≤ hi)
def spAheadL : Sp := fun vs H Q _ => ∃ (p : Addr) (ns : List Int), vs = [.ref p] ∧ RowAt H p ns ∧ ∀ q H', H q = none → H' q = some (.lst ((psums ns ns.length).map V.int)) → Same H H' → Q (.ref q) H'
def spWith : Sp := fun vs H Q _ => ∃ (p : Addr) (ns : List Int) (lo hi : Int), vs = [.ref p, .int lo, .int hi] ∧ RowAt H p ns ∧ ns.length ≤ 60 ∧ ∀ q xs H', H q = none → H' q = some (.lst xs) → TupsAt g2 H' xs (hitsBy ns (wb lo hi)) → Same H H' → Q (.ref q) H'
def spTotD (K : PySem.W.Frag) : Sp := fun vs H Q _ => ∃ (a p : Addr) (scr : List Int) (at' : Int) (ns : List Int), vs = [.ref a, .int at', .ref p] ∧ Scr K H a scr ∧ 0 ≤ at' ∧ at' < 100000 ∧ RowAt H p ns ∧ ∀ (r : Int) (H' : Hp), Same H H' → Q (.int r) H'
theorem flat_ints (ns : List Int) : (ns.map V.int).all flatV = true := by
  rw [List.all_map, List.all_eq_true]
  intro x _
  rfl
theorem filt_snoc {α : Type} (f : α → Bool) (l : List α) (x : α) : (l ++ [x]).filter f = l.filter f ++ if f x then [x] else [] := by
  rw [List.filter_append]
  cases h : f x <;> simp [h]
section
variable {P : Program} {w : World} {K : PySem.W.Frag} {mg : Str → Option Value} {base : Heap}
abbrev s_law_ahead : Stmt := top 15
theorem sc_law_ahead : FnScope ["row", "found", "number"] ["row"] (defScope s_law_ahead) := ⟨rfl, rfl, rfl, by decide +kernel, rfl, by decide +kernel, by decide +kernel⟩
theorem ok_ahead {f : Addr} {fd : FuncData} (F : Fun K "_law_ahead" "_law_ahead" s_law_ahead f fd) (T : Txt mg) : FnOk P w K mg base CX0 1 f fd ["row"] spAheadL := by
  refine F.ok sc_law_ahead (fun vs H Q E h => ?_) (fun cdv A outer s H vs Q E hr h => ?_)
  · obtain ⟨p, ns, rfl, _⟩ := h
    rfl
  · obtain ⟨p, ns, rfl, ⟨hp, hl⟩, k⟩ := h
    refine ⟨_, (pss_cons (ps_set (i := 1) sc_law_ahead.nd rfl (Or.inl rfl) (pe_lst (pa_cons pe_int pa_nil)))
      (pss_cons (ps_for PassesOwn.never rfl (piT (K := K) rfl (pv 0)) (pg_name (i := 2) sc_law_ahead.nd rfl (Or.inl rfl))
        (pss_one (ps_expr (pe_bm PySem.F.plainAttrs_list PySem.F.slot_list_append PySem.F.type_list_append mt_append (pv 1) (pa_cons (pe_op op_add (pe_ix (ixL (K := K) rfl) (pv 1) (pe_un un_neg pe_int) (fun _ _ => rfl)) (pv 2)) pa_nil)))))
      (pss_one (ps_ret (pv 1))))), ?_⟩
    refine ⟨by show 1 ≤ sizeLine; decide, fun l hl1 => ?_⟩
    have S1 : Same H (upd H l (.lst [.int 0])) := Same.lay hl1
    refine ⟨_, rfl, p, rfl, ⟨_, SqT.of (S1 _ _ hp)⟩, for_tup (xs := ns.map V.int) (fun i σ H' => ∃ v2 : Option V, σ = [some (.ref p), some (.ref l), v2] ∧ Same H H' ∧ H' l = some (.lst ((psums ns i).map V.int))) ?_ ?_ ?_ ?_⟩
    · exact ⟨none, rfl, S1, upd_same⟩
    · rintro i σ H' _ ⟨v2, rfl, S', _⟩
      exact SqT.of (S' _ _ hp)
    · rintro i x σ H' hx ⟨v2, rfl, S', ha⟩
      obtain ⟨n, hn, rfl⟩ : ∃ n, ns[i]? = some n ∧ V.int n = x := by rw [List.getElem?_map] at hx; exact Option.map_eq_some_iff.mp hx
      have hi : i < ns.length := (List.getElem?_eq_some_iff.mp hn).1
      have ha' : H' l = some (.lst (((List.range i).map (psum ns)).map V.int ++ [.int (psum ns i)])) := by rw [ha, psums_last, List.map_append]; rfl
      refine ⟨_, rfl, .inl ⟨rfl, _, SqL.of ha⟩, _, rfl, 1, rfl, l, _, _, _, rfl, rfl, SqL.of ha', atI_last _ _, _, rfl, _, _, rfl, rfl, l, _, _, rfl, rfl, ha, size_lt (by rw [List.length_map, psums_len]; omega), ?_⟩
      refine ⟨_, rfl, fun b o e => by rw [upd_ne (ne_of_none e hl1)]; exact S' b o e, ?_⟩
      rw [upd_same, psums_succ, List.map_append, psum_succ hn]; rfl
    · rintro σ H' ⟨v2, rfl, S', ha⟩
      rw [List.length_map] at ha
      exact ⟨_, rfl, k l _ hl1 ha S'⟩
abbrev s_law_with : Stmt := top 16
theorem sc_law_with : FnScope ["row", "low_sum", "high_sum", "ahead", "found", "low", "high", "total"] ["row", "low_sum", "high_sum"] (defScope s_law_with) := ⟨rfl, rfl, rfl, by decide +kernel, rfl, by decide +kernel, by decide +kernel⟩
theorem ok_with {f fa : Addr} {fd fda : FuncData} (F : Fun K "_law_with" "_law_with" s_law_with f fd) (T : Txt mg) (D__law_ahead : DefAt K mg "_law_ahead" s_law_ahead ["row"] fa fda) : FnOk P w K mg base CX0 2 f fd ["row", "low_sum", "high_sum"] spWith := by
  have G__law_ahead : FnOk P w K mg base CX0 1 fa fda ["row"] spAheadL := ok_ahead D__law_ahead.fn T
  refine F.ok sc_law_with (fun vs H Q E h => ?_) (fun cdv A outer s H vs Q E hr h => ?_)
  · obtain ⟨p, ns, lo, hi, rfl, _⟩ := h
    rfl
  · obtain ⟨p, ns, lo, hi, rfl, ⟨hp, hl⟩, hl60, k⟩ := h
    have hsl := sizeLine_eq
    have hlm : (ns.map V.int).length = ns.length := List.length_map _
    refine ⟨_, (pss_cons (ps_set (i := 3) sc_law_with.nd rfl (Or.inl rfl) (pe_call G__law_ahead (hr.mono (by first | decide | exact Nat.le_refl _)) rfl D__law_ahead.mg D__law_ahead.fn.kp D__law_ahead.bd .nil pass0 (pa_cons (pv 0) pa_nil)))
      (pss_cons (ps_set (i := 4) sc_law_with.nd rfl (Or.inl rfl) (pe_lst pa_nil))
      (pss_cons (ps_for PassesOwn.never rfl (pi_range1 (by rfl) T.b_range (pa_cons (pe_callB (cLen (K := K) rfl) (by rfl) T.b_len PyProof.Rows.Boot.«len» (pa_cons (pv 0) pa_nil)) pa_nil)) (pg_name (i := 5) sc_law_with.nd rfl (Or.inl rfl))
        (pss_one (ps_for PassesOwn.never rfl (pi_range2 (by rfl) T.b_range (pa_cons (pe_op op_add (pv 5) pe_int) (pa_cons (pe_op op_add (pe_callB (cLen (K := K) rfl) (by rfl) T.b_len PyProof.Rows.Boot.«len» (pa_cons (pv 0) pa_nil)) pe_int) pa_nil))) (pg_name (i := 6) sc_law_with.nd rfl (Or.inl rfl))
          (pss_cons (ps_set (i := 7) sc_law_with.nd rfl (Or.inl rfl) (pe_op op_sub (pe_ix (ixL (K := K) rfl) (pv 3) (pv 6) (fun _ _ => rfl)) (pe_ix (ixL (K := K) rfl) (pv 3) (pv 5) (fun _ _ => rfl))))
          (pss_one (ps_if (PW.pt (pw_and (pt_cmpR op_le (pv 1) (pv 7) (nomark _)) (pw_and1 (pt_cmpR op_le (pv 7) (pv 2) (nomark _)))))
            (pss_one (ps_expr (pe_bm PySem.F.plainAttrs_list PySem.F.slot_list_append PySem.F.type_list_append mt_append (pv 4) (pa_cons (pe_tup (pa_cons (pv 5) (pa_cons (pv 6) pa_nil))) pa_nil))))
            pss_nil))))))
      (pss_one (ps_ret (pv 4)))))), ?_⟩
    refine ⟨_, rfl, p, ns, rfl, ⟨hp, hl⟩, fun ah H1 _ hah S1 => ?_⟩
    dsimp only [gName]
    refine ⟨by show 0 ≤ sizeLine; omega, fun l hl1 => ?_⟩
    have S2 : Same H1 (upd H1 l (.lst [])) := Same.lay hl1
    dsimp only [gName]
    have hp1 := S1 _ _ hp
    refine ⟨_, rfl, p, _, rfl, .inr (SqT.of (S2 _ _ hp1)), _, rfl, by omega, by omega, for_range (n := ((ns.map V.int).length : Int).toNat) (fun i σ H' => ∃ (v5 v6 v7 : Option V) (xs : List V), σ = [some (.ref p), some (.int lo), some (.int hi), some (.ref ah), some (.ref l), v5, v6, v7] ∧ H' l = some (.lst xs) ∧ TupsAt g2 H' xs ((prsTo ns.length i).filter (hb ns (wb lo hi))) ∧ xs.length ≤ i * 1000 ∧ Same H1 H') ?_ ?_ ?_⟩
    · exact ⟨none, none, none, [], rfl, upd_same, TupsAt.nil, by simp, S2⟩
    · rintro i σ H' hi' ⟨v5, v6, v7, xs, rfl, ha, ht, hx, S'⟩
      dsimp only [gName]
      refine ⟨_, rfl, _, _, rfl, rfl, _, rfl, p, _, rfl, .inr (SqT.of (S' _ _ hp1)), _, _, rfl, rfl, _, _, rfl, ⟨by omega, by omega, by omega, by omega⟩, ?_⟩
      have ej : ((((ns.map V.int).length : Int) + 1) - (0 + (i : Int) + 1)).toNat = ns.length - i := by omega
      rw [ej]
      refine for_range (fun j σ H' => ∃ (v6 v7 : Option V) (xs : List V), σ = [some (.ref p), some (.int lo), some (.int hi), some (.ref ah), some (.ref l), some (.int (0 + (i : Int))), v6, v7] ∧ H' l = some (.lst xs) ∧ TupsAt g2 H' xs ((prsTo ns.length i ++ from1 i j).filter (hb ns (wb lo hi))) ∧ xs.length ≤ i * 1000 + j ∧ Same H1 H') ?_ ?_ ?_
      · exact ⟨v6, v7, xs, rfl, ha, by simpa [from1] using ht, by omega, S'⟩
      · rintro j σ H2 hj ⟨v6, v7, xs, rfl, ha, ht, hx, S'⟩
        have hij : i + 1 + j ≤ ns.length := by omega
        have e1 : (0 : Int) + (i : Int) = ((i : Nat) : Int) := by omega
        have e2 : (0 : Int) + (i : Int) + 1 + (j : Int) = ((i + 1 + j : Nat) : Int) := by omega
        have at1 : atI ((psums ns ns.length).map V.int) (0 + (i : Int) + 1 + (j : Int)) = some (.int (psum ns (i + 1 + j))) := by rw [e2]; exact atI_nat (by rw [List.getElem?_map, psums_get ns _ _ hij]; rfl)
        have at2 : atI ((psums ns ns.length).map V.int) (0 + (i : Int)) = some (.int (psum ns i)) := by rw [e1]; exact atI_nat (by rw [List.getElem?_map, psums_get ns _ _ (by omega)]; rfl)
        have hah2 := S' _ _ hah
        dsimp only [gName]
        refine ⟨_, rfl, _, rfl, ah, _, _, _, rfl, rfl, SqL.of hah2, at1, _, rfl, _, rfl, ah, _, _, _, rfl, rfl, SqL.of hah2, at2, _, _, rfl, rfl, ?_⟩
        dsimp only [gName]
        have hno : ∀ (v6' v7' : Option V), hb ns (wb lo hi) (i, i + 1 + j) = false → ∃ (v6 v7 : Option V) (xs : List V), [some (V.ref p), some (.int lo), some (.int hi), some (.ref ah), some (.ref l), some (.int (0 + (i : Int))), v6', v7'] = [some (.ref p), some (.int lo), some (.int hi), some (.ref ah), some (.ref l), some (.int (0 + (i : Int))), v6, v7] ∧ H2 l = some (.lst xs) ∧ TupsAt g2 H2 xs ((prsTo ns.length i ++ from1 i (j + 1)).filter (hb ns (wb lo hi))) ∧ xs.length ≤ i * 1000 + (j + 1) ∧ Same H1 H2 := fun v6' v7' hf =>
          ⟨v6', v7', xs, rfl, ha, by rw [from1_succ, ← List.append_assoc, filt_snoc, hf]; simpa using ht, by omega, S'⟩
        have hbd : hb ns (wb lo hi) (i, i + 1 + j) = (decide (lo ≤ psum ns (i + 1 + j) - psum ns i) && decide (psum ns (i + 1 + j) - psum ns i ≤ hi)) := rfl
        refine ⟨_, rfl, _, rfl, _, _, rfl, rfl, _, rfl, ite2 (fun c1 => ⟨_, rfl, _, rfl, _, _, rfl, rfl, _, rfl, ite2 (fun c2 => ?_) (fun c2 => ?_)⟩) (fun c1 => iteF ?_)⟩
        · have hf : hb ns (wb lo hi) (i, i + 1 + j) = true := by
            rw [hbd, Bool.and_eq_true]
            exact ⟨c1, c2⟩
          refine ⟨_, rfl, .inl ⟨rfl, _, SqL.of ha⟩, _, rfl, _, rfl, by show 2 ≤ sizeLine; decide, fun tp hna => ⟨l, xs, _, rfl, rfl, (upd_ne (ne_of_none ha hna)).trans ha, size_lt (by omega), ?_⟩⟩
          refine ⟨_, _, xs ++ [.ref tp], rfl, upd_same, ?_, by rw [List.length_append]; simp only [List.length_cons, List.length_nil]; omega, ?_⟩
          · rw [from1_succ, ← List.append_assoc, filt_snoc, hf]
            refine TupsAt.snoc (ht.mono fun b zs e => ?_) ?_
            · rw [upd_ne (ne_of e ha (by intro z; cases z)), upd_ne (ne_of_none e hna)]; exact e
            · rw [upd_ne (Ne.symm (ne_of_none ha hna)), upd_same, e2, e1]; rfl
          · exact fun b o e => by rw [upd_ne (ne_of_none e hl1), upd_ne (ne_of_none (S' b o e) hna)]; exact S' b o e
        · refine hno _ _ ?_
          rw [hbd, Bool.and_eq_false_iff]
          exact .inr (Bool.not_eq_true _ |>.mp c2)
        · refine hno _ _ ?_
          rw [hbd, Bool.and_eq_false_iff]
          exact .inl (Bool.not_eq_true _ |>.mp c1)
      · rintro σ H2 ⟨v6, v7, xs, rfl, ha, ht, hx, S'⟩
        exact ⟨_, _, _, xs, rfl, ha, by rw [prsTo_succ]; exact ht, by omega, S'⟩
    · rintro σ H' ⟨v5, v6, v7, xs, rfl, ha, ht, hx, S'⟩
      have e : (((ns.map V.int).length : Int)).toNat = ns.length := by omega
      rw [e] at ht
      exact ⟨_, rfl, k l xs H' (S1.free hl1) ha ht (S1.trans S')⟩
abbrev s_law_total : Stmt := top 17
theorem sc_law_total : FnScope ["script", "at", "row", "low"] ["script", "at", "row"] (defScope s_law_total) := ⟨rfl, rfl, rfl, by decide +kernel, rfl, by decide +kernel, by decide +kernel⟩
theorem ok_total {f fw fn : Addr} {fd fdw fdn : FuncData} (F : Fun K "_law_total" "_law_total" s_law_total f fd) (T : Txt mg) (D__law_draw : DefAt K mg "_law_draw" s_law_draw ["script", "k"] fw fdw) (D__law_number : DefAt K mg "_law_number" s_law_number ["script", "at", "most"] fn fdn) : FnOk P w K mg base CX0 3 f fd ["script", "at", "row"] (spTotD K) := by
  have G__law_draw : FnOk P w K mg base CX0 1 fw fdw ["script", "k"] (spDraw K) := ok_draw D__law_draw.fn T
  have G__law_number : FnOk P w K mg base CX0 2 fn fdn ["script", "at", "most"] (spNumD K) := ok_number D__law_number.fn T D__law_draw
  refine F.ok sc_law_total (fun vs H Q E h => ?_) (fun cdv A outer s H vs Q E hr h => ?_)
  · obtain ⟨a, p, scr, at', ns, rfl, _⟩ := h
    rfl
  · obtain ⟨a, p, scr, at', ns, rfl, hS, a0, a1, ⟨hp, hl⟩, k⟩ := h
    have hu := hr.units0
    have hsl := sizeLine_eq
    refine ⟨_, (pss_cons (ps_if (PW.pt (pw_and (pt_cmpR (oNe (K := K) rfl true hu) (pv 2) (pe_tup pa_nil) (nomark _)) (pw_and1 (pt_cmpR op_gt (pe_op op_mod (pe_call G__law_draw (hr.mono (by first | decide | exact Nat.le_refl _)) rfl D__law_draw.mg D__law_draw.fn.kp D__law_draw.bd .nil pass0 (pa_cons (pv 0) (pa_cons (pv 1) pa_nil))) pe_int) pe_int (nomark _)))))
        (pss_cons (ps_set (i := 3) sc_law_total.nd rfl (Or.inl rfl) (pe_op op_mod (pe_call G__law_draw (hr.mono (by first | decide | exact Nat.le_refl _)) rfl D__law_draw.mg D__law_draw.fn.kp D__law_draw.bd .nil pass0 (pa_cons (pv 0) (pa_cons (pe_op op_add (pv 1) pe_int) pa_nil))) (pe_callB (cLen (K := K) rfl) (by rfl) T.b_len PyProof.Rows.Boot.«len» (pa_cons (pv 2) pa_nil))))
        (pss_one (ps_ret (pe_callB (cSum (K := K) rfl rfl true) (by rfl) T.b_sum PyProof.Rows.Boot.«sum» (pa_cons (pe_slice slTB (pv 2) (po_some (pv 3)) (po_some (pe_op op_add (pe_op op_add (pv 3) pe_int) (pe_op op_mod (pe_call G__law_draw (hr.mono (by first | decide | exact Nat.le_refl _)) rfl D__law_draw.mg D__law_draw.fn.kp D__law_draw.bd .nil pass0 (pa_cons (pv 0) (pa_cons (pe_op op_add (pv 1) pe_int) pa_nil))) (pe_op op_sub (pe_callB (cLen (K := K) rfl) (by rfl) T.b_len PyProof.Rows.Boot.«len» (pa_cons (pv 2) pa_nil)) (pv 3)))))) pa_nil)))))
        pss_nil)
      (pss_cons (ps_if (pt_cmpR op_eq (pe_op op_mod (pe_call G__law_draw (hr.mono (by first | decide | exact Nat.le_refl _)) rfl D__law_draw.mg D__law_draw.fn.kp D__law_draw.bd .nil pass0 (pa_cons (pv 0) (pa_cons (pe_op op_add (pv 1) pe_int) pa_nil))) pe_int) pe_int (nomark _))
        (pss_one (ps_ret (pe_call G__law_number (hr.mono (by first | decide | exact Nat.le_refl _)) rfl D__law_number.mg D__law_number.fn.kp D__law_number.bd .nil pass0 (pa_cons (pv 0) (pa_cons (pe_op op_add (pv 1) pe_int) (pa_cons pe_int pa_nil))))))
        pss_nil)
      (pss_one (ps_ret (pe_op op_sub (pe_op op_mod (pe_call G__law_draw (hr.mono (by first | decide | exact Nat.le_refl _)) rfl D__law_draw.mg D__law_draw.fn.kp D__law_draw.bd .nil pass0 (pa_cons (pv 0) (pa_cons (pe_op op_add (pv 1) pe_int) pa_nil))) pe_int) pe_int))))), ?_⟩
    refine ⟨_, rfl, by show 0 ≤ sizeLine; omega, fun e0 he0 => ?_⟩
    have S1 : Same H (upd H e0 (.tup [])) := Same.lay he0
    have he01 : upd H e0 (.tup []) e0 = some (.tup []) := upd_same
    generalize upd H e0 (.tup []) = H1 at S1 he01
    refine ⟨p, e0, _, [], rfl, rfl, SqT.of (S1 _ _ hp), SqT.of he01, flat_ints ns, rfl, _, rfl, ite2 (fun e => ?_) (fun e => iteF ?_)⟩
    focus
      have hns : 0 < ns.length := by
        cases ns with
        | nil => exact absurd e (by decide)
        | cons _ _ => simp
      refine ⟨_, rfl, _, rfl, a, scr, at', rfl, hS.same S1, a0, by omega, fun r1 H2 _ _ S2 => ⟨_, _, rfl, rfl, (by show (0 : Int) < _; decide), _, _, rfl, rfl, _, rfl, ite2 (fun e1 => ?_) (fun e1 => ?_)⟩⟩
      focus
        have Z2 := S1.trans S2
        refine ⟨_, rfl, _, rfl, _, _, rfl, rfl, a, scr, _, rfl, hS.same Z2, by omega, by omega, fun r2 H3 _ _ S3 => ⟨_, rfl, p, _, rfl, .inr (SqT.of (S3 _ _ (Z2 _ _ hp))), _, _, rfl, rfl, (by show (0 : Int) < _; rw [List.length_map]; omega), ?_⟩⟩
        rw [List.length_map]
        have ⟨l0, l1⟩ := mod_lt r2 (ns.length : Int) (by omega)
        dsimp only [gName]
        generalize r2 % (ns.length : Int) = lo at l0 l1
        have Z3 := Z2.trans S3
        refine ⟨_, rfl, _, rfl, _, rfl, _, rfl, _, _, rfl, rfl, _, rfl, _, rfl, _, _, rfl, rfl, a, scr, _, rfl, hS.same Z3, by omega, by omega, fun r3 H4 _ _ S4 => ?_⟩
        have Z4 := Z3.trans S4
        refine ⟨_, rfl, p, _, rfl, .inr (SqT.of (Z4 _ _ hp)), _, rfl, _, _, rfl, rfl, _, _, rfl, rfl, (by show (0 : Int) < _; rw [List.length_map]; omega), _, _, rfl, rfl, _, rfl, p, _, rfl, Z4 _ _ hp, fun z H5 S5 hz => ⟨z, cutL ns _ _, rfl, SqT.of (by rw [← cutV_map]; exact hz), k _ _ (Z4.trans S5)⟩⟩
      obtain ⟨Hx, hHx⟩ : ∃ Hx, H2 = Hx := ⟨_, rfl⟩
      have Zx : Same H Hx := hHx ▸ S1.trans S2
      rw [hHx]
    rotate_left
    focus
      obtain ⟨Hx, hHx⟩ : ∃ Hx, H1 = Hx := ⟨_, rfl⟩
      have Zx : Same H Hx := hHx ▸ S1
      rw [hHx]
    all_goals
      refine ⟨_, rfl, _, rfl, _, _, rfl, rfl, a, scr, _, rfl, hS.same Zx, by omega, by omega, fun r4 H4 _ _ S4 => ⟨_, _, rfl, rfl, (by show (0 : Int) < _; decide), rfl, _, rfl, ite2 (fun e => ?_) (fun e => ?_)⟩⟩
      · exact ⟨_, rfl, _, rfl, _, _, rfl, rfl, a, scr, _, 14, rfl, hS.same (Zx.trans S4), by omega, by omega, by decide, by decide, fun r H5 S5 => k _ _ ((Zx.trans S4).trans S5)⟩
      · exact ⟨_, rfl, _, rfl, _, _, rfl, rfl, a, scr, _, rfl, hS.same (Zx.trans S4), by omega, by omega, fun r5 H5 _ _ S5 => ⟨_, _, rfl, rfl, (by show (0 : Int) < _; decide), _, _, rfl, rfl, k _ _ ((Zx.trans S4).trans S5)⟩⟩
end
end My

namespace My
open PySem L2
abbrev eqT (tot : Int) : Int → Bool := fun s => decide (s = tot)
theorem wb_eqT (tot : Int) : wb tot tot = eqT tot := by
  funext s
  show (decide (tot ≤ s) && decide (s ≤ tot)) = decide (s = tot)
  rw [Bool.eq_iff_iff, Bool.and_eq_true, decide_eq_true_iff, decide_eq_true_iff, decide_eq_true_iff]
  omega
theorem map_take_succ' {α β : Type} (f : α → β) {l : List α} {i : Nat} {x : α} (h : l[i]? = some x) : (l.take (i + 1)).map f = (l.take i).map f ++ [f x] := by
  rw [List.take_add_one, h, List.map_append]; rfl
/-! ### points, stretches apart: what is asked -/
def inB (n : Nat) (x : Int) : Bool := decide (0 ≤ x) && decide (x < (n : Int))
def upB : List Int → Bool
  | x :: y :: r => decide (x < y) && upB (y :: r)
  | _ => true
def upBz (pts : List Int) : Bool := ((pts.zip (pts.drop 1)).map fun p => decide (p.1 < p.2)).all id
theorem upB_zip : ∀ pts : List Int, upBz pts = upB pts
  | [] => rfl
  | [x] => rfl
  | x :: y :: r => by
    have ih := upB_zip (y :: r)
    unfold upBz at ih ⊢
    unfold upB
    rw [← ih]
    rfl
def areB (n : Nat) (pts : List Int) : Bool := (pts.map (inB n)).all id && upBz pts
def hitB (pts : List Int) (pr : Nat × Nat) : Bool := (pts.map fun x => decide ((pr.1 : Int) ≤ x) && decide (x < (pr.2 : Int))).any id
def pointsB (ns : List Int) (tot : Int) (pts : List Int) : Bool := areB ns.length pts && ((hitsBy ns (eqT tot)).map (hitB pts)).all id
def PtsAt (H : Hp) (q : Addr) (pts : List Int) : Prop := H q = some (.tup (pts.map V.int)) ∧ pts.length ≤ 100000
def spHit : Sp := fun vs H Q _ => ∃ (t q : Addr) (pr : Nat × Nat) (pts : List Int), vs = [.ref t, .ref q] ∧ H t = some (.tup (g2 pr)) ∧ PtsAt H q pts ∧ ∀ H', Same H H' → Q (.bl (hitB pts pr)) H'
def spAre : Sp := fun vs H Q _ => ∃ (p q : Addr) (ns pts : List Int), vs = [.ref p, .ref q] ∧ RowAt H p ns ∧ PtsAt H q pts ∧ ∀ H', Same H H' → Q (.bl (areB ns.length pts)) H'
def spPoints : Sp := fun vs H Q _ => ∃ (p q : Addr) (ns : List Int) (tot : Int) (pts : List Int), vs = [.ref p, .int tot, .ref q] ∧ RowAt H p ns ∧ ns.length ≤ 60 ∧ PtsAt H q pts ∧ ∀ H', Same H H' → Q (.bl (pointsB ns tot pts)) H'
def gI (p : Int × Int) : List V := [.int p.1, .int p.2]
section
variable {P : Program} {w : World} {K : PySem.W.Frag} {mg : Str → Option Value} {base : Heap}
abbrev s_is_hit : Stmt := top 10
theorem sc_is_hit : FnScope ["stretch", "points", "low", "high"] ["stretch", "points"] (defScope s_is_hit) := ⟨rfl, rfl, rfl, by decide +kernel, rfl, by decide +kernel, by decide +kernel⟩
theorem ok_is_hit {f : Addr} {fd : FuncData} (F : Fun K "is_hit" "is_hit" s_is_hit f fd) (T : Txt mg) : FnOk P w K mg base CX0 1 f fd ["stretch", "points"] spHit := by
  refine F.ok sc_is_hit (fun vs H Q E h => ?_) (fun cdv A outer s H vs Q E hr h => ?_)
  · obtain ⟨t, q, pr, pts, rfl, _⟩ := h
    rfl
  · obtain ⟨t, q, pr, pts, rfl, ht, ⟨hq, hl⟩, k⟩ := h
    refine ⟨_, (pss_cons (ps_asg (pv 0) (pgT (K := K) (n := 2) rfl rfl (pgs_cons (pg_name (i := 2) sc_is_hit.nd rfl (Or.inr rfl)) (pgs_cons (pg_name (i := 3) sc_is_hit.nd rfl (Or.inr rfl)) pgs_nil))))
      (pss_one (ps_ret (pe_callB (call_any rfl) (by rfl) T.b_any PyProof.Rows.Boot.«any» (pa_cons (pe_comp (N := ["point", "low", "high"]) (cap := [none, some 2, some 3]) rfl (show blkOk ["stretch", "points", "low", "high"] (defScope s_is_hit) ["point", "low", "high"] [none, some 2, some 3] _ = true by decide +kernel) (piT (K := K) rfl (pv 1)) (fun cl C s3 H3 fp => ⟨(pg_name (i := 0) (show (["point", "low", "high"] : List Str).Nodup by decide +kernel) rfl (Or.inl rfl)), pts_nil, fun it acc => (paf_emit rfl (pe_chain op_le op_lt (pv 1) (pv 0) (pv 2)))⟩)) pa_nil))))), ?_⟩
    refine ⟨_, rfl, t, _, rfl, SqT.of ht, rfl, _, _, rfl, _, _, rfl, rfl, ?_⟩
    dsimp only [gName]
    refine ⟨_, rfl, q, rfl, ⟨_, SqT.of hq⟩, fun acc hacc => ?_⟩
    refine walk_tup (xs := pts.map V.int) (fun i σ H' => ∃ v : Option V, σ = [v, some (.int (pr.1 : Int)), some (.int (pr.2 : Int))] ∧ H' acc = some (.lst (((pts.take i).map fun x => decide ((pr.1 : Int) ≤ x) && decide (x < (pr.2 : Int))).map V.bl)) ∧ Same H H') ⟨none, rfl, upd_same, Same.lay hacc⟩ ?_ ?_ ?_
    · rintro i σ H1 hi ⟨v, rfl, ha, S1⟩
      exact SqT.of (S1 _ _ hq)
    · rintro i x σ H1 hx ⟨v, rfl, ha, S1⟩
      obtain ⟨n, hn, rfl⟩ : ∃ n, pts[i]? = some n ∧ V.int n = x := by rw [List.getElem?_map] at hx; exact Option.map_eq_some_iff.mp hx
      have hi : i < pts.length := (List.getElem?_eq_some_iff.mp hn).1
      have fin : ∀ b : Bool, b = (decide ((pr.1 : Int) ≤ n) && decide (n < (pr.2 : Int))) → ∃ xs, H1 acc = some (.lst xs) ∧ xs.length < sizeLine ∧ ∃ v : Option V, ([some (.int n), some (.int (pr.1 : Int)), some (.int (pr.2 : Int))] : St) = [v, some (.int (pr.1 : Int)), some (.int (pr.2 : Int))] ∧ upd H1 acc (.lst (xs ++ [.bl b])) acc = some (.lst (((pts.take (i + 1)).map fun x => decide ((pr.1 : Int) ≤ x) && decide (x < (pr.2 : Int))).map V.bl)) ∧ Same H (upd H1 acc (.lst (xs ++ [.bl b]))) := fun b hb =>
        ⟨_, ha, size_lt (by rw [List.length_map, List.length_map, List.length_take]; omega), _, rfl, by rw [upd_same, map_take_succ' _ hn, List.map_append, hb]; rfl, fun b o e => by rw [upd_ne (ne_of_none e hacc)]; exact S1 _ _ e⟩
      refine ⟨_, rfl, _, rfl, _, _, rfl, rfl, _, rfl, ite2 (fun e => ⟨_, rfl, _, _, rfl, rfl, fin _ ?_⟩) (fun e => fin _ ?_)⟩
      · rw [show decide ((pr.1 : Int) ≤ n) = true from e, Bool.true_and]
      · rw [show decide ((pr.1 : Int) ≤ n) = false from Bool.not_eq_true _ |>.mp e, Bool.false_and]
    · rintro σ H1 ⟨v, rfl, ha, S1⟩
      rw [List.length_map, List.take_length] at ha
      exact ⟨acc, _, rfl, ha, k H1 S1⟩
abbrev s_are_points : Stmt := top 9
theorem sc_are_points : FnScope ["row", "points", "within"] ["row", "points"] (defScope s_are_points) := ⟨rfl, rfl, rfl, by decide +kernel, rfl, by decide +kernel, by decide +kernel⟩
theorem cut_drop1 (xs : List V) : cutV xs (some 1) none = xs.drop 1 := by
  cases xs with
  | nil => rfl
  | cons x r =>
    unfold cutV HT.sIx
    simp
theorem zip_at {pts : List Int} {i : Nat} {x y : Int} (h1 : pts[i]? = some x) (h2 : (pts.drop 1)[i]? = some y) : (pts.zip (pts.drop 1))[i]? = some (x, y) := by
  rw [List.getElem?_zip_eq_some]
  exact ⟨h1, h2⟩
theorem ok_are_points {f : Addr} {fd : FuncData} (F : Fun K "are_points" "are_points" s_are_points f fd) (T : Txt mg) : FnOk P w K mg base CX0 1 f fd ["row", "points"] spAre := by
  refine F.ok sc_are_points (fun vs H Q E h => ?_) (fun cdv A outer s H vs Q E hr h => ?_)
  · obtain ⟨p, q, ns, pts, rfl, _⟩ := h
    rfl
  · obtain ⟨p, q, ns, pts, rfl, ⟨hp, hl⟩, ⟨hq, hlq⟩, k⟩ := h
    have hlm : (ns.map V.int).length = ns.length := List.length_map _
    refine ⟨_, (pss_cons (ps_set (i := 2) sc_are_points.nd rfl (Or.inl rfl) (pe_callB (call_all rfl) (by rfl) T.b_all PyProof.Rows.Boot.«all» (pa_cons (pe_comp (N := ["point", "row"]) (cap := [none, some 0]) rfl (show blkOk ["row", "points", "within"] (defScope s_are_points) ["point", "row"] [none, some 0] _ = true by decide +kernel) (piT (K := K) rfl (pv 1)) (fun cl C s3 H3 fp => ⟨(pg_name (i := 0) (show (["point", "row"] : List Str).Nodup by decide +kernel) rfl (Or.inl rfl)), pts_nil, fun it acc => (paf_emit rfl (pe_chain op_le op_lt pe_int (pv 0) (pe_callB (cLen (K := K) rfl) (by rfl) T.b_len PyProof.Rows.Boot.«len» (pa_cons (pv 1) pa_nil))))⟩)) pa_nil)))
      (pss_one (ps_ret (pe_and (pv 2) (pe_one (pe_callB (call_all rfl) (by rfl) T.b_all PyProof.Rows.Boot.«all» (pa_cons (pe_comp (N := ["point", "after"]) (cap := [none, none]) rfl (show blkOk ["row", "points", "within"] (defScope s_are_points) ["point", "after"] [none, none] _ = true by decide +kernel) (piZ (K := K) rfl true true (by rfl) T.b_zip (pa_cons (pv 1) (pa_cons (pe_slice slTB (pv 1) (po_some pe_int) po_none) pa_nil))) (fun cl C s3 H3 fp => ⟨(pgT (K := K) (n := 2) rfl rfl (pgs_cons (pg_name (i := 0) (show (["point", "after"] : List Str).Nodup by decide +kernel) rfl (Or.inl rfl)) (pgs_cons (pg_name (i := 1) (show (["point", "after"] : List Str).Nodup by decide +kernel) rfl (Or.inl rfl)) pgs_nil))), pts_nil, fun it acc => (paf_emit rfl (pe_cmpR op_lt (pv 0) (pv 1) (nomark _)))⟩)) pa_nil))))))), ?_⟩
    refine ⟨_, rfl, q, rfl, ⟨_, SqT.of hq⟩, fun acc hacc => ?_⟩
    refine walk_tup (xs := pts.map V.int) (fun i σ H' => ∃ v : Option V, σ = [v, some (.ref p)] ∧ H' acc = some (.lst (((pts.take i).map (inB ns.length)).map V.bl)) ∧ Same H H') ⟨none, rfl, upd_same, Same.lay hacc⟩ ?_ ?_ ?_
    · rintro i σ H1 hi ⟨v, rfl, ha, S1⟩
      exact SqT.of (S1 _ _ hq)
    · rintro i x σ H1 hx ⟨v, rfl, ha, S1⟩
      obtain ⟨n, hn, rfl⟩ : ∃ n, pts[i]? = some n ∧ V.int n = x := by rw [List.getElem?_map] at hx; exact Option.map_eq_some_iff.mp hx
      have hi : i < pts.length := (List.getElem?_eq_some_iff.mp hn).1
      have fin : ∀ b : Bool, b = inB ns.length n → ∃ xs, H1 acc = some (.lst xs) ∧ xs.length < sizeLine ∧ ∃ v : Option V, ([some (.int n), some (.ref p)] : St) = [v, some (.ref p)] ∧ upd H1 acc (.lst (xs ++ [.bl b])) acc = some (.lst (((pts.take (i + 1)).map (inB ns.length)).map V.bl)) ∧ Same H (upd H1 acc (.lst (xs ++ [.bl b]))) := fun b hb =>
        ⟨_, ha, size_lt (by rw [List.length_map, List.length_map, List.length_take]; omega), _, rfl, by rw [upd_same, map_take_succ' _ hn, List.map_append, hb]; rfl, fun b o e => by rw [upd_ne (ne_of_none e hacc)]; exact S1 _ _ e⟩
      refine ⟨_, rfl, _, _, rfl, rfl, _, rfl, ite2 (fun e => ⟨_, rfl, p, _, rfl, .inr (SqT.of (S1 _ _ hp)), _, _, rfl, rfl, fin _ ?_⟩) (fun e => fin _ ?_)⟩
      · unfold inB
        rw [show decide ((0 : Int) ≤ n) = true from e, Bool.true_and, hlm]
      · unfold inB
        rw [show decide ((0 : Int) ≤ n) = false from Bool.not_eq_true _ |>.mp e, Bool.false_and]
    rintro σ H1 ⟨v, rfl, ha, S1⟩
    rw [List.length_map, List.take_length] at ha
    refine ⟨acc, _, rfl, ha, ?_⟩
    dsimp only [gName]
    refine ⟨_, rfl, _, rfl, ite2 (fun e => ?_) (fun e => ?_)⟩
    · refine ⟨_, rfl, _, rfl, 1, rfl, q, _, rfl, S1 _ _ hq, fun cu H2 S2 hcu => ?_⟩
      rw [cut_drop1, ← List.map_drop] at hcu
      refine ⟨q, cu, _, _, rfl, SqT.of (S2 _ _ (S1 _ _ hq)), SqT.of hcu, fun acc2 hacc2 => ?_⟩
      refine walk_zip (xs := pts.map V.int) (ys := (pts.drop 1).map V.int) (fun i σ H' => ∃ v1 v2 : Option V, σ = [v1, v2] ∧ H' acc2 = some (.lst ((((pts.zip (pts.drop 1)).take i).map fun p => decide (p.1 < p.2)).map V.bl)) ∧ Same H2 H') ⟨none, none, rfl, upd_same, Same.lay hacc2⟩ ?_ ?_ ?_
      · rintro i σ H3 hi ⟨v1, v2, rfl, ha2, S3⟩
        exact ⟨SqT.of (S3 _ _ (S2 _ _ (S1 _ _ hq))), SqT.of (S3 _ _ hcu)⟩
      · rintro i x y tp σ H3 hx hy htp ⟨v1, v2, rfl, ha2, S3⟩
        obtain ⟨n, hn, rfl⟩ : ∃ n, pts[i]? = some n ∧ V.int n = x := by rw [List.getElem?_map] at hx; exact Option.map_eq_some_iff.mp hx
        obtain ⟨m, hm, rfl⟩ : ∃ m, (pts.drop 1)[i]? = some m ∧ V.int m = y := by rw [List.getElem?_map] at hy; exact Option.map_eq_some_iff.mp hy
        have hi : i < pts.length := (List.getElem?_eq_some_iff.mp hn).1
        have hap : acc2 ≠ tp := ne_of_none ha2 htp
        refine ⟨tp, _, rfl, SqT.of upd_same, rfl, _, _, rfl, _, _, rfl, rfl, ?_⟩
        refine ⟨_, rfl, _, rfl, _, _, rfl, rfl, _, (upd_ne hap).trans ha2, size_lt (by rw [List.length_map, List.length_map, List.length_take]; omega), _, _, rfl, ?_, ?_⟩
        · rw [upd_same, map_take_succ' _ (zip_at hn hm), List.map_append]; rfl
        · exact fun b o e => by rw [upd_ne (ne_of_none e hacc2), upd_ne (ne_of_none (S3 _ _ e) htp)]; exact S3 _ _ e
      · rintro σ H3 ⟨v1, v2, rfl, ha2, S3⟩
        rw [List.length_map, List.length_map, ← List.length_zip, List.take_length] at ha2
        refine ⟨acc2, _, rfl, ha2, ?_⟩
        have e' : areB ns.length pts = upBz pts := by unfold areB; rw [e, Bool.true_and]
        have z := k H3 ((S1.trans S2).trans S3)
        rw [e'] at z
        exact z
    · have e' : areB ns.length pts = false := by unfold areB; rw [Bool.not_eq_true _ |>.mp e, Bool.false_and]
      exact e' ▸ k H1 S1
abbrev s_points_shown : Stmt := top 8
theorem sc_points_shown : FnScope ["row", "total", "points"] ["row", "total", "points"] (defScope s_points_shown) := ⟨rfl, rfl, rfl, by decide +kernel, rfl, by decide +kernel, by decide +kernel⟩
theorem ok_points_shown {f f1 f2 f3 : Addr} {fd fd1 fd2 fd3 : FuncData} (F : Fun K "points_shown" "points_shown" s_points_shown f fd) (T : Txt mg) (D_are_points : DefAt K mg "are_points" s_are_points ["row", "points"] f1 fd1) (D_is_hit : DefAt K mg "is_hit" s_is_hit ["stretch", "points"] f2 fd2)
    (D_all_with : DefAt K mg "all_with" s_all_with ["row", "total"] f3 fd3) (G_all_with : FnOk P w K mg base CX0 3 f3 fd3 ["row", "total"] spAll) : FnOk P w K mg base CX0 4 f fd ["row", "total", "points"] spPoints := by
  have G_are_points : FnOk P w K mg base CX0 1 f1 fd1 ["row", "points"] spAre := ok_are_points D_are_points.fn T
  have G_is_hit : FnOk P w K mg base CX0 1 f2 fd2 ["stretch", "points"] spHit := ok_is_hit D_is_hit.fn T
  refine F.ok sc_points_shown (fun vs H Q E h => ?_) (fun cdv A outer s H vs Q E hr h => ?_)
  · obtain ⟨p, q, ns, tot, pts, rfl, _⟩ := h
    rfl
  · obtain ⟨p, q, ns, tot, pts, rfl, ⟨hp, hl⟩, _, ⟨hq, hlq⟩, k⟩ := h
    refine ⟨_, (pss_cons (ps_if (pt_not (pt_val (pe_call G_are_points (hr.mono (by first | decide | exact Nat.le_refl _)) rfl D_are_points.mg D_are_points.fn.kp D_are_points.bd .nil pass0 (pa_cons (pv 0) (pa_cons (pv 2) pa_nil)))))
        (pss_one (ps_ret pe_bl))
        pss_nil)
      (pss_one (ps_ret (pe_callB (call_all rfl) (by rfl) T.b_all PyProof.Rows.Boot.«all» (pa_cons (pe_comp (N := ["stretch", "points"]) (cap := [none, some 2]) rfl (show blkOk ["row", "total", "points"] (defScope s_points_shown) ["stretch", "points"] [none, some 2] _ = true by decide +kernel) (piL (K := K) rfl (pe_call G_all_with (hr.mono (by first | decide | exact Nat.le_refl _)) rfl D_all_with.mg D_all_with.fn.kp D_all_with.bd .nil pass0 (pa_cons (pv 0) (pa_cons (pv 1) pa_nil)))) (fun cl C s3 H3 fp => ⟨(pg_name (i := 0) (show (["stretch", "points"] : List Str).Nodup by decide +kernel) rfl (Or.inl rfl)), pts_nil, fun it acc => (paf_emit rfl (pe_call G_is_hit (hr.mono (by first | decide | exact Nat.le_refl _)) rfl D_is_hit.mg D_is_hit.fn.kp D_is_hit.bd .nil pass0 (pa_cons (pv 0) (pa_cons (pv 1) pa_nil))))⟩)) pa_nil))))), ?_⟩
    refine ⟨_, rfl, _, rfl, p, q, ns, pts, rfl, ⟨hp, hl⟩, ⟨hq, hlq⟩, fun H1 S1 => ⟨_, rfl, ?_⟩⟩
    cases ea : areB ns.length pts with
    | false =>
      have e' : pointsB ns tot pts = false := by unfold pointsB; rw [ea, Bool.false_and]
      exact iteT (e' ▸ k H1 S1)
    | true =>
      refine iteF ?_
      refine ⟨_, rfl, _, rfl, p, ns, tot, rfl, ⟨S1 _ _ hp, hl⟩, fun q2 xs H2 _ hq2 ht S2 => ⟨q2, rfl, ⟨_, SqL.of hq2⟩, fun acc hacc => ?_⟩⟩
      have plen : (hitsBy ns (eqT tot)).length ≤ 1000000 := Nat.le_trans (List.length_filter_le _ _) (prs_len ns.length hl)
      refine walk_list (xs := xs) (fun i σ H' => ∃ v : Option V, σ = [v, some (.ref q)] ∧ H' acc = some (.lst ((((hitsBy ns (eqT tot)).take i).map (hitB pts)).map V.bl)) ∧ Same H2 H') ⟨none, rfl, upd_same, Same.lay hacc⟩ ?_ ?_ ?_
      · rintro i σ HA _ ⟨v, rfl, ha, SA⟩
        exact SqL.of (SA _ _ hq2)
      · rintro i y σ HA hy' ⟨v, rfl, ha, SA⟩
        have hi : i < (hitsBy ns (eqT tot)).length := by rw [← ht.1]; exact (List.getElem?_eq_some_iff.mp hy').1
        have hg := List.getElem?_eq_getElem hi
        obtain ⟨a, e1, e2⟩ := ht.2 i _ hg
        rw [hy'] at e1
        have e1 : y = .ref a := Option.some.inj e1
        subst e1
        refine ⟨_, rfl, _, rfl, a, q, _, pts, rfl, SA _ _ e2, ⟨SA _ _ (S2 _ _ (S1 _ _ hq)), hlq⟩, fun HB SB => ⟨_, SB _ _ ha, size_lt (by rw [List.length_map, List.length_map, List.length_take]; omega), _, rfl, ?_, ?_⟩⟩
        · rw [upd_same, map_take_succ' _ hg, List.map_append]; rfl
        · exact fun c o e => by rw [upd_ne (ne_of_none e hacc)]; exact SB _ _ (SA c o e)
      · rintro σ HA ⟨v, rfl, ha, SA⟩
        rw [ht.1, List.take_length] at ha
        refine ⟨acc, _, rfl, ha, ?_⟩
        have e' : pointsB ns tot pts = ((hitsBy ns (eqT tot)).map (hitB pts)).all id := by unfold pointsB; rw [ea, Bool.true_and]
        exact e' ▸ k HA ((S1.trans S2).trans SA)
end
end My

namespace My
open PySem L2
/-! ### the mathematics of partings -/
structure Hits (n : Nat) (hs : List (Nat × Nat)) : Prop where
  sorted : hs.Pairwise pLt
  mem : ∀ p ∈ hs, p.1 < p.2 ∧ p.2 ≤ n
theorem Hits.tail {n : Nat} {p : Nat × Nat} {t : List (Nat × Nat)} (h : Hits n (p :: t)) : Hits n t := ⟨(List.pairwise_cons.mp h.sorted).2, fun q hq => h.mem q (List.mem_cons_of_mem _ hq)⟩
theorem Hits.head {n : Nat} {p : Nat × Nat} {t : List (Nat × Nat)} (h : Hits n (p :: t)) {q : Nat × Nat} (hq : q ∈ t) : p.1 ≤ q.1 := by
  rcases (List.pairwise_cons.mp h.sorted).1 q hq with z | z
  · omega
  · omega
def evl (hs : List (Nat × Nat)) (l : Nat) : List Nat := (hs.filter fun p => decide (p.1 = l)).map (·.2)
theorem evl_mem {n : Nat} {hs : List (Nat × Nat)} (h : Hits n hs) {l x : Nat} (hx : x ∈ evl hs l) : l < x ∧ x ≤ n ∧ (l, x) ∈ hs := by
  obtain ⟨q, hq, rfl⟩ := List.mem_map.mp hx
  obtain ⟨hq', e⟩ := List.mem_filter.mp hq
  have e : q.1 = l := of_decide_eq_true e
  have := h.mem q hq'
  subst e
  exact ⟨this.1, this.2, hq'⟩
/-! ### from the begin on -/
/-! ### the first parting -/
end My

namespace L2
open PySem PySem.Spec PyProof.Rows
/-- a def of the top that makes a lambda, as a caller wants it -/
structure DefAtC (K : PySem.W.Frag) (mg : Str → Option Value) (x : Str) (st : Stmt) (ps : List Str) (f : Addr) (fd : FuncData) (c P : Addr) : Prop where
  fn : FunC K x x st f fd c P
  mg : mg x = some (.ref f)
  bd : Binds K fd ps []
/-- the table of a def with one lambda, ahead of the first call or behind it -/
def TabAt (pos : Pos) (qual : Str) (P : Addr) (H : Hp) : Prop := H P = some (.tbl #[]) ∨ ∃ c, H P = some (.tbl (tab1 pos c)) ∧ H c = some (CodeO c qual)
def Kq (l : Addr) (H H' : Hp) : Prop := ∀ b o, H b = some o → b ≠ l → H' b = some o
theorem TabAt.ne {pos : Pos} {qual : Str} {P b : Addr} {H : Hp} {o : HO} (h : TabAt pos qual P H) (hb : H b = some o) (ho : ∀ ps, o ≠ .tbl ps) : b ≠ P := by
  rintro rfl
  rcases h with h | ⟨c, h, _⟩
  · rw [hb] at h; cases h; exact ho _ rfl
  · rw [hb] at h; cases h; exact ho _ rfl
theorem TabAt.keep {pos : Pos} {qual : Str} {P : Addr} {H H' : Hp} (h : TabAt pos qual P H) (s : Same H H') : TabAt pos qual P H' := by
  rcases h with h | ⟨c, h1, h2⟩
  · exact .inl (s _ _ h)
  · exact .inr ⟨c, s _ _ h1, s _ _ h2⟩
theorem tLam_of {pos : Pos} {qual : Str} {P : Addr} {fd : Addr → Value → FuncData} {σ : St} {H : Hp} {Q : VK} (h : TabAt pos qual P H)
    (k : ∀ f c ct H', H f = none → H' f = some (LamO f (fd c ct)) → H' c = some (CodeO c qual) → H' P = some (.tbl (tab1 pos c)) → Kq P H H' → Q (.ref f) H') : tLam P pos qual fd σ H Q := by
  rcases h with h | ⟨c, h1, h2⟩
  · refine .inl ⟨h, fun f c ct hf hc n => ?_⟩
    have nP : P ≠ f := ne_of_none h hf
    have nPc : P ≠ c := ne_of_none h hc
    refine k f c ct _ hf upd_same (by rw [upd_ne (Ne.symm n), upd_same]) (by rw [upd_ne nP, upd_ne nPc, upd_same]) fun b o e nb => ?_
    rw [upd_ne (ne_of_none e hf), upd_ne (ne_of_none e hc), upd_ne nb]; exact e
  · refine .inr ⟨c, h1, h2, fun f ct hf => ?_⟩
    refine k f c ct _ hf upd_same (by rw [upd_ne (ne_of_none h2 hf)]; exact h2) (by rw [upd_ne (ne_of_none h1 hf)]; exact h1) fun b o e nb => ?_
    rw [upd_ne (ne_of_none e hf)]; exact e
/-! the parts of a lambda in the text -/
def lamA (e : Expr) : Arguments := match e with
  | .Lambda a _ _ _ => a
  | _ => ⟨[], [], none, [], [], none, []⟩
def lamB (e : Expr) : Expr := match e with
  | .Lambda _ b _ _ => b
  | _ => e
def lamS (e : Expr) (d : Scope) : Scope := match e with
  | .Lambda _ _ s _ => s
  | _ => d
def lamP (e : Expr) : Pos := match e with
  | .Lambda _ _ _ p => p
  | _ => ⟨0, 0, 0, 0⟩
end L2
namespace My
open PySem L2
/-- all is kept but what stands at l -/
def Kp (l : Addr) (H H' : Hp) : Prop := ∀ b o, H b = some o → b ≠ l → H' b = some o
theorem Kp.refl {l : Addr} (H : Hp) : Kp l H H := fun _ _ h _ => h
theorem Kp.trans {l : Addr} {H H1 H2 : Hp} (a : Kp l H H1) (b : Kp l H1 H2) : Kp l H H2 := fun x o h n => b x o (a x o h n) n
theorem Kp.of {l : Addr} {H H' : Hp} (s : Same H H') : Kp l H H' := fun b o h _ => s b o h
theorem Kp.wr {l : Addr} {H H' : Hp} {o : HO} (s : Kp l H H') : Kp l H (upd H' l o) := fun b o' h n => by rw [upd_ne n]; exact s b o' h n
theorem Kp.lay {l p : Addr} {H H' : Hp} {o : HO} (s : Kp l H H') (h : H' p = none) : Kp l H (upd H' p o) := fun b o' e n => by rw [upd_ne (ne_of_none (s b o' e n) h)]; exact s b o' e n
/-- the list at l was new -/
theorem Kp.same {l : Addr} {H H1 H' : Hp} (s : Same H H1) (h : H l = none) (k : Kp l H1 H') : Same H H' := fun b o e => k b o (s b o e) (ne_of_none e h)
theorem Kp.tups {α : Type} {g : α → List V} {l : Addr} {H H' : Hp} {xs ys : List V} {ps : List α} (k : Kp l H H') (hl : H l = some (.lst ys)) (h : TupsAt g H xs ps) : TupsAt g H' xs ps := h.mono fun a zs e => k a _ e (ne_of e hl (by intro z; cases z))
theorem iteN {c A B : Prop} [Decidable c] (h : ¬ c) (hB : B) : if c then A else B := by rw [if_neg h]; exact hB
end My

namespace My
open PySem L2
/-! ### what the best stretches apart are worth -/
/-- from the place m on -/
def BstFrom (n : Nat) (hs : List (Nat × Nat)) (wf : Nat × Nat → Int) (f : Nat → Int) (m : Nat) : Prop := f n = 0 ∧ ∀ p, m ≤ p → p < n → f (p + 1) ≤ f p ∧ (∀ x ∈ evl hs p, wf (p, x) + f x ≤ f p) ∧ (f p = f (p + 1) ∨ ∃ x ∈ evl hs p, f p = wf (p, x) + f x)
/-- one place more -/
theorem BstFrom.step {n : Nat} {hs : List (Nat × Nat)} {wf : Nat × Nat → Int} {f : Nat → Int} {m : Nat} (HO : Hits n hs) (h : BstFrom n hs wf f (m + 1)) (hm : m < n) {z : Int} (h1 : f (m + 1) ≤ z) (h2 : ∀ x ∈ evl hs m, wf (m, x) + f x ≤ z) (h3 : z = f (m + 1) ∨ ∃ x ∈ evl hs m, z = wf (m, x) + f x) :
    BstFrom n hs wf (updf f m z) m := by
  have keep : ∀ j, m < j → updf f m z j = f j := fun j hj => by unfold updf; rw [if_neg (by omega)]
  refine ⟨by rw [keep n hm]; exact h.1, fun p hp hpn => ?_⟩
  rw [keep (p + 1) (by omega)]
  by_cases e : p = m
  · subst e
    have e1 : updf f p z p = z := by unfold updf; rw [if_pos rfl]
    rw [e1]
    refine ⟨h1, fun x hx => ?_, ?_⟩
    · rw [keep x (evl_mem HO hx).1]; exact h2 x hx
    · rcases h3 with h | ⟨x, hx, h⟩
      · exact .inl h
      · exact .inr ⟨x, hx, by rw [keep x (evl_mem HO hx).1]; exact h⟩
  · obtain ⟨g1, g2, g3⟩ := h.2 p (by omega) hpn
    rw [keep p (by omega)]
    refine ⟨g1, fun x hx => ?_, ?_⟩
    · have := (evl_mem HO hx).1
      rw [keep x (by omega)]; exact g2 x hx
    · rcases g3 with h | ⟨x, hx, h⟩
      · exact .inl h
      · have := (evl_mem HO hx).1
        exact .inr ⟨x, hx, by rw [keep x (by omega)]; exact h⟩
theorem BstFrom.none (n : Nat) (hs : List (Nat × Nat)) (wf : Nat × Nat → Int) : BstFrom n hs wf (fun _ => 0) n := ⟨rfl, fun p h1 h2 => by omega⟩
/-- from the begin on, up to the place m -/
def FwdTo (hs : List (Nat × Nat)) (wf : Nat × Nat → Int) (g : Nat → Int) (m : Nat) : Prop := g 0 = 0 ∧ ∀ p, p < m → g p ≤ g (p + 1) ∧ (∀ l, (l, p + 1) ∈ hs → wf (l, p + 1) + g l ≤ g (p + 1)) ∧ (g (p + 1) = g p ∨ ∃ l, (l, p + 1) ∈ hs ∧ g (p + 1) = wf (l, p + 1) + g l)
theorem FwdTo.step {n : Nat} {hs : List (Nat × Nat)} {wf : Nat × Nat → Int} {g : Nat → Int} {m : Nat} (HO : Hits n hs) (h : FwdTo hs wf g m) {z : Int} (h1 : g m ≤ z) (h2 : ∀ l, (l, m + 1) ∈ hs → wf (l, m + 1) + g l ≤ z) (h3 : z = g m ∨ ∃ l, (l, m + 1) ∈ hs ∧ z = wf (l, m + 1) + g l) :
    FwdTo hs wf (updf g (m + 1) z) (m + 1) := by
  have keep : ∀ j, j ≤ m → updf g (m + 1) z j = g j := fun j hj => by unfold updf; rw [if_neg (by omega)]
  refine ⟨by rw [keep 0 (Nat.zero_le _)]; exact h.1, fun p hp => ?_⟩
  rw [keep p (by omega)]
  by_cases e : p = m
  · subst e
    have e1 : updf g (p + 1) z (p + 1) = z := by unfold updf; rw [if_pos rfl]
    rw [e1]
    refine ⟨h1, fun l hl => ?_, ?_⟩
    · have := (HO.mem _ hl).1
      rw [keep l (by simp only at this; omega)]; exact h2 l hl
    · rcases h3 with h | ⟨l, hl, h⟩
      · exact .inl h
      · have := (HO.mem _ hl).1
        exact .inr ⟨l, hl, by rw [keep l (by simp only at this; omega)]; exact h⟩
  · obtain ⟨g1, g2, g3⟩ := h.2 p (by omega)
    rw [keep (p + 1) (by omega)]
    refine ⟨g1, fun l hl => ?_, ?_⟩
    · have := (HO.mem _ hl).1
      rw [keep l (by simp only at this; omega)]; exact g2 l hl
    · rcases g3 with h | ⟨l, hl, h⟩
      · exact .inl h
      · have := (HO.mem _ hl).1
        exact .inr ⟨l, hl, by rw [keep l (by simp only at this; omega)]; exact h⟩
end My

namespace My
open PySem L2
/-! ### the most stretches apart -/
section
variable {n : Nat} {hs : List (Nat × Nat)} {f : Nat → Int}
end
end My

namespace My
open PySem L2
/-! ### points that hit -/
theorem hitsOk (ns : List Int) (tot : Int) : Hits ns.length (hitsBy ns (eqT tot)) := ⟨hitsBy_sorted _ _, fun _ h => hitsBy_mem h⟩
/-- stretches apart of hs, by whose last places every one of hs is hit -/
def Grd (hs ds : List (Nat × Nat)) : Prop := (∀ d ∈ ds, d ∈ hs) ∧ ds.Pairwise (fun a b => a.2 ≤ b.1) ∧ ∀ h ∈ hs, ∃ d ∈ ds, h.1 < d.2 ∧ d.2 ≤ h.2
def ptsOf (ds : List (Nat × Nat)) : List Int := ds.map fun d => (d.2 : Int) - 1
theorem Grd.perm {hs hs' ds : List (Nat × Nat)} (h : Grd hs ds) (p : hs.Perm hs') : Grd hs' ds := ⟨fun d hd => p.mem_iff.mp (h.1 d hd), h.2.1, fun x hx => h.2.2 x (p.mem_iff.mpr hx)⟩
theorem keyed_hits {H : Hp} {xs : List V} {hs : List (Nat × Nat)} (ht : TupsAt g2 H xs hs) {ps : List (List Int × V)} (ko : KeyOut (hs.map fun p => [(p.2 : Int)]) xs ps) :
    ∃ es : List (Nat × Nat), es.Perm hs ∧ TupsAt g2 H (ps.map (·.2)) es ∧ es.Pairwise (fun a b => a.2 ≤ b.2) := by
  have pr : Paired (fun (h : Nat × Nat) (q : List Int × V) => q.1 = [(h.2 : Int)] ∧ ∃ a, q.2 = .ref a ∧ H a = some (.tup (g2 h))) hs ((hs.map fun p => [(p.2 : Int)]).zip xs) := by
    have hl : hs.length = ((hs.map fun p => [(p.2 : Int)]).zip xs).length := by rw [List.length_zip, List.length_map, ht.1]; omega
    refine paired_ix hl fun i q hq => ?_
    rw [List.getElem?_zip_eq_some] at hq
    obtain ⟨h1, h2⟩ := hq
    rw [List.getElem?_map] at h1
    obtain ⟨p, hp, e⟩ := Option.map_eq_some_iff.mp h1
    obtain ⟨a, e1, e2⟩ := ht.2 i p hp
    rw [h2] at e1
    exact ⟨p, hp, e.symm, a, Option.some.inj e1, e2⟩
  obtain ⟨es, p1, p2⟩ := Paired.perm ko.1 pr
  refine ⟨es, p2, ⟨by rw [List.length_map, Paired.length p1], fun i p hp => ?_⟩, ?_⟩
  · obtain ⟨q, hq, _, a, e1, e2⟩ := Paired.at' p1 hp
    exact ⟨a, by rw [List.getElem?_map, hq]; exact congrArg some e1, e2⟩
  · have e : ps.map (·.1) = es.map fun h => [(h.2 : Int)] := by
      clear ko pr p2 ht
      induction p1 with
      | nil => rfl
      | cons r t ih => rw [List.map_cons, List.map_cons, ih, r.1]
    have pw := (List.pairwise_map (f := fun q : List Int × V => q.1) (R := leC)).mpr ko.2
    rw [e] at pw
    refine (List.pairwise_map.mp pw).imp fun {a b} h => ?_
    unfold leC at h
    rw [lex1] at h
    have := of_decide_eq_false h
    omega
/-- what the loop has made of the first ones -/
theorem grd_step {es ds : List (Nat × Nat)} {i : Nat} {p : Nat × Nat} (hp : es[i]? = some p) (h : Grd (es.take i) ds) (hb : ds = [] ∨ ∃ ds' d, ds = ds' ++ [d] ∧ d.2 ≤ p.1) (hlt : p.1 < p.2) (hm : ∀ d ∈ es, d.1 < d.2) : Grd (es.take (i + 1)) (ds ++ [p]) := by
  have et : es.take (i + 1) = es.take i ++ [p] := by rw [List.take_add_one, hp]; rfl
  rw [et]
  refine ⟨fun d hd => ?_, ?_, fun x hx => ?_⟩
  · rcases List.mem_append.mp hd with z | z
    · exact List.mem_append_left _ (h.1 d z)
    · exact List.mem_append_right _ z
  · refine List.pairwise_append.mpr ⟨h.2.1, by simp, fun a ha b hb' => ?_⟩
    have e : b = p := by simpa using hb'
    subst e
    rcases hb with rfl | ⟨ds', d, rfl, hd⟩
    · simp at ha
    · rcases List.mem_append.mp ha with z | z
      · have := (List.pairwise_append.mp h.2.1).2.2 a z d (by simp)
        have := hm d (List.mem_of_mem_take (h.1 d (by simp)))
        omega
      · have e : a = d := by simpa using z
        subst e; exact hd
  · rcases List.mem_append.mp hx with z | z
    · obtain ⟨d, hd, q⟩ := h.2.2 x z
      exact ⟨d, List.mem_append_left _ hd, q⟩
    · have e : x = p := by simpa using z
      subst e
      exact ⟨x, by simp, hlt, Nat.le_refl _⟩
theorem grd_skip {es ds' : List (Nat × Nat)} {d : Nat × Nat} {i : Nat} {p : Nat × Nat} (hp : es[i]? = some p) (h : Grd (es.take i) (ds' ++ [d])) (hl : p.1 < d.2) (so : es.Pairwise (fun a b => a.2 ≤ b.2)) : Grd (es.take (i + 1)) (ds' ++ [d]) := by
  have et : es.take (i + 1) = es.take i ++ [p] := by rw [List.take_add_one, hp]; rfl
  have hle : d.2 ≤ p.2 := by
    have hd := h.1 d (by simp)
    have pw : (es.take (i + 1)).Pairwise (fun a b => a.2 ≤ b.2) := so.sublist (List.take_sublist _ _)
    rw [et] at pw
    exact (List.pairwise_append.mp pw).2.2 d hd p (by simp)
  rw [et]
  refine ⟨fun x hx => List.mem_append_left _ (h.1 x hx), h.2.1, fun x hx => ?_⟩
  rcases List.mem_append.mp hx with z | z
  · exact h.2.2 x z
  · have e : x = p := by simpa using z
    subst e
    exact ⟨d, by simp, hl, hle⟩
abbrev s_points_of : Stmt := top 7
def lam_points_of : Expr := match defBody s_points_of with
  | _ :: .For _ (.Call _ _ (⟨_, l, _⟩ :: _) _) _ _ _ :: _ => l
  | _ => .Name "x" ⟨0, 0, 0, 0⟩
abbrev q_points_of : Str := ("points_of" ++ ".<locals>.") ++ "<lambda>"
abbrev TabP (P : Addr) (H : Hp) : Prop := TabAt (lamP lam_points_of) q_points_of P H
def spPts (P : Addr) : Sp := fun vs H Q _ => ∃ (p : Addr) (ns : List Int) (tot : Int), vs = [.ref p, .int tot] ∧ RowAt H p ns ∧ TabP P H ∧
  ∀ q ds H', Grd (hitsBy ns (eqT tot)) ds → H' q = some (.tup ((ptsOf ds).map V.int)) → Kp P H H' → TabP P H' → Q (.ref q) H'
section
variable {P : Program} {w : World} {K : PySem.W.Frag} {mg : Str → Option Value} {base : Heap}
theorem sc_points_of : FnScope ["row", "total", "points", "low", "high"] ["row", "total"] (defScope s_points_of) := ⟨rfl, rfl, rfl, by decide +kernel, rfl, by decide +kernel, by decide +kernel⟩
theorem ok_points_of {f fa c T0 : Addr} {fd fda : FuncData} (F : FunC K "points_of" "points_of" s_points_of f fd c T0) (T : Txt mg) (BM : BmAt mg base)
    (D_all_with : DefAt K mg "all_with" s_all_with ["row", "total"] fa fda) (G_all_with : FnOk P w K mg base CX0 3 fa fda ["row", "total"] spAll) : FnOk P w K mg base CX0 5 f fd ["row", "total"] (spPts T0) := by
  refine F.ok sc_points_of (fun vs H Q E h => ?_) (fun A outer s H vs Q E hr h => ?_)
  · obtain ⟨p, ns, tot, rfl, _⟩ := h
    rfl
  · obtain ⟨p, ns, tot, rfl, ⟨hp, hl⟩, hT, k⟩ := h
    have hr2 := hr.in1.in1
    obtain ⟨cl, e0, cl1, cl2⟩ := lam_cls (env := PyProof.Rows.envOfC "points_of" (defScope s_points_of) s.heap.objs.size f (.ref c)) (outer := defScope s_points_of) (scope := lamS lam_points_of (defScope s_points_of)) (n := s.heap.objs.size + 1) rfl (by decide +kernel)
    refine ⟨_, (pss_cons (ps_set (i := 2) sc_points_of.nd rfl (Or.inl rfl) (pe_lst pa_nil))
      (pss_cons (ps_for PassesOwn.never rfl (piL (K := K) rfl (pe_callBKS (cSortC (y := "stretch") (Nc := []) (cap := []) (cl := cl) (name := "<lambda>") (qual := q_points_of) (params := lamA lam_points_of) (body := lamB lam_points_of) (scope := lamS lam_points_of (defScope s_points_of)) (pm := (mg "__name__").getD .none) (argL (K := K) rfl) (scI _) vi_mono ⟨(show blkOk ["row", "total", "points", "low", "high"] (defScope s_points_of) [] [] _ = true by decide +kernel), rfl, rfl, rfl, e0, cl1, cl2⟩ hr2 (fun _ _ _ => rfl) (fun _ _ _ _ => (pe_ix (ixT (K := K) rfl) (pv 0) pe_int (fun _ _ => rfl)))) (by rfl) T.b_sorted PyProof.Rows.Boot.«sorted» (pa_cons (pe_call G_all_with (hr.mono (by first | decide | exact Nat.le_refl _)) rfl D_all_with.mg D_all_with.fn.kp D_all_with.bd .nil pass0 (pa_cons (pv 0) (pa_cons (pv 1) pa_nil))) pa_nil) (pk_cons (pe_lamC rfl F.hd BM e0) pk_nil))) (pgT (K := K) (n := 2) rfl rfl (pgs_cons (pg_name (i := 3) sc_points_of.nd rfl (Or.inl rfl)) (pgs_cons (pg_name (i := 4) sc_points_of.nd rfl (Or.inl rfl)) pgs_nil)))
        (pss_one (ps_if (PW.pt (pw_or (pt_not (pt_lst (pv 2))) (pw_or1 (pt_cmpR op_lt (pe_ix (ixL (K := K) rfl) (pv 2) (pe_un un_neg pe_int) (fun _ _ => rfl)) (pv 3) (nomark _)))))
          (pss_one (ps_expr (pe_bm PySem.F.plainAttrs_list PySem.F.slot_list_append PySem.F.type_list_append mt_append (pv 2) (pa_cons (pe_op op_sub (pv 4) pe_int) pa_nil))))
          pss_nil)))
      (pss_one (ps_ret (pe_callTy (cTuple (K := K) rfl) (by rfl) T.b_tuple PyProof.Rows.Boot.«tuple» (pa_cons (pv 2) pa_nil)))))), ?_⟩
    have HO := hitsOk ns tot
    have plen : (hitsBy ns (eqT tot)).length ≤ 1000000 := Nat.le_trans (List.length_filter_le _ _) (prs_len ns.length hl)
    refine ⟨by show 0 ≤ sizeLine; decide, fun l hl' => ?_⟩
    have S1 := Same.lay (o := .lst []) hl'
    have eL : upd H l (.lst []) l = some (.lst []) := upd_same
    generalize upd H l (.lst []) = H1 at S1 eL
    dsimp only [gName]
    refine ⟨_, rfl, _, rfl, p, ns, tot, rfl, ⟨S1 _ _ hp, hl⟩, fun q2 xs H2 hqn2 hq2 ht S2 => ?_⟩
    have S12 := S1.trans S2
    have T2 := hT.keep S12
    dsimp -proj only [tNil, tCons]
    refine tLam_of T2 fun fl c' ct H3 hfn hl3 hc3 hP3 K3 => ?_
    have nT : ∀ b o, H2 b = some o → (∀ ps, o ≠ .tbl ps) → H3 b = some o := fun b o e n => K3 b o e (T2.ne e n)
    have hq3 := nT _ _ hq2 (by intro ps z; cases z)
    have ht3 : TupsAt g2 H3 xs (hitsBy ns (eqT tot)) := ht.mono fun a zs e => nT _ _ e (by intro ps z; cases z)
    have eL3 := nT _ _ (S2 _ _ eL) (by intro ps z; cases z)
    refine ⟨.ref q2, fl, c', ct, xs, (hitsBy ns (eqT tot)).map (fun p => [(p.2 : Int)]), rfl, rfl, ⟨q2, rfl, SqL.of hq3, by rw [ht3.1]; exact plen⟩, hl3, hc3, by rw [ht3.1]; exact plen, by rw [List.length_map, ht3.1], ?_, ?_⟩
    · intro i x c H' hx hc S'
      rw [List.getElem?_map] at hc
      obtain ⟨⟨lo, hi⟩, hpr, rfl⟩ := Option.map_eq_some_iff.mp hc
      obtain ⟨a, e1, e2⟩ := ht3.2 i _ hpr
      rw [hx] at e1
      have e1 : x = .ref a := Option.some.inj e1
      subst e1
      exact ⟨_, rfl, a, _, _, _, rfl, rfl, SqT.of (S' _ _ e2), rfl, ⟨(hi : Int), rfl, rfl⟩, Same.refl _⟩
    · intro q3 ps H4 hqn3 hqn4 S4 ko
      obtain ⟨es, pe, hes, so⟩ := keyed_hits ht3 ko
      have lenE : es.length = (hitsBy ns (eqT tot)).length := pe.length_eq
      have mE : ∀ d ∈ es, d.1 < d.2 ∧ d.2 ≤ ns.length := fun d hd => HO.mem d (pe.mem_iff.mp hd)
      have nl : l ≠ q3 := ne_of_none eL3 hqn3
      refine ⟨q3, rfl, ⟨_, SqL.of upd_same⟩, ?_⟩
      have S5 := Same.lay (o := .lst (ps.map (·.2))) hqn4
      have eq5 : upd H4 q3 (.lst (ps.map (·.2))) q3 = some (.lst (ps.map (·.2))) := upd_same
      generalize upd H4 q3 (.lst (ps.map (·.2))) = H5 at S5 eq5
      have S35 := S4.trans S5
      have eL5 := S35 _ _ eL3
      have hes5 : TupsAt g2 H5 (ps.map (·.2)) es := hes.mono fun a zs e => S35 _ _ e
      refine for_list (xs := ps.map (·.2)) (fun i σ H' => ∃ (v3 v4 : Option V) (ds : List (Nat × Nat)), σ = [some (.ref p), some (.int tot), some (.ref l), v3, v4] ∧ H' l = some (.lst ((ptsOf ds).map V.int)) ∧ Grd (es.take i) ds ∧ ds.length ≤ i ∧ Kp l H5 H') ?_ ?_ ?_ ?_
      · exact ⟨none, none, [], rfl, eL5, ⟨fun d hd => by simp at hd, by simp, fun h hh => by simp at hh⟩, Nat.le_refl _, Kp.refl _⟩
      · rintro i σ H' _ ⟨v3, v4, ds, rfl, _, _, _, k'⟩
        exact SqL.of (k' _ _ eq5 (Ne.symm nl))
      · rintro i x σ H' hx ⟨v3, v4, ds, rfl, ha, hg, hdl, k'⟩
        have hi : i < es.length := by rw [← hes5.1]; exact (List.getElem?_eq_some_iff.mp hx).1
        obtain ⟨a, e1, e2⟩ := (k'.tups eL5 hes5).2 i _ (List.getElem?_eq_getElem hi)
        rw [hx] at e1
        have e1 : x = .ref a := Option.some.inj e1
        subst e1
        obtain ⟨⟨lo, hi'⟩, hpr⟩ : ∃ pr, es[i] = pr := ⟨_, rfl⟩
        rw [hpr] at e2
        have hgt : es[i]? = some (lo, hi') := by rw [List.getElem?_eq_getElem hi, hpr]
        obtain ⟨m1, m2⟩ : lo < hi' ∧ hi' ≤ ns.length := mE (lo, hi') (by rw [← hpr]; exact List.getElem_mem hi)
        have mm : ∀ d ∈ es, d.1 < d.2 := fun d hd => (mE d hd).1
        refine ⟨a, _, rfl, SqT.of e2, rfl, _, _, rfl, _, _, rfl, rfl, ?_⟩
        dsimp only [gName]
        have add : (ds = [] ∨ ∃ ds' d, ds = ds' ++ [d] ∧ d.2 ≤ lo) → ∃ (v3 v4 : Option V) (ds2 : List (Nat × Nat)), ([some (.ref p), some (.int tot), some (.ref l), some (.int (lo : Int)), some (.int (hi' : Int))] : St) = [some (.ref p), some (.int tot), some (.ref l), v3, v4] ∧ upd H' l (.lst ((ptsOf ds).map V.int ++ [.int ((hi' : Int) - 1)])) l = some (.lst ((ptsOf ds2).map V.int)) ∧ Grd (es.take (i + 1)) ds2 ∧ ds2.length ≤ i + 1 ∧ Kp l H5 (upd H' l (.lst ((ptsOf ds).map V.int ++ [.int ((hi' : Int) - 1)]))) := fun hb =>
          ⟨_, _, ds ++ [(lo, hi')], rfl, by rw [upd_same]; unfold ptsOf; rw [List.map_append, List.map_append]; rfl, grd_step hgt hg hb m1 mm, by rw [List.length_append]; simp only [List.length_cons, List.length_nil]; omega, k'.wr⟩
        have sz : ((ptsOf ds).map V.int).length < sizeLine := size_lt (by unfold ptsOf; rw [List.length_map, List.length_map]; omega)
        rcases List.eq_nil_or_concat ds with rfl | ⟨ds', d, rfl⟩
        · exact ⟨_, rfl, l, _, rfl, ha, iteT (iteT ⟨_, rfl, .inl ⟨rfl, _, SqL.of ha⟩, _, rfl, _, _, rfl, rfl, l, _, _, rfl, rfl, ha, sz, add (.inl rfl)⟩)⟩
        · rw [List.concat_eq_append] at ha hg hdl add sz
          have ha' : H' l = some (.lst ((ptsOf ds').map V.int ++ [.int ((d.2 : Int) - 1)])) := by rw [ha]; unfold ptsOf; rw [List.map_append, List.map_append]; rfl
          refine ⟨_, rfl, l, _, rfl, ha', iteN (by simp) ⟨_, rfl, 1, rfl, l, _, _, _, rfl, rfl, SqL.of ha', atI_last _ _, _, rfl, _, _, rfl, rfl, _, rfl, ite2 (fun e => ?_) (fun e => ?_)⟩⟩
          · have e := of_decide_eq_true e
            exact ⟨_, rfl, .inl ⟨rfl, _, SqL.of ha⟩, _, rfl, _, _, rfl, rfl, l, _, _, rfl, rfl, ha, sz, add (.inr ⟨ds', d, rfl, by omega⟩)⟩
          · rw [decide_eq_true_eq] at e
            exact ⟨_, _, ds' ++ [d], rfl, ha, grd_skip hgt hg (by show lo < d.2; omega) so, by omega, k'⟩
      · rintro σ H' ⟨v3, v4, ds, rfl, ha, hg, hdl, k'⟩
        rw [List.length_map] at hg
        have hle : es.take ps.length = es := List.take_of_length_le (by rw [← hes5.1, List.length_map]; exact Nat.le_refl _)
        rw [hle] at hg
        have nlT : l ≠ T0 := T2.ne (S2 _ _ eL) (by intro ps z; cases z)
        have hP' : H' T0 = some (.tbl (tab1 (lamP lam_points_of) c')) := k' _ _ (S35 _ _ hP3) (Ne.symm nlT)
        have hc' : H' c' = some (CodeO c' q_points_of) := k' _ _ (S35 _ _ hc3) (fun z => by subst z; rw [hc3] at eL3; cases eL3)
        refine ⟨_, rfl, l, _, rfl, .inl ⟨SqL.of ha, fun r hr' => ?_⟩⟩
        have SR := Same.lay (o := .tup ((ptsOf ds).map V.int)) hr'
        refine k r ds _ (hg.perm pe) upd_same (fun b o e n => SR _ _ (k' _ _ (S35 _ _ (K3 _ _ (S12 _ _ e) n)) (ne_of_none e hl'))) (.inr ⟨c', SR _ _ hP', SR _ _ hc'⟩)
end
end My

namespace My
open PySem L2
/-! ### chains -/
def Chn (cs : List (Nat × Nat)) : Prop := cs.Pairwise fun a b => a.2 ≤ b.1
def beh (ds : List (Nat × Nat)) (b : Nat) : Nat := (ds.filter fun d => decide (b < d.2)).length
def cnt (ds : List (Nat × Nat)) (c : Nat × Nat) : Nat := (ds.filter fun d => decide (c.1 < d.2) && decide (d.2 ≤ c.2)).length
theorem cnt_beh (ds : List (Nat × Nat)) (c : Nat × Nat) (b : Nat) (hb : b ≤ c.1) (hc : c.1 < c.2) : cnt ds c + beh ds c.2 ≤ beh ds b := by
  unfold cnt beh
  induction ds with
  | nil => simp
  | cons d t ih =>
    simp only [List.filter_cons]
    by_cases h1 : c.1 < d.2
    · by_cases h2 : d.2 ≤ c.2
      · have h3 : ¬ c.2 < d.2 := by omega
        have h4 : b < d.2 := by omega
        simp only [h1, h2, h3, h4, decide_true, decide_false, Bool.and_true, if_true, Bool.false_eq_true, if_false, List.length_cons]
        omega
      · have h3 : c.2 < d.2 := by omega
        have h4 : b < d.2 := by omega
        simp only [h1, h2, h3, h4, decide_true, decide_false, Bool.and_false, if_true, Bool.false_eq_true, if_false, List.length_cons]
        omega
    · have h3 : ¬ c.2 < d.2 := by omega
      simp only [h1, h3, decide_false, Bool.false_and, Bool.false_eq_true, if_false]
      by_cases h4 : b < d.2
      · simp only [h4, decide_true, if_true, List.length_cons]; omega
      · simp only [h4, decide_false, Bool.false_eq_true, if_false]; exact ih
theorem chn_sum {ds : List (Nat × Nat)} : ∀ (cs : List (Nat × Nat)) (b : Nat), Chn cs → (∀ c ∈ cs, b ≤ c.1 ∧ c.1 < c.2) → (cs.map (cnt ds)).sum ≤ beh ds b
  | [], b, _, _ => by simp
  | c :: t, b, hc, hm => by
    obtain ⟨h1, h2⟩ := List.pairwise_cons.mp hc
    obtain ⟨m1, m2⟩ := hm c (List.mem_cons_self ..)
    have ih := chn_sum (ds := ds) t c.2 h2 fun x hx => ⟨h1 x hx, (hm x (List.mem_cons_of_mem _ hx)).2⟩
    have := cnt_beh ds c b m1 m2
    rw [List.map_cons, List.sum_cons]
    omega
theorem beh_le (ds : List (Nat × Nat)) (b : Nat) : beh ds b ≤ ds.length := List.length_filter_le _ _
theorem sum_ones : ∀ (l : List Nat), (∀ x ∈ l, 1 ≤ x) → l.length ≤ l.sum ∧ (l.sum ≤ l.length → ∀ x ∈ l, x = 1)
  | [], _ => ⟨by simp, fun _ x hx => by simp at hx⟩
  | y :: t, h => by
    obtain ⟨h1, h2⟩ := sum_ones t fun x hx => h x (List.mem_cons_of_mem _ hx)
    have hy := h y (List.mem_cons_self ..)
    rw [List.sum_cons, List.length_cons]
    refine ⟨by omega, fun hs x hx => ?_⟩
    rcases List.mem_cons.mp hx with rfl | hx
    · omega
    · exact h2 (by omega) x hx
section
variable {n : Nat} {hs ds : List (Nat × Nat)} {f : Nat → Int}
theorem grd_cnt (g : Grd hs ds) {c : Nat × Nat} (hc : c ∈ hs) : 1 ≤ cnt ds c := by
  obtain ⟨d, hd, e1, e2⟩ := g.2.2 c hc
  unfold cnt
  exact List.length_pos_of_mem (List.mem_filter.mpr ⟨hd, by simp [e1, e2]⟩)
/-- no more are apart -/
theorem grd_max (HO : Hits n hs) (g : Grd hs ds) {cs : List (Nat × Nat)} (hc : Chn cs) (hm : ∀ c ∈ cs, c ∈ hs) : cs.length ≤ ds.length := by
  have h1 := chn_sum (ds := ds) cs 0 hc fun c hc' => ⟨Nat.zero_le _, (HO.mem c (hm c hc')).1⟩
  have h2 := (sum_ones (cs.map (cnt ds)) (fun x hx => by
    obtain ⟨c, hc', rfl⟩ := List.mem_map.mp hx
    exact grd_cnt g (hm c hc'))).1
  have h3 := beh_le ds 0
  rw [List.length_map] at h2
  omega
theorem chn_len (HO : Hits n hs) {cs : List (Nat × Nat)} (hc : Chn cs) (hm : ∀ c ∈ cs, c ∈ hs) : cs.length ≤ n := by
  have key : ∀ (cs : List (Nat × Nat)) (b : Nat), b ≤ n → Chn cs → (∀ c ∈ cs, c ∈ hs ∧ b ≤ c.1) → cs.length ≤ n - b := by
    intro cs
    induction cs with
    | nil => intro b _ _ _; simp
    | cons c t ih =>
      intro b hb hc hm
      obtain ⟨h1, h2⟩ := List.pairwise_cons.mp hc
      obtain ⟨m1, m2⟩ := hm c (List.mem_cons_self ..)
      have hin := HO.mem c m1
      have := ih c.2 hin.2 h2 fun x hx => ⟨(hm x (List.mem_cons_of_mem _ hx)).1, h1 x hx⟩
      rw [List.length_cons]
      omega
  have := key cs 0 (Nat.zero_le _) hc fun c hc' => ⟨hm c hc', Nat.zero_le _⟩
  omega
end
/-! ### points are let by -/
theorem upB_of : ∀ {pts : List Int}, pts.Pairwise (· < ·) → upB pts = true
  | [], _ => rfl
  | [_], _ => rfl
  | x :: y :: r, h => by
    obtain ⟨h1, h2⟩ := List.pairwise_cons.mp h
    unfold upB
    rw [decide_eq_true (h1 y (List.mem_cons_self ..)), upB_of h2]; rfl
theorem pointsB_of {ns : List Int} {tot : Int} {pts : List Int} (h1 : pts.Pairwise (· < ·)) (h2 : ∀ x ∈ pts, 0 ≤ x ∧ x < (ns.length : Int)) (h3 : ∀ p ∈ hitsBy ns (eqT tot), ∃ x ∈ pts, (p.1 : Int) ≤ x ∧ x < (p.2 : Int)) : pointsB ns tot pts = true := by
  unfold pointsB areB
  rw [upB_zip, upB_of h1, Bool.and_true, Bool.and_eq_true, List.all_eq_true, List.all_eq_true]
  refine ⟨fun b hb => ?_, fun b hb => ?_⟩
  · obtain ⟨x, hx, rfl⟩ := List.mem_map.mp hb
    obtain ⟨z1, z2⟩ := h2 x hx
    show inB ns.length x = true
    unfold inB
    rw [decide_eq_true z1, decide_eq_true z2]; rfl
  · obtain ⟨p, hp, rfl⟩ := List.mem_map.mp hb
    obtain ⟨x, hx, z1, z2⟩ := h3 p hp
    show hitB pts p = true
    unfold hitB
    rw [List.any_eq_true]
    exact ⟨_, List.mem_map_of_mem hx, by rw [decide_eq_true z1, decide_eq_true z2]; rfl⟩
section
variable {ns : List Int} {tot : Int} {ds : List (Nat × Nat)}
theorem pts_up (g : Grd (hitsBy ns (eqT tot)) ds) : (ptsOf ds).Pairwise (· < ·) := by
  unfold ptsOf
  rw [List.pairwise_map]
  refine List.Pairwise.imp_of_mem (fun {a b} ha hb h => ?_) g.2.1
  have := (hitsOk ns tot).mem b (g.1 b hb)
  omega
theorem pts_in (g : Grd (hitsBy ns (eqT tot)) ds) {x : Int} (hx : x ∈ ptsOf ds) : 0 ≤ x ∧ x < (ns.length : Int) := by
  unfold ptsOf at hx
  obtain ⟨d, hd, rfl⟩ := List.mem_map.mp hx
  have := (hitsOk ns tot).mem d (g.1 d hd)
  omega
theorem pts_hit (g : Grd (hitsBy ns (eqT tot)) ds) {p : Nat × Nat} (hp : p ∈ hitsBy ns (eqT tot)) : ∃ x ∈ ptsOf ds, (p.1 : Int) ≤ x ∧ x < (p.2 : Int) := by
  obtain ⟨d, hd, e1, e2⟩ := g.2.2 p hp
  exact ⟨(d.2 : Int) - 1, List.mem_map_of_mem (f := fun d : Nat × Nat => (d.2 : Int) - 1) hd, by omega, by omega⟩
theorem pts_shown (g : Grd (hitsBy ns (eqT tot)) ds) : pointsB ns tot (ptsOf ds) = true := pointsB_of (pts_up g) (fun x hx => pts_in g hx) fun p hp => pts_hit g hp
/-! turned about -/
end
end My

namespace My
open PySem L2
/-! ### the most apart, counted from the left -/
structure Lmx (n : Nat) (hs : List (Nat × Nat)) (bs : List Int) : Prop where
  zero : bs[0]? = some 0
  len : bs.length = n + 1
  mono : ∀ (h : Nat) (x y : Int), bs[h]? = some x → bs[h + 1]? = some y → x ≤ y
  take : ∀ (l h : Nat) (x y : Int), (l, h + 1) ∈ hs → bs[l]? = some x → bs[h + 1]? = some y → x + 1 ≤ y
  from' : ∀ (h : Nat) (x y : Int), bs[h]? = some x → bs[h + 1]? = some y → y = x ∨ ∃ l z, (l, h + 1) ∈ hs ∧ bs[l]? = some z ∧ y = z + 1
section
variable {n : Nat} {hs : List (Nat × Nat)} {bs : List Int}
theorem Lmx.at (L : Lmx n hs bs) {h : Nat} (hh : h ≤ n) : ∃ x, bs[h]? = some x := ⟨_, List.getElem?_eq_getElem (by rw [L.len]; omega)⟩
theorem Lmx.up (L : Lmx n hs bs) : ∀ (d h : Nat) (x y : Int), h + d ≤ n → bs[h]? = some x → bs[h + d]? = some y → x ≤ y
  | 0, h, x, y, _, hx, hy => by rw [Nat.add_zero, hx] at hy; cases hy; exact Int.le_refl _
  | d + 1, h, x, y, hd, hx, hy => by
    obtain ⟨z, hz⟩ := L.at (h := h + d) (by omega)
    have h1 := L.up d h x z (by omega) hx hz
    have h2 := L.mono (h + d) z y hz hy
    omega
theorem Lmx.ge (L : Lmx n hs bs) (hH : ∀ c ∈ hs, c.1 < c.2 ∧ c.2 ≤ n) : ∀ (k : Nat) (cs : List (Nat × Nat)) (h : Nat) (x : Int), cs.length = k → h ≤ n → Chn cs → (∀ c ∈ cs, c ∈ hs ∧ c.2 ≤ h) → bs[h]? = some x → (k : Int) ≤ x
  | 0, cs, h, x, _, hh, _, _, hx => by
    have := L.up h 0 0 x (by omega) L.zero (by rw [Nat.zero_add]; exact hx)
    simpa using this
  | k + 1, cs, h, x, hl, hh, hc, hm, hx => by
    have hne : cs ≠ [] := fun e => by rw [e] at hl; simp at hl
    obtain ⟨ini, c, rfl⟩ : ∃ ini c, cs = ini ++ [c] := ⟨cs.dropLast, cs.getLast hne, (List.dropLast_concat_getLast hne).symm⟩
    obtain ⟨l, e⟩ := c
    obtain ⟨c1, c2⟩ := hm (l, e) (by simp)
    obtain ⟨c3, c4⟩ := hH _ c1
    dsimp only at c2 c3 c4
    have hil : ini.length = k := by rw [List.length_append] at hl; simp at hl; exact hl
    have hp := List.pairwise_append.mp hc
    obtain ⟨z, hz⟩ := L.at (h := l) (by omega)
    have ih := L.ge hH k ini l z hil (by omega) hp.1 (fun d hd => ⟨(hm d (List.mem_append_left _ hd)).1, hp.2.2 d hd (l, e) (by simp)⟩) hz
    obtain ⟨e', rfl⟩ : ∃ e', e = e' + 1 := ⟨e - 1, by omega⟩
    obtain ⟨y, hy⟩ := L.at (h := e' + 1) (by omega)
    have h1 := L.take l e' z y c1 hz hy
    have h2 := L.up (h - (e' + 1)) (e' + 1) y x (by omega) hy (by rw [show e' + 1 + (h - (e' + 1)) = h by omega]; exact hx)
    omega
theorem Lmx.ex (L : Lmx n hs bs) (hH : ∀ c ∈ hs, c.1 < c.2 ∧ c.2 ≤ n) : ∀ (m h : Nat) (x : Int), h ≤ m → h ≤ n → bs[h]? = some x → ∃ cs, Chn cs ∧ (∀ c ∈ cs, c ∈ hs ∧ c.2 ≤ h) ∧ (cs.length : Int) = x
  | m, 0, x, _, _, hx => by
    rw [L.zero] at hx; cases hx
    exact ⟨[], List.Pairwise.nil, fun c hc => by simp at hc, rfl⟩
  | 0, h + 1, x, hm, _, hx => by omega
  | m + 1, h + 1, x, hm, hh, hx => by
    obtain ⟨z, hz⟩ := L.at (h := h) (by omega)
    rcases L.from' h z x hz hx with rfl | ⟨l, y, hl, hy, rfl⟩
    · obtain ⟨cs, c1, c2, c3⟩ := L.ex hH m h x (by omega) (by omega) hz
      exact ⟨cs, c1, fun c hc => ⟨(c2 c hc).1, Nat.le_succ_of_le (c2 c hc).2⟩, c3⟩
    · obtain ⟨q1, q2⟩ := hH _ hl
      dsimp only at q1 q2
      obtain ⟨cs, c1, c2, c3⟩ := L.ex hH m l y (by omega) (by omega) hy
      refine ⟨cs ++ [(l, h + 1)], ?_, fun c hc => ?_, ?_⟩
      · refine List.pairwise_append.mpr ⟨c1, List.pairwise_singleton .., fun a ha b hb => ?_⟩
        rw [List.mem_singleton.mp hb]
        exact (c2 a ha).2
      · rcases List.mem_append.mp hc with hc | hc
        · have := (c2 c hc); exact ⟨this.1, by omega⟩
        · rw [List.mem_singleton.mp hc]; exact ⟨hl, Nat.le_refl _⟩
      · rw [List.length_append, List.length_singleton]; omega
theorem Lmx.most (L : Lmx n hs bs) (HO : Hits n hs) {ds : List (Nat × Nat)} (g : Grd hs ds) {x : Int} (hx : bs[n]? = some x) : x = (ds.length : Int) := by
  have hH : ∀ c ∈ hs, c.1 < c.2 ∧ c.2 ≤ n := fun c hc => HO.mem c hc
  obtain ⟨cs, c1, c2, c3⟩ := L.ex hH n n x (Nat.le_refl _) (Nat.le_refl _) hx
  have h1 := grd_max HO g c1 fun c hc => (c2 c hc).1
  have h2 := L.ge hH ds.length ds n x rfl (Nat.le_refl _) g.2.1 (fun d hd => ⟨g.1 d hd, (hH d (g.1 d hd)).2⟩) hx
  omega
theorem lmx_start (hs : List (Nat × Nat)) : Lmx 0 hs [0] := by
  refine ⟨rfl, rfl, fun h x y _ hy => by simp at hy, fun l h x y _ _ hy => by simp at hy, fun h x y _ hy => by simp at hy⟩
theorem Lmx.snoc (L : Lmx n hs bs) (hH : ∀ c ∈ hs, c.1 < c.2) {b z : Int} (hb : bs[n]? = some b) (h1 : b ≤ z) (h2 : ∀ l x, (l, n + 1) ∈ hs → bs[l]? = some x → x + 1 ≤ z) (h3 : z = b ∨ ∃ l x, (l, n + 1) ∈ hs ∧ bs[l]? = some x ∧ z = x + 1) : Lmx (n + 1) hs (bs ++ [z]) := by
  have hl := L.len
  have lo : ∀ {i : Nat} {x : Int}, i ≤ n → ((bs ++ [z])[i]? = some x ↔ bs[i]? = some x) := fun {i x} hi => by rw [List.getElem?_append_left (by omega)]
  have last : ∀ {i : Nat} {x : Int}, (bs ++ [z])[i]? = some x → i ≤ n ∨ (i = n + 1 ∧ x = z) := fun {i x} e => by
    rcases Nat.lt_or_ge i (n + 1) with q | q
    · exact .inl (by omega)
    · rw [List.getElem?_append_right (by omega)] at e
      have hi : i - bs.length = 0 := by
        have := (List.getElem?_eq_some_iff.mp e).1
        simp at this; omega
      rw [hi] at e
      exact .inr ⟨by omega, (Option.some.inj e).symm⟩
  refine ⟨(lo (Nat.zero_le _)).mpr L.zero, by rw [List.length_append, hl]; rfl, fun h x y hx hy => ?_, fun l h x y hm hx hy => ?_, fun h x y hx hy => ?_⟩
  · rcases last hy with q | ⟨q, rfl⟩
    · exact L.mono h x y ((lo (by omega)).mp hx) ((lo q).mp hy)
    · have : h = n := by omega
      subst this
      rw [(lo (Nat.le_refl _)).mp hx] at hb; cases hb; exact h1
  · have hlt := hH _ hm
    dsimp only at hlt
    rcases last hy with q | ⟨q, rfl⟩
    · exact L.take l h x y hm ((lo (by omega)).mp hx) ((lo q).mp hy)
    · have : h = n := by omega
      subst this
      exact h2 l x hm ((lo (by omega)).mp hx)
  · rcases last hy with q | ⟨q, rfl⟩
    · rcases L.from' h x y ((lo (by omega)).mp hx) ((lo q).mp hy) with e | ⟨l, w, m1, m2, m3⟩
      · exact .inl e
      · have := (List.getElem?_eq_some_iff.mp m2).1
        exact .inr ⟨l, w, m1, (lo (by omega)).mpr m2, m3⟩
    · have : h = n := by omega
      subst this
      rw [(lo (Nat.le_refl _)).mp hx] at hb; cases hb
      rcases h3 with e | ⟨l, w, m1, m2, m3⟩
      · exact .inl e
      · have := (List.getElem?_eq_some_iff.mp m2).1
        exact .inr ⟨l, w, m1, (lo (by omega)).mpr m2, m3⟩
end
theorem hits60 (ns : List Int) (t : Int → Bool) (h : ns.length ≤ 60) : (hitsBy ns t).length ≤ 60000 := by
  refine Nat.le_trans (List.length_filter_le _ _) ?_
  have := prsTo_len ns.length (by omega) ns.length (Nat.le_refl _)
  unfold prs
  omega
def spMost : Sp := fun vs H Q _ => ∃ (p : Addr) (ns : List Int) (tot : Int), vs = [.ref p, .int tot] ∧ RowAt H p ns ∧ ns.length ≤ 60 ∧
  ∀ (bs : List Int) (x : Int) (H' : Hp), Lmx ns.length (hitsBy ns (eqT tot)) bs → bs[ns.length]? = some x → Same H H' → Q (.int x) H'
section
variable {P : Program} {w : World} {K : PySem.W.Frag} {mg : Str → Option Value} {base : Heap}
abbrev s_law_most_apart : Stmt := top 18
theorem sc_law_most_apart : FnScope ["row", "total", "with_it", "best", "high", "some"] ["row", "total"] (defScope s_law_most_apart) := ⟨rfl, rfl, rfl, by decide +kernel, rfl, by decide +kernel, by decide +kernel⟩
theorem ok_most {f f1 : Addr} {fd fd1 : FuncData} (F : Fun K "_law_most_apart" "_law_most_apart" s_law_most_apart f fd) (T : Txt mg) (D__law_with : DefAt K mg "_law_with" s_law_with ["row", "low_sum", "high_sum"] f1 fd1) (G__law_with : FnOk P w K mg base CX0 2 f1 fd1 ["row", "low_sum", "high_sum"] spWith) : FnOk P w K mg base CX0 3 f fd ["row", "total"] spMost := by
  refine F.ok sc_law_most_apart (fun vs H Q E h => ?_) (fun cdv A outer s H vs Q E hr h => ?_)
  · obtain ⟨p, ns, tot, rfl, _⟩ := h
    rfl
  · obtain ⟨p, ns, tot, rfl, ⟨hp, hl⟩, hl60, k⟩ := h
    have hsl := sizeLine_eq
    refine ⟨_, (pss_cons (ps_set (i := 2) sc_law_most_apart.nd rfl (Or.inl rfl) (pe_call G__law_with (hr.mono (by first | decide | exact Nat.le_refl _)) rfl D__law_with.mg D__law_with.fn.kp D__law_with.bd .nil pass0 (pa_cons (pv 0) (pa_cons (pv 1) (pa_cons (pv 1) pa_nil)))))
      (pss_cons (ps_set (i := 3) sc_law_most_apart.nd rfl (Or.inr rfl) (pe_lst (pa_cons pe_int pa_nil)))
      (pss_cons (ps_for PassesOwn.never rfl (pi_range2 (by rfl) T.b_range (pa_cons pe_int (pa_cons (pe_op op_add (pe_callB (cLen (K := K) rfl) (by rfl) T.b_len PyProof.Rows.Boot.«len» (pa_cons (pv 0) pa_nil)) pe_int) pa_nil))) (pg_name (i := 4) sc_law_most_apart.nd rfl (Or.inr rfl))
        (pss_cons (ps_setComp (i := 5) (hN := sc_law_most_apart.nd) (hy := rfl) (hx := rfl) (N := ["low", "end", "best", "high"]) (cap := [none, none, some 3, some 4]) (hc := rfl) (hok := (show blkOk ["row", "total", "with_it", "best", "high", "some"] (defScope s_law_most_apart) ["low", "end", "best", "high"] [none, none, some 3, some 4] _ = true by decide +kernel) ) (hi := (piL (K := K) rfl (pv 2))) (hb := fun cl C s3 H3 fp => ⟨(pgT (K := K) (n := 2) rfl rfl (pgs_cons (pg_name (i := 0) (show (["low", "end", "best", "high"] : List Str).Nodup by decide +kernel) rfl (Or.inl rfl)) (pgs_cons (pg_name (i := 1) (show (["low", "end", "best", "high"] : List Str).Nodup by decide +kernel) rfl (Or.inl rfl)) pgs_nil))), (pts_one (pt_cmpR op_eq (pv 1) (pv 3) (nomark _))), fun it acc => (paf_emit rfl (pe_op op_add (pe_ix (ixL (K := K) rfl) (pv 2) (pv 0) (fun _ _ => rfl)) pe_int))⟩))
        (pss_one (ps_expr (pe_bm PySem.F.plainAttrs_list PySem.F.slot_list_append PySem.F.type_list_append mt_append (pv 3) (pa_cons (pe_callB (cMmI false (K := K) rfl rfl) (by rfl) T.b_max PyProof.Rows.Boot.«max» (pa_cons (pe_op op_cat (pe_lst (pa_cons (pe_ix (ixL (K := K) rfl) (pv 3) (pe_un un_neg pe_int) (fun _ _ => rfl)) pa_nil)) (pv 5)) pa_nil)) pa_nil))))))
      (pss_one (ps_ret (pe_ix (ixL (K := K) rfl) (pv 3) (pe_un un_neg pe_int) (fun _ _ => rfl))))))), ?_⟩
    have HO := hitsOk ns tot
    have plen := hits60 ns (wb tot tot) hl60
    refine ⟨_, rfl, _, rfl, _, rfl, p, ns, tot, tot, rfl, ⟨hp, hl⟩, hl60, fun q xs H1 hqn hq ht S1 => ?_⟩
    rw [wb_eqT] at ht plen
    dsimp only [gName]
    refine ⟨by show 1 ≤ sizeLine; decide, fun bl hbl => ?_⟩
    have S2 := Same.lay (o := .lst [.int 0]) hbl
    have e2 : upd H1 bl (.lst [.int 0]) bl = some (.lst (([0] : List Int).map V.int)) := upd_same
    generalize upd H1 bl (.lst [.int 0]) = H2 at S2 e2
    have nbq : q ≠ bl := ne_of_none hq hbl
    have hnb : H bl = none := S1.free hbl
    have hp2 := S2 _ _ (S1 _ _ hp)
    dsimp only [gName]
    have hlm : (ns.map V.int).length = ns.length := List.length_map _
    refine ⟨_, rfl, p, _, rfl, .inr (SqT.of hp2), _, _, rfl, rfl, 1, _, rfl, ⟨by decide, by decide, by omega, by omega⟩, ?_⟩
    have ej : (((ns.map V.int).length : Int) + 1 - 1).toNat = ns.length := by omega
    rw [ej]
    have hH : ∀ c ∈ hitsBy ns (eqT tot), c.1 < c.2 := fun c hc => (HO.mem c hc).1
    have lastI : ∀ {bs : List Int} {m : Nat} {x : Int}, bs.length = m + 1 → bs[m]? = some x → atI (bs.map V.int) (-1) = some (.int x) := fun {bs m x} h1 h2 => by
      have h0 := (List.getElem?_eq_some_iff.mp h2).1
      have e : bs = bs.take m ++ [x] := by
        conv => lhs; rw [← List.take_append_drop m bs]
        rw [List.drop_eq_getElem_cons h0, (List.getElem?_eq_some_iff.mp h2).2, List.drop_of_length_le (by omega)]
      rw [e, List.map_append]
      exact atI_last _ _
    refine for_range (fun i σ H' => ∃ (v4 v5 : Option V) (bs : List Int), σ = [some (.ref p), some (.int tot), some (.ref q), some (.ref bl), v4, v5] ∧ H' bl = some (.lst (bs.map V.int)) ∧ Lmx i (hitsBy ns (eqT tot)) bs ∧ Kp bl H2 H') ⟨none, none, [0], rfl, e2, lmx_start _, Kp.refl _⟩ ?_ ?_
    · rintro i σ H3 hi ⟨v4, v5, bs, rfl, hb3, L3, k3⟩
      have hq3 := k3 _ _ (S2 _ _ hq) nbq
      have ht3 : TupsAt g2 H3 xs (hitsBy ns (eqT tot)) := k3.tups e2 (ht.mono fun a zs e => S2 _ _ e)
      have eh : (1 : Int) + (i : Int) = ((i + 1 : Nat) : Int) := by omega
      rw [eh]
      have bl3 := L3.len
      dsimp only [gName]
      refine ⟨_, rfl, q, rfl, ⟨_, SqL.of hq3⟩, fun acc hacc => ?_⟩
      refine walk_list (xs := xs) (fun j σ H' => ∃ (v1 v2 : Option V), σ = [v1, v2, some (.ref bl), some (.int ((i + 1 : Nat) : Int))] ∧ H' acc = some (.lst (((((hitsBy ns (eqT tot)).take j).filter fun p => decide (p.2 = i + 1)).map fun p => bs.getD p.1 0 + 1).map V.int)) ∧ Same H3 H') ⟨none, none, rfl, upd_same, Same.lay hacc⟩ ?_ ?_ ?_
      · rintro j σ H' _ ⟨v1, v2, rfl, ha, S'⟩
        exact SqL.of (S' _ _ hq3)
      · rintro j y σ H' hy ⟨v1, v2, rfl, ha, S'⟩
        have hj : j < (hitsBy ns (eqT tot)).length := by rw [← ht3.1]; exact (List.getElem?_eq_some_iff.mp hy).1
        obtain ⟨a, e1, e3⟩ := ht3.2 j _ (List.getElem?_eq_getElem hj)
        rw [hy] at e1
        have e1 : y = .ref a := Option.some.inj e1
        subst e1
        have hg : (hitsBy ns (eqT tot))[j]? = some (hitsBy ns (eqT tot))[j] := List.getElem?_eq_getElem hj
        have hm := List.getElem_mem hj
        generalize (hitsBy ns (eqT tot))[j] = pr at e3 hg hm
        obtain ⟨lo, hi'⟩ := pr
        refine ⟨a, _, rfl, SqT.of (S' _ _ e3), rfl, _, _, rfl, _, _, rfl, rfl, ?_⟩
        have xlen : ((((hitsBy ns (eqT tot)).take j).filter fun p => decide (p.2 = i + 1)).map fun p => bs.getD p.1 0 + 1).length ≤ 1000000 := by
          rw [List.length_map]
          refine Nat.le_trans (List.length_filter_le _ _) ?_
          rw [List.length_take]; omega
        refine ⟨_, rfl, _, rfl, rfl, _, rfl, ite2 (fun e => ?_) (fun e => ?_)⟩
        · have e4 : hi' = i + 1 := by
            have := of_decide_eq_true e
            injection this with this
            exact Int.ofNat.inj this
          obtain ⟨q1, q2⟩ := HO.mem _ hm
          dsimp only at q1 q2
          have hlo : lo < bs.length := by omega
          refine ⟨_, rfl, _, rfl, bl, _, _, _, rfl, rfl, SqL.of (S' _ _ hb3), atI_nat (j := lo) (v := .int (bs.getD lo 0)) (by rw [List.getElem?_map, List.getElem?_eq_getElem hlo]; simp [hlo]), _, _, rfl, rfl, _, ha, by rw [List.length_map]; omega, _, _, rfl, ?_, fun b o eb => by rw [upd_ne (ne_of_none eb hacc)]; exact S' b o eb⟩
          rw [upd_same, filter_take_succ _ hg]
          simp only [e4, decide_true, if_true, List.map_append, List.map_cons, List.map_nil]
        · have e4 : hi' ≠ i + 1 := fun z => e (decide_eq_true (by rw [z]))
          refine ⟨_, _, rfl, ?_, S'⟩
          rw [filter_take_succ _ hg]
          simp only [e4, decide_false, Bool.false_eq_true, if_false, List.append_nil]
          exact ha
      rintro σ H4 ⟨v1, v2, rfl, ha, S4⟩
      rw [ht3.1, List.take_length] at ha
      have hb4 := S4 _ _ hb3
      obtain ⟨b, hb⟩ := L3.at (h := i) (Nat.le_refl _)
      have slen : (((hitsBy ns (eqT tot)).filter fun p => decide (p.2 = i + 1)).map fun p => bs.getD p.1 0 + 1).length ≤ 60000 := by
        rw [List.length_map]
        exact Nat.le_trans (List.length_filter_le _ _) plen
      generalize hsm : (((hitsBy ns (eqT tot)).filter fun p => decide (p.2 = i + 1)).map fun p => bs.getD p.1 0 + 1) = sm at ha slen
      dsimp only [gName]
      refine ⟨_, rfl, .inl ⟨rfl, _, SqL.of hb4⟩, _, rfl, _, rfl, bl, _, _, _, rfl, rfl, SqL.of hb4, lastI bl3 hb, by show 1 ≤ sizeLine; decide, fun l2 hl2 => ⟨_, rfl, l2, acc, _, _, rfl, rfl, upd_same, (upd_ne (ne_of_none ha hl2)).trans ha, by rw [List.length_map]; show 1 + _ ≤ _; omega, fun l3 hl3 => ?_⟩⟩
      have S5 : Same H4 (upd (upd H4 l2 (.lst [.int b])) l3 (.lst ((b :: sm).map V.int))) := (Same.lay hl2).trans (Same.lay hl3)
      refine ⟨l3, b :: sm, rfl, SqL.of (by rw [upd_same]; rfl), by simp, fun z H6 hz hmx S6 => ?_⟩
      have S46 : Same H4 H6 := S5.trans S6
      have hb6 := S46 _ _ hb4
      refine ⟨bl, _, _, rfl, rfl, hb6, by rw [List.length_map]; omega, _, _, bs ++ [z], rfl, by rw [upd_same, List.map_append]; rfl, ?_, (k3.trans (Kp.of (S4.trans S46))).wr⟩
      refine L3.snoc hH hb (hmx b (List.mem_cons_self ..)) (fun l x hm hx => ?_) ?_
      · refine hmx (x + 1) (List.mem_cons_of_mem _ ?_)
        rw [← hsm]
        refine List.mem_map.mpr ⟨(l, i + 1), List.mem_filter.mpr ⟨hm, by simp⟩, ?_⟩
        obtain ⟨h1, h2⟩ := List.getElem?_eq_some_iff.mp hx
        simp [h1, h2]
      · rcases List.mem_cons.mp hz with e | e
        · exact .inl e
        · right
          rw [← hsm] at e
          obtain ⟨⟨l, h'⟩, m1, m2⟩ := List.mem_map.mp e
          obtain ⟨m3, m4⟩ := List.mem_filter.mp m1
          have m4 : h' = i + 1 := of_decide_eq_true m4
          subst m4
          have hlt := hH _ m3
          dsimp only at hlt m2
          have hl' : l < bs.length := by omega
          refine ⟨l, bs.getD l 0, m3, ?_, m2.symm⟩
          rw [List.getElem?_eq_getElem hl']; simp [hl']
    · rintro σ H3 ⟨v4, v5, bs, rfl, hb3, L3, k3⟩
      obtain ⟨b, hb⟩ := L3.at (h := ns.length) (Nat.le_refl _)
      exact ⟨_, rfl, _, rfl, bl, _, _, _, rfl, rfl, SqL.of hb3, lastI L3.len hb, k bs b H3 L3 hb (Kp.same (S1.trans S2) hnb k3)⟩
end
end My

namespace My
open PySem L2
def allHit (ns : List Int) (tot : Int) (pts : List Int) : Bool := (hitsBy ns (eqT tot)).all fun pr => pts.any fun x => decide ((pr.1 : Int) ≤ x) && decide (x < (pr.2 : Int))
def spLHit : Sp := fun vs H Q _ => ∃ (p q : Addr) (ns : List Int) (tot : Int) (pts : List Int), vs = [.ref p, .int tot, .ref q] ∧ RowAt H p ns ∧ ns.length ≤ 60 ∧ PtsAt H q pts ∧ ∀ H', Same H H' → Q (.bl (allHit ns tot pts)) H'
section
variable {P : Program} {w : World} {K : PySem.W.Frag} {mg : Str → Option Value} {base : Heap}
abbrev s_law_hit : Stmt := top 19
theorem sc_law_hit : FnScope ["row", "total", "points", "low", "high"] ["row", "total", "points"] (defScope s_law_hit) := ⟨rfl, rfl, rfl, by decide +kernel, rfl, by decide +kernel, by decide +kernel⟩
theorem ok_lhit {f f1 : Addr} {fd fd1 : FuncData} (F : Fun K "_law_hit" "_law_hit" s_law_hit f fd) (T : Txt mg) (D__law_with : DefAt K mg "_law_with" s_law_with ["row", "low_sum", "high_sum"] f1 fd1) (G__law_with : FnOk P w K mg base CX0 2 f1 fd1 ["row", "low_sum", "high_sum"] spWith) : FnOk P w K mg base CX0 3 f fd ["row", "total", "points"] spLHit := by
  refine F.ok sc_law_hit (fun vs H Q E h => ?_) (fun cdv A outer s H vs Q E hr h => ?_)
  · obtain ⟨p, q, ns, tot, pts, rfl, _⟩ := h
    rfl
  · obtain ⟨p, q, ns, tot, pts, rfl, ⟨hp, hl⟩, hl60, ⟨hq, hql⟩, k⟩ := h
    have hsl := sizeLine_eq
    have hu := hr.units0
    refine ⟨_, (pss_cons (ps_for PassesOwn.never rfl (piL (K := K) rfl (pe_call G__law_with (hr.mono (by first | decide | exact Nat.le_refl _)) rfl D__law_with.mg D__law_with.fn.kp D__law_with.bd .nil pass0 (pa_cons (pv 0) (pa_cons (pv 1) (pa_cons (pv 1) pa_nil))))) (pgT (K := K) (n := 2) rfl rfl (pgs_cons (pg_name (i := 3) sc_law_hit.nd rfl (Or.inr rfl)) (pgs_cons (pg_name (i := 4) sc_law_hit.nd rfl (Or.inr rfl)) pgs_nil)))
        (pss_one (ps_if (pt_cmpR (oEq (K := K) rfl false hu) (pe_comp (N := ["one", "low", "high"]) (cap := [none, some 3, some 4]) rfl (show blkOk ["row", "total", "points", "low", "high"] (defScope s_law_hit) ["one", "low", "high"] [none, some 3, some 4] _ = true by decide +kernel) (piT (K := K) rfl (pv 2)) (fun cl C s3 H3 fp => ⟨(pg_name (i := 0) (show (["one", "low", "high"] : List Str).Nodup by decide +kernel) rfl (Or.inl rfl)), (pts_one (PW.pt (pw_and (pt_cmpR op_le (pv 1) (pv 0) (nomark _)) (pw_and1 (pt_cmpR op_lt (pv 0) (pv 2) (nomark _)))))), fun it acc => (paf_emit rfl (pv 0))⟩)) (pe_lst pa_nil) (nomark _))
          (pss_one (ps_ret pe_bl))
          pss_nil)))
      (pss_one (ps_ret pe_bl))), ?_⟩
    have HO := hitsOk ns tot
    refine ⟨_, rfl, _, rfl, _, rfl, p, ns, tot, tot, rfl, ⟨hp, hl⟩, hl60, fun wl xs H1 hwn hw ht S1 => ⟨wl, rfl, ⟨_, SqL.of hw⟩, ?_⟩⟩
    rw [wb_eqT] at ht
    refine for_list (xs := xs) (fun i σ H' => ∃ (v3 v4 : Option V), σ = [some (.ref p), some (.int tot), some (.ref q), v3, v4] ∧ (((hitsBy ns (eqT tot)).take i).all fun pr => pts.any fun x => decide ((pr.1 : Int) ≤ x) && decide (x < (pr.2 : Int))) = true ∧ Same H1 H') ⟨none, none, rfl, by simp, Same.refl _⟩ ?_ ?_ ?_
    · rintro i σ H' _ ⟨v3, v4, rfl, _, S'⟩
      exact SqL.of (S' _ _ hw)
    · rintro i y σ H' hy ⟨v3, v4, rfl, hall, S'⟩
      have hi : i < (hitsBy ns (eqT tot)).length := by rw [← ht.1]; exact (List.getElem?_eq_some_iff.mp hy).1
      obtain ⟨a, e1, e3⟩ := ht.2 i _ (List.getElem?_eq_getElem hi)
      rw [hy] at e1
      have e1 : y = .ref a := Option.some.inj e1
      subst e1
      have hg : (hitsBy ns (eqT tot))[i]? = some (hitsBy ns (eqT tot))[i] := List.getElem?_eq_getElem hi
      generalize (hitsBy ns (eqT tot))[i] = pr at e3 hg
      refine ⟨a, _, rfl, SqT.of (S' _ _ e3), rfl, _, _, rfl, _, _, rfl, rfl, ?_⟩
      dsimp only [gName]
      have hq' := S' _ _ (S1 _ _ hq)
      refine ⟨_, rfl, q, rfl, ⟨_, SqT.of hq'⟩, fun acc hacc => ?_⟩
      refine walk_tup (xs := pts.map V.int) (fun j σ H'' => ∃ v : Option V, σ = [v, some (.int (pr.1 : Int)), some (.int (pr.2 : Int))] ∧ H'' acc = some (.lst (((pts.take j).filter fun x => decide ((pr.1 : Int) ≤ x) && decide (x < (pr.2 : Int))).map V.int)) ∧ Same H' H'') ⟨none, rfl, upd_same, Same.lay hacc⟩ ?_ ?_ ?_
      · rintro j σ H2 _ ⟨v, rfl, ha, S2⟩
        exact SqT.of (S2 _ _ hq')
      · rintro j x σ H2 hx ⟨v, rfl, ha, S2⟩
        obtain ⟨n, hn, rfl⟩ : ∃ n, pts[j]? = some n ∧ V.int n = x := by rw [List.getElem?_map] at hx; exact Option.map_eq_some_iff.mp hx
        have xl : ((pts.take j).filter fun x => decide ((pr.1 : Int) ≤ x) && decide (x < (pr.2 : Int))).length ≤ 100000 := Nat.le_trans (List.length_filter_le _ _) (by rw [List.length_take]; omega)
        have no : (decide ((pr.1 : Int) ≤ n) && decide (n < (pr.2 : Int))) = false → ∃ v : Option V, ([some (.int n), some (.int (pr.1 : Int)), some (.int (pr.2 : Int))] : St) = [v, some (.int (pr.1 : Int)), some (.int (pr.2 : Int))] ∧ H2 acc = some (.lst (((pts.take (j + 1)).filter fun x => decide ((pr.1 : Int) ≤ x) && decide (x < (pr.2 : Int))).map V.int)) ∧ Same H' H2 := fun e => by
          refine ⟨_, rfl, ?_, S2⟩
          rw [filter_take_succ _ hn, e]
          simpa using ha
        refine ⟨_, rfl, _, rfl, _, _, rfl, rfl, _, rfl, ite2 (fun e => ⟨_, rfl, _, rfl, _, _, rfl, rfl, _, rfl, ite2 (fun e' => ?_) (fun e' => no ?_)⟩) (fun e => iteN (by simp) (no ?_))⟩
        · have ee : (decide ((pr.1 : Int) ≤ n) && decide (n < (pr.2 : Int))) = true := by rw [show decide ((pr.1 : Int) ≤ n) = true from e, show decide (n < (pr.2 : Int)) = true from e']; rfl
          refine ⟨_, rfl, _, ha, by rw [List.length_map]; omega, _, rfl, ?_, fun b o eb => by rw [upd_ne (ne_of_none eb hacc)]; exact S2 b o eb⟩
          rw [upd_same, filter_take_succ _ hn, ee, if_pos rfl, List.map_append]
          rfl
        · rw [show decide (n < (pr.2 : Int)) = false from Bool.not_eq_true _ |>.mp e', Bool.and_false]
        · rw [show decide ((pr.1 : Int) ≤ n) = false from Bool.not_eq_true _ |>.mp e, Bool.false_and]
      rintro σ H2 ⟨v, rfl, ha, S2⟩
      rw [List.length_map, List.take_length] at ha
      refine ⟨by show 0 ≤ sizeLine; omega, fun l0 hl0 => ?_⟩
      have S3 := Same.lay (o := .lst []) hl0
      have e0 : upd H2 l0 (.lst []) l0 = some (.lst []) := upd_same
      generalize upd H2 l0 (.lst []) = H3 at S3 e0
      have SA : Same H H3 := ((S1.trans S').trans S2).trans S3
      have ha3 := S3 _ _ ha
      cases hfl : pts.filter fun x => decide ((pr.1 : Int) ≤ x) && decide (x < (pr.2 : Int)) with
      | nil =>
        rw [hfl] at ha3
        have hno : (pts.any fun x => decide ((pr.1 : Int) ≤ x) && decide (x < (pr.2 : Int))) = false := by
          rw [List.any_eq_false]
          intro x hx e
          have : x ∈ pts.filter fun x => decide ((pr.1 : Int) ≤ x) && decide (x < (pr.2 : Int)) := List.mem_filter.mpr ⟨hx, e⟩
          rw [hfl] at this; cases this
        have e : allHit ns tot pts = false := by
          unfold allHit
          rw [List.all_eq_false]
          exact ⟨pr, List.mem_of_getElem? hg, by rw [hno]; decide⟩
        refine ⟨acc, l0, [], [], rfl, rfl, SqL.of ha3, SqL.of e0, rfl, rfl, true, rfl, iteT ?_⟩
        have z := k H3 SA
        rw [e] at z
        exact z
      | cons y r =>
        rw [hfl] at ha3
        have hyes : (pts.any fun x => decide ((pr.1 : Int) ≤ x) && decide (x < (pr.2 : Int))) = true := by
          have : y ∈ pts.filter fun x => decide ((pr.1 : Int) ≤ x) && decide (x < (pr.2 : Int)) := by rw [hfl]; exact List.mem_cons_self ..
          obtain ⟨m1, m2⟩ := List.mem_filter.mp this
          exact List.any_eq_true.mpr ⟨y, m1, m2⟩
        refine ⟨acc, l0, _, [], rfl, rfl, SqL.of ha3, SqL.of e0, List.all_eq_true.mpr fun v hv => ?_, rfl, false, rfl, iteF ⟨_, _, rfl, ?_, (S'.trans S2).trans S3⟩⟩
        · obtain ⟨n, _, rfl⟩ := List.mem_map.mp hv
          rfl
        · rw [take_succ hg, List.all_append, hall]
          simp only [List.all_cons, List.all_nil, hyes, Bool.and_self]
    · rintro σ H' ⟨v3, v4, rfl, hall, S'⟩
      rw [ht.1, List.take_length] at hall
      have e : allHit ns tot pts = true := hall
      have z := k H' (S1.trans S')
      rw [e] at z
      exact z
end
end My

namespace L2
open PySem PySem.Spec PyProof.Rows
end L2
namespace My
open PySem L2
theorem iteFB {b : Bool} {A B : Prop} (h : b = false) (hB : B) : if b = true then A else B := by subst h; exact iteF hB
/-- what is no table of code is kept -/
def Nt (H H' : Hp) : Prop := ∀ b o, H b = some o → (∀ ps, o ≠ .tbl ps) → H' b = some o
theorem Nt.refl (H : Hp) : Nt H H := fun _ _ h _ => h
theorem Nt.trans {H H1 H2 : Hp} (a : Nt H H1) (b : Nt H1 H2) : Nt H H2 := fun x o e n => b x o (a x o e n) n
theorem Nt.of {H H' : Hp} (s : Same H H') : Nt H H' := fun b o e _ => s b o e
theorem Nt.tup {H H' : Hp} (n : Nt H H') {a : Addr} {xs : List V} (h : H a = some (.tup xs)) : H' a = some (.tup xs) := n a _ h (by intro ps z; cases z)
theorem Nt.kp {pos : Pos} {qual : Str} {P : Addr} {H H' : Hp} (h : TabAt pos qual P H) (k : Kp P H H') : Nt H H' := fun b o e n => k b o e (h.ne e n)
theorem Nt.tups {α : Type} {g : α → List V} {H H' : Hp} (n : Nt H H') {xs : List V} {ps : List α} (h : TupsAt g H xs ps) : TupsAt g H' xs ps := h.mono fun a zs e => n.tup e
theorem TabAt.kp {pos pos' : Pos} {qual qual' : Str} {P T : Addr} {H H' : Hp} (h : TabAt pos qual P H) (h' : TabAt pos' qual' T H) (k : Kp T H H') (n : P ≠ T) : TabAt pos qual P H' := by
  rcases h with h | ⟨c, h1, h2⟩
  · exact .inl (k _ _ h n)
  · exact .inr ⟨c, k _ _ h1 n, k _ _ h2 (h'.ne h2 (by intro ps z; cases z))⟩
theorem Scr.nt {K : PySem.W.Frag} {H H' : Hp} {a : Addr} {scr : List Int} (h : Scr K H a scr) (n : Nt H H') : Scr K H' a scr := by
  obtain ⟨h1, h2⟩ := h
  refine ⟨?_, h2⟩
  rcases h1 with (h1 | ⟨o, h1⟩) | h1
  · exact .inl (.inl (n _ _ h1 (by intro ps z; cases z)))
  · exact .inl (.inr ⟨o, n _ _ h1 (by intro ps z; cases z)⟩)
  · exact .inr h1
end My

namespace My
open PySem L2
theorem asc_eq {a b : List Int} (ha : a.Pairwise (· < ·)) (hb : b.Pairwise (· < ·)) (h : ∀ x, x ∈ a ↔ x ∈ b) : a = b := by
  have na : a.Nodup := ha.imp fun h => by omega
  have nb : b.Nodup := hb.imp fun h => by omega
  exact List.Perm.eq_of_pairwise (fun x y _ _ h1 h2 => by omega) ha hb ((List.perm_ext_iff_of_nodup na nb).mpr h)
theorem points_all {ns : List Int} {tot : Int} {pts : List Int} (h1 : pts.Pairwise (· < ·)) (h2 : ∀ x ∈ pts, 0 ≤ x ∧ x < (ns.length : Int)) : pointsB ns tot pts = allHit ns tot pts := by
  unfold pointsB areB allHit
  have e1 : (pts.map (inB ns.length)).all id = true := by
    rw [List.all_eq_true]
    intro b hb
    obtain ⟨x, hx, rfl⟩ := List.mem_map.mp hb
    obtain ⟨z1, z2⟩ := h2 x hx
    show inB ns.length x = true
    unfold inB
    rw [decide_eq_true z1, decide_eq_true z2]; rfl
  rw [upB_zip, upB_of h1, e1, Bool.and_true, Bool.true_and, List.all_map]
  congr 1
  funext pr
  show hitB pts pr = _
  unfold hitB
  rw [List.any_map]
  rfl
theorem cut_toP (xs : List V) (k : Nat) : cutV xs none (some (k : Int)) = xs.take k := by
  unfold cutV
  rw [HT.sIx_none, HT.sIx_nat, List.drop_zero, Nat.sub_zero]
  rcases Nat.le_total k xs.length with h | h
  · rw [Nat.min_eq_left h]
  · rw [Nat.min_eq_right h, List.take_length, List.take_of_length_le h]
theorem cut_fromP (xs : List V) (k : Nat) : cutV xs (some (k : Int)) none = xs.drop k := by
  unfold cutV
  rw [HT.sIx_none, HT.sIx_nat]
  rcases Nat.le_total k xs.length with h | h
  · rw [Nat.min_eq_left h, List.take_of_length_le (by rw [List.length_drop]; omega)]
  · rw [Nat.min_eq_right h, List.drop_of_length_le (Nat.le_refl _), List.drop_of_length_le h, List.take_nil]
def spLaw (K : PySem.W.Frag) (tabs : List Addr) : Sp := fun vs H Q _ => ∃ (a : Addr) (ns : List Int), vs = [.ref a] ∧ SqL K H a (ns.map V.int) ∧ ns.length ≤ 63 ∧ (∀ P ∈ tabs, H P = some (.tbl #[])) ∧ ∀ H', Q (.bl true) H'
section
variable {P : Program} {w : World} {K : PySem.W.Frag} {mg : Str → Option Value} {base : Heap}
abbrev s_law : Stmt := top 20
theorem sc_law : FnScope ["script", "turn", "row", "total", "found", "k", "fewer"] ["script"] (defScope s_law) := ⟨rfl, rfl, rfl, by decide +kernel, rfl, by decide +kernel, by decide +kernel⟩
theorem ok_law {f h1 h2 h3 h4 h5 h6 h7 h8 h9 h10 h11 h12 h13 h14 h15 h16 c1 T0 : Addr} {fd fd1 fd2 fd3 fd4 fd5 fd6 fd7 fd8 fd9 fd10 fd11 fd12 fd13 fd14 fd15 fd16 : FuncData} (F : Fun K "law" "law" s_law f fd) (T : Txt mg) (BM : BmAt mg base)
    (D_sums_ahead : DefAt K mg "sums_ahead" s_sums_ahead ["row"] h2 fd2)
    (D_stretches_of : DefAt K mg "stretches_of" s_stretches_of ["row"] h3 fd3)
    (D_summed_stretches : DefAt K mg "summed_stretches" s_summed_stretches ["row"] h4 fd4)
    (D_all_with : DefAt K mg "all_with" s_all_with ["row", "total"] h7 fd7)
    (D_points_of : DefAtC K mg "points_of" s_points_of ["row", "total"] h9 fd9 c1 T0)
    (D_points_shown : DefAt K mg "points_shown" s_points_shown ["row", "total", "points"] h10 fd10)
    (D_are_points : DefAt K mg "are_points" s_are_points ["row", "points"] h11 fd11)
    (D_is_hit : DefAt K mg "is_hit" s_is_hit ["stretch", "points"] h12 fd12)
    (D__law_draw : DefAt K mg "_law_draw" s_law_draw ["script", "k"] h1 fd1)
    (D__law_number : DefAt K mg "_law_number" s_law_number ["script", "at", "most"] h5 fd5)
    (D__law_row : DefAt K mg "_law_row" s_law_row ["script", "at", "most"] h6 fd6)
    (D__law_ahead : DefAt K mg "_law_ahead" s_law_ahead ["row"] h8 fd8)
    (D__law_with : DefAt K mg "_law_with" s_law_with ["row", "low_sum", "high_sum"] h13 fd13)
    (D__law_total : DefAt K mg "_law_total" s_law_total ["script", "at", "row"] h14 fd14)
    (D__law_most_apart : DefAt K mg "_law_most_apart" s_law_most_apart ["row", "total"] h15 fd15)
    (D__law_hit : DefAt K mg "_law_hit" s_law_hit ["row", "total", "points"] h16 fd16) : FnOk P w K mg base CX0 6 f fd ["script"] (spLaw K [T0]) := by
  have G_summed_stretches := ok_summed_stretches (P := P) (w := w) (base := base) D_summed_stretches.fn T D_sums_ahead D_stretches_of
  have G_all_with : FnOk P w K mg base CX0 3 h7 fd7 ["row", "total"] spAll := ok_all_with D_all_with.fn T D_summed_stretches G_summed_stretches
  have G_points_of : FnOk P w K mg base CX0 5 h9 fd9 ["row", "total"] (spPts T0) := ok_points_of D_points_of.fn T BM D_all_with G_all_with
  have G_points_shown : FnOk P w K mg base CX0 4 h10 fd10 ["row", "total", "points"] spPoints := ok_points_shown D_points_shown.fn T D_are_points D_is_hit D_all_with G_all_with
  have G__law_draw : FnOk P w K mg base CX0 1 h1 fd1 ["script", "k"] (spDraw K) := ok_draw D__law_draw.fn T
  have G__law_row : FnOk P w K mg base CX0 3 h6 fd6 ["script", "at", "most"] (spRowD K) := ok_row D__law_row.fn T D__law_draw D__law_number
  have G__law_total : FnOk P w K mg base CX0 3 h14 fd14 ["script", "at", "row"] (spTotD K) := ok_total D__law_total.fn T D__law_draw D__law_number
  have G__law_with : FnOk P w K mg base CX0 2 h13 fd13 ["row", "low_sum", "high_sum"] spWith := ok_with D__law_with.fn T D__law_ahead
  have G__law_most_apart : FnOk P w K mg base CX0 3 h15 fd15 ["row", "total"] spMost := ok_most D__law_most_apart.fn T D__law_with G__law_with
  have G__law_hit : FnOk P w K mg base CX0 3 h16 fd16 ["row", "total", "points"] spLHit := ok_lhit D__law_hit.fn T D__law_with G__law_with
  have D_points_of : DefAt K mg "points_of" s_points_of ["row", "total"] h9 fd9 := ⟨D_points_of.fn.toFun, D_points_of.mg, D_points_of.bd⟩
  refine F.ok sc_law (fun vs H Q E h => ?_) (fun cdv A' outer s H vs Q E hr h => ?_)
  · obtain ⟨a, ns, rfl, _⟩ := h
    rfl
  · obtain ⟨a, scr, rfl, hS, hlen, hTb, k⟩ := h
    have hsl := sizeLine_eq
    have hu := hr.units0
    have hSc : Scr K H a scr := ⟨hS, hlen⟩
    have tP : TabP T0 H := .inl (hTb T0 (by simp))
    refine ⟨_, (pss_cons (ps_for PassesOwn.never rfl (pi_range1 (by rfl) T.b_range (pa_cons pe_int pa_nil)) (pg_name (i := 1) sc_law.nd rfl (Or.inl rfl))
        (pss_cons (ps_set (i := 2) sc_law.nd rfl (Or.inr rfl) (pe_call G__law_row (hr.mono (by first | decide | exact Nat.le_refl _)) rfl D__law_row.mg D__law_row.fn.kp D__law_row.bd .nil pass0 (pa_cons (pv 0) (pa_cons (pe_op op_add pe_int (pe_op op_mul pe_int (pv 1))) (pa_cons (pe_ix (ixT (K := K) rfl) (pe_tup (pa_cons pe_int (pa_cons pe_int (pa_cons pe_int pa_nil)))) (pe_op op_mod (pe_call G__law_draw (hr.mono (by first | decide | exact Nat.le_refl _)) rfl D__law_draw.mg D__law_draw.fn.kp D__law_draw.bd .nil pass0 (pa_cons (pv 0) (pa_cons (pe_op op_add pe_int (pv 1)) pa_nil))) pe_int) (fun _ _ => rfl)) pa_nil)))))
        (pss_cons (ps_set (i := 3) sc_law.nd rfl (Or.inl rfl) (pe_call G__law_total (hr.mono (by first | decide | exact Nat.le_refl _)) rfl D__law_total.mg D__law_total.fn.kp D__law_total.bd .nil pass0 (pa_cons (pv 0) (pa_cons (pe_op op_add pe_int (pe_op op_mul pe_int (pv 1))) (pa_cons (pv 2) pa_nil)))))
        (pss_cons (ps_set (i := 4) sc_law.nd rfl (Or.inl rfl) (pe_call G_points_of (hr.mono (by first | decide | exact Nat.le_refl _)) rfl D_points_of.mg D_points_of.fn.kp D_points_of.bd .nil pass0 (pa_cons (pv 2) (pa_cons (pv 3) pa_nil))))
        (pss_cons (ps_if (PW.pt (pw_or (pt_not (pt_val (pe_callB (cIsi (K := K) rfl) (by rfl) T.b_isinstance PyProof.Rows.Boot.«isinstance» (pa_cons (pv 4) (pa_cons (pe_ty (by rfl) T.b_tuple PyProof.Rows.Boot.«tuple») pa_nil))))) (pw_or1 (pt_cmpR (oNe (K := K) rfl false hu) (pe_comp (N := ["one"]) (cap := [none]) rfl (show blkOk ["script", "turn", "row", "total", "found", "k", "fewer"] (defScope s_law) ["one"] [none] _ = true by decide +kernel) (piT (K := K) rfl (pv 4)) (fun cl C s3 H3 fp => ⟨(pg_name (i := 0) (show (["one"] : List Str).Nodup by decide +kernel) rfl (Or.inl rfl)), (pts_one (pt_val (pe_callB (cIsi (K := K) rfl) (by rfl) T.b_isinstance PyProof.Rows.Boot.«isinstance» (pa_cons (pv 0) (pa_cons (pe_ty (by rfl) T.b_bool PyProof.Rows.Boot.«bool») pa_nil))))), fun it acc => (paf_emit rfl (pv 0))⟩)) (pe_lst pa_nil) (nomark _)))))
          (pss_one (ps_ret pe_bl))
          pss_nil)
        (pss_cons (ps_if (pt_cmpR (oNe (K := K) rfl false hu) (pe_callTy (cList (K := K) rfl) (by rfl) T.b_list PyProof.Rows.Boot.«list» (pa_cons (pv 4) pa_nil)) (pe_callB (call_sortS (w := w) rfl rfl) (by rfl) T.b_sorted PyProof.Rows.Boot.«sorted» (pa_cons (pe_callTy (call_setTu (K := K) (w := w) rfl rfl rfl) (by rfl) T.b_set PyProof.Rows.Boot.«set» (pa_cons (pv 4) pa_nil)) pa_nil)) (nomark _))
          (pss_one (ps_ret pe_bl))
          pss_nil)
        (pss_cons (ps_if (pt_cmpR (oNe (K := K) rfl false hu) (pe_comp (N := ["one", "row"]) (cap := [none, some 2]) rfl (show blkOk ["script", "turn", "row", "total", "found", "k", "fewer"] (defScope s_law) ["one", "row"] [none, some 2] _ = true by decide +kernel) (piT (K := K) rfl (pv 4)) (fun cl C s3 H3 fp => ⟨(pg_name (i := 0) (show (["one", "row"] : List Str).Nodup by decide +kernel) rfl (Or.inl rfl)), (pts_one (PW.pt (pw_or (pt_cmpR op_lt (pv 0) pe_int (nomark _)) (pw_or1 (pt_cmpR op_ge (pv 0) (pe_callB (cLen (K := K) rfl) (by rfl) T.b_len PyProof.Rows.Boot.«len» (pa_cons (pv 1) pa_nil)) (nomark _)))))), fun it acc => (paf_emit rfl (pv 0))⟩)) (pe_lst pa_nil) (nomark _))
          (pss_one (ps_ret pe_bl))
          pss_nil)
        (pss_cons (ps_if (PW.pt (pw_or (pt_not (pt_val (pe_call G__law_hit (hr.mono (by first | decide | exact Nat.le_refl _)) rfl D__law_hit.mg D__law_hit.fn.kp D__law_hit.bd .nil pass0 (pa_cons (pv 2) (pa_cons (pv 3) (pa_cons (pv 4) pa_nil)))))) (pw_or1 (pt_cmpR op_ne (pe_callB (cLen (K := K) rfl) (by rfl) T.b_len PyProof.Rows.Boot.«len» (pa_cons (pv 4) pa_nil)) (pe_call G__law_most_apart (hr.mono (by first | decide | exact Nat.le_refl _)) rfl D__law_most_apart.mg D__law_most_apart.fn.kp D__law_most_apart.bd .nil pass0 (pa_cons (pv 2) (pa_cons (pv 3) pa_nil))) (nomark _)))))
          (pss_one (ps_ret pe_bl))
          pss_nil)
        (pss_cons (ps_if (pt_cmpR op_notB (pe_call G_points_shown (hr.mono (by first | decide | exact Nat.le_refl _)) rfl D_points_shown.mg D_points_shown.fn.kp D_points_shown.bd .nil pass0 (pa_cons (pv 2) (pa_cons (pv 3) (pa_cons (pv 4) pa_nil)))) pe_bl (nomark _))
          (pss_one (ps_ret pe_bl))
          pss_nil)
        (pss_one (ps_for PassesOwn.never rfl (pi_range1 (by rfl) T.b_range (pa_cons (pe_callB (cLen (K := K) rfl) (by rfl) T.b_len PyProof.Rows.Boot.«len» (pa_cons (pv 4) pa_nil)) pa_nil)) (pg_name (i := 5) sc_law.nd rfl (Or.inl rfl))
          (pss_cons (ps_set (i := 6) sc_law.nd rfl (Or.inl rfl) (pe_op oCatB (pe_slice slTB (pv 4) po_none (po_some (pv 5))) (pe_slice slTB (pv 4) (po_some (pe_op op_add (pv 5) pe_int)) po_none)))
          (pss_one (ps_if (pt_cmpR op_ne (pe_call G_points_shown (hr.mono (by first | decide | exact Nat.le_refl _)) rfl D_points_shown.mg D_points_shown.fn.kp D_points_shown.bd .nil pass0 (pa_cons (pv 2) (pa_cons (pv 3) (pa_cons (pv 6) pa_nil)))) (pe_call G__law_hit (hr.mono (by first | decide | exact Nat.le_refl _)) rfl D__law_hit.mg D__law_hit.fn.kp D__law_hit.bd .nil pass0 (pa_cons (pv 2) (pa_cons (pv 3) (pa_cons (pv 6) pa_nil)))) (nomark _))
            (pss_one (ps_ret pe_bl))
            pss_nil))))))))))))))
      (pss_one (ps_ret pe_bl))), ?_⟩
    refine ⟨_, rfl, by decide, by decide, for_range (n := 3) (fun i σ H' => ∃ v1 v2 v3 v4 v5 v6 : Option V, σ = [some (.ref a), v1, v2, v3, v4, v5, v6] ∧ Scr K H' a scr ∧ TabP T0 H') ⟨_, _, _, _, _, _, rfl, hSc, tP⟩ ?_ ?_⟩
    · rintro i σ H1 hi ⟨v1, v2, v3, v4, v5, v6, rfl, hSc, tP⟩
      dsimp only [gName]
      -- row
      refine ⟨_, rfl, _, rfl, _, _, rfl, rfl, .inl ⟨by decide, by decide⟩, _, _, rfl, rfl, by show 3 ≤ sizeLine; decide, fun tp htp => ?_⟩
      have S2 : Same H1 (upd H1 tp (.tup [.int 8, .int 24, .int 60])) := Same.lay htp
      have etp : upd H1 tp (.tup [.int 8, .int 24, .int 60]) tp = some (.tup (([8, 24, 60] : List Int).map V.int)) := upd_same
      generalize upd H1 tp (.tup [.int 8, .int 24, .int 60]) = H2 at S2 etp
      refine ⟨_, rfl, _, rfl, _, _, rfl, rfl, a, scr, _, rfl, hSc.same S2, by omega, by omega, fun r1 H3 _ _ S3 => ⟨_, _, rfl, rfl, (by show (0 : Int) < _; decide), ?_⟩⟩
      have ⟨z0, z1⟩ := mod_lt r1 3 (by decide)
      obtain ⟨ms, hms, hmm, _⟩ := atI_ints [8, 24, 60] z0 (by simpa using z1)
      have hms0 : 0 ≤ ms ∧ ms ≤ 60 := by
        simp only [List.mem_cons, List.not_mem_nil, or_false] at hmm
        rcases hmm with rfl | rfl | rfl <;> decide
      have Z3 := S2.trans S3
      refine ⟨tp, _, _, _, rfl, rfl, SqT.of (S3 _ _ etp), hms, a, scr, _, ms, rfl, hSc.same Z3, by omega, by omega, hms0.1, hms0.2, fun p ns H4 hp hl S4 => ?_⟩
      have Z4 := Z3.trans S4
      have hl' : ns.length ≤ 1000 := by omega
      have hl60 : ns.length ≤ 60 := by omega
      dsimp only [gName]
      -- total
      refine ⟨_, rfl, _, rfl, _, _, rfl, rfl, .inl ⟨by decide, by decide⟩, _, _, rfl, rfl, _, rfl, a, p, scr, _, ns, rfl, hSc.same Z4, by omega, by omega, ⟨hp, hl'⟩, fun tot H5 S5 => ?_⟩
      have Z5 := Z4.trans S5
      have hp5 := S5 _ _ hp
      have tP5 := tP.keep Z5
      have hSc5 := hSc.same Z5
      dsimp only [gName]
      -- found
      refine ⟨_, rfl, _, rfl, p, ns, tot, rfl, ⟨hp5, hl'⟩, tP5, fun q ds H6 gd hq k6 tP6 => ?_⟩
      have n6 := Nt.kp tP5 k6
      have hp6 := n6 _ _ hp5 (by intro ps z; cases z)
      have hSc6 := hSc5.nt n6
      have up := pts_up gd
      have pin := fun x (hx : x ∈ ptsOf ds) => pts_in gd hx
      have HO := hitsOk ns tot
      have dl : ds.length ≤ 60 := Nat.le_trans (chn_len HO gd.2.1 gd.1) hl60
      have plen : (ptsOf ds).length = ds.length := by unfold ptsOf; rw [List.length_map]
      have hitA : allHit ns tot (ptsOf ds) = true := by
        unfold allHit
        rw [List.all_eq_true]
        intro pr hpr
        obtain ⟨x, hx, h1, h2⟩ := pts_hit gd hpr
        exact List.any_eq_true.mpr ⟨x, hx, by rw [decide_eq_true h1, decide_eq_true h2]; rfl⟩
      have shw := pts_shown gd
      generalize hpts : ptsOf ds = pts at *
      dsimp only [gName]
      have fl0 : (pts.map V.int).all flatV = true := List.all_eq_true.mpr fun v hv => by obtain ⟨n, _, rfl⟩ := List.mem_map.mp hv; rfl
      -- a tuple, no bool in it
      refine ⟨_, rfl, _, _, _, true, rfl, .tup hq, .inl ⟨"tuple", rfl, rfl⟩, _, rfl, iteB ?_⟩
      refine ⟨_, rfl, q, rfl, ⟨_, SqT.of hq⟩, fun acc hacc => ?_⟩
      refine walk_tup (xs := pts.map V.int) (fun i σ H' => ∃ v : Option V, σ = [v] ∧ H' acc = some (.lst []) ∧ Same H6 H') ⟨none, rfl, upd_same, Same.lay hacc⟩ ?_ ?_ ?_
      · rintro m σ H' _ ⟨v, rfl, _, S'⟩
        exact SqT.of (S' _ _ hq)
      · rintro m x σ H' hx ⟨v, rfl, hz, S'⟩
        obtain ⟨n, _, rfl⟩ : ∃ n, pts[m]? = some n ∧ V.int n = x := by rw [List.getElem?_map] at hx; exact Option.map_eq_some_iff.mp hx
        exact ⟨_, rfl, _, _, _, false, rfl, .int n, .inl ⟨"bool", rfl, rfl⟩, _, rfl, iteF ⟨_, rfl, hz, S'⟩⟩
      rintro σ H7 ⟨v, rfl, hz, S7⟩
      refine ⟨by show 0 ≤ sizeLine; omega, fun l2 hl2 => ?_⟩
      have S8 := Same.lay (o := .lst []) hl2
      have el2 : upd H7 l2 (.lst []) l2 = some (.lst []) := upd_same
      generalize upd H7 l2 (.lst []) = H8 at S8 el2
      refine ⟨acc, l2, [], [], rfl, rfl, SqL.of (S8 _ _ hz), SqL.of el2, rfl, rfl, false, rfl, iteF ?_⟩
      have Z8 : Same H6 H8 := S7.trans S8
      -- list(found) != sorted(set(found))
      refine ⟨_, rfl, q, _, rfl, .inr (SqT.of (Z8 _ _ hq)), fun l3 hl3 => ?_⟩
      have S9 := Same.lay (o := .lst (pts.map V.int)) hl3
      have el3 : upd H8 l3 (.lst (pts.map V.int)) l3 = some (.lst (pts.map V.int)) := upd_same
      generalize upd H8 l3 (.lst (pts.map V.int)) = H9 at S9 el3
      refine ⟨_, rfl, q, pts, rfl, SqT.of (S9 _ _ (Z8 _ _ hq)), by omega, fun sp hsp => ?_⟩
      have S10 := Same.lay (o := SetO w sp pts) hsp
      have esp : upd H9 sp (SetO w sp pts) sp = some (SetO w sp pts) := upd_same
      generalize upd H9 sp (SetO w sp pts) = H10 at S10 esp
      refine ⟨sp, pts, rfl, esp, by omega, fun so ms hso up' mem' => ?_⟩
      have ems : ms = pts := asc_eq up' up mem'
      subst ems
      have S11 := Same.lay (o := .lst (ms.map V.int)) hso
      have eso : upd H10 so (.lst (ms.map V.int)) so = some (.lst (ms.map V.int)) := upd_same
      generalize upd H10 so (.lst (ms.map V.int)) = H11 at S11 eso
      refine ⟨l3, so, _, _, rfl, rfl, SqL.of (S11 _ _ (S10 _ _ el3)), SqL.of eso, fl0, fl0, false, by rw [eqVs_refl fl0]; rfl, iteF ?_⟩
      have Z11 : Same H6 H11 := Z8.trans (S9.trans (S10.trans S11))
      have hq11 := Z11 _ _ hq
      have hp11 := Z11 _ _ hp6
      -- within the row
      refine ⟨_, rfl, q, rfl, ⟨_, SqT.of hq11⟩, fun acc2 hacc2 => ?_⟩
      refine walk_tup (xs := ms.map V.int) (fun i σ H' => ∃ v : Option V, σ = [v, some (.ref p)] ∧ H' acc2 = some (.lst []) ∧ Same H11 H') ⟨none, rfl, upd_same, Same.lay hacc2⟩ ?_ ?_ ?_
      · rintro m σ H' _ ⟨v, rfl, _, S'⟩
        exact SqT.of (S' _ _ hq11)
      · rintro m x σ H' hx ⟨v, rfl, hz, S'⟩
        obtain ⟨n, hn, rfl⟩ : ∃ n, ms[m]? = some n ∧ V.int n = x := by rw [List.getElem?_map] at hx; exact Option.map_eq_some_iff.mp hx
        obtain ⟨n0, n1⟩ := pin n (List.mem_of_getElem? hn)
        refine ⟨_, rfl, _, _, rfl, rfl, _, rfl, iteFB (decide_eq_false (by omega)) ⟨_, rfl, _, rfl, p, _, rfl, .inr (SqT.of (S' _ _ hp11)), _, _, rfl, rfl, _, rfl, iteFB (decide_eq_false (by rw [List.length_map]; omega)) ⟨_, rfl, hz, S'⟩⟩⟩
      rintro σ H12 ⟨v, rfl, hz2, S12⟩
      refine ⟨by show 0 ≤ sizeLine; omega, fun l4 hl4 => ?_⟩
      have S13 := Same.lay (o := .lst []) hl4
      have el4 : upd H12 l4 (.lst []) l4 = some (.lst []) := upd_same
      generalize upd H12 l4 (.lst []) = H13 at S13 el4
      refine ⟨acc2, l4, [], [], rfl, rfl, SqL.of (S13 _ _ hz2), SqL.of el4, rfl, rfl, false, rfl, iteF ?_⟩
      have Z13 : Same H6 H13 := Z11.trans (S12.trans S13)
      have pq : PtsAt H13 q ms := ⟨Z13 _ _ hq, by omega⟩
      -- hit, as many as there can be apart
      refine ⟨_, rfl, _, rfl, _, rfl, p, q, ns, tot, ms, rfl, ⟨Z13 _ _ hp6, hl'⟩, hl60, pq, fun H14 S14 => ?_⟩
      refine ⟨true, by rw [hitA], iteB ?_⟩
      have Z14 := Z13.trans S14
      refine ⟨_, rfl, q, _, rfl, .inr (SqT.of (Z14 _ _ hq)), _, rfl, _, rfl, p, ns, tot, rfl, ⟨Z14 _ _ hp6, hl'⟩, hl60, fun bs x H15 L hx S15 => ⟨rfl, _, rfl, iteNS ?_ ?_⟩⟩
      · rw [L.most HO gd hx, List.length_map, plen]
      have Z15 := Z14.trans S15
      -- shown
      refine ⟨_, rfl, _, rfl, _, rfl, p, q, ns, tot, ms, rfl, ⟨Z15 _ _ hp6, hl'⟩, hl60, ⟨Z15 _ _ hq, by omega⟩, fun H16 S16 => ?_⟩
      refine ⟨true, rfl, .inr ⟨_, rfl⟩, _, rfl, iteNS (by rw [shw]) ?_⟩
      have Z16 := Z15.trans S16
      -- one fewer
      refine ⟨_, rfl, q, _, rfl, .inr (SqT.of (Z16 _ _ hq)), _, rfl, by omega, by rw [List.length_map]; omega, for_range (fun j σ H' => ∃ v5 v6 : Option V, σ = [some (.ref a), some (.int (0 + (i : Int))), some (.ref p), some (.int tot), some (.ref q), v5, v6] ∧ Same H6 H') ⟨_, _, rfl, Z16⟩ ?_ ?_⟩
      · rintro j σ H17 hj ⟨v5, v6, rfl, Z17⟩
        have ej : (0 : Int) + (j : Int) = (j : Int) := by omega
        rw [ej]
        dsimp only [gName]
        refine ⟨_, rfl, _, rfl, _, rfl, q, _, rfl, Z17 _ _ hq, fun c1 H18 S18 hc1 => ?_⟩
        rw [cut_toP] at hc1
        have Z18 := Z17.trans S18
        refine ⟨_, rfl, _, rfl, _, _, rfl, rfl, _, rfl, q, _, rfl, Z18 _ _ hq, fun c2 H19 S19 hc2 => ?_⟩
        rw [show (j : Int) + 1 = ((j + 1 : Nat) : Int) from rfl, cut_fromP] at hc2
        refine ⟨c1, c2, _, _, rfl, rfl, S19 _ _ hc1, hc2, by rw [List.length_take, List.length_drop, List.length_map]; omega, fun fw H20 S20 hfw => ?_⟩
        have Z20 := (Z18.trans S19).trans S20
        have sub : (ms.take j ++ ms.drop (j + 1)).Sublist ms := by
          conv => rhs; rw [← List.take_append_drop j ms]
          refine List.Sublist.append (List.Sublist.refl _) ?_
          rw [← List.drop_drop]
          exact List.drop_sublist _ _
        have hfw : H20 fw = some (.tup ((ms.take j ++ ms.drop (j + 1)).map V.int)) := by
          rw [hfw, List.map_append, List.map_take, List.map_drop]
        have pe := points_all (ns := ns) (tot := tot) (up.sublist sub) fun x hx => pin x (sub.subset hx)
        have fl : (ms.take j ++ ms.drop (j + 1)).length ≤ 60 := Nat.le_trans sub.length_le (by omega)
        generalize ms.take j ++ ms.drop (j + 1) = fs at hfw pe fl
        dsimp only [gName]
        refine ⟨_, rfl, _, rfl, _, rfl, p, fw, ns, tot, fs, rfl, ⟨Z20 _ _ hp6, hl'⟩, hl60, ⟨hfw, by omega⟩, fun H21 S21 => ?_⟩
        refine ⟨_, rfl, _, rfl, _, rfl, p, fw, ns, tot, fs, rfl, ⟨S21 _ _ (Z20 _ _ hp6), hl'⟩, hl60, ⟨S21 _ _ hfw, by omega⟩, fun H22 S22 => ⟨rfl, _, rfl, iteNS (by rw [pe]) ⟨_, _, rfl, (Z20.trans S21).trans S22⟩⟩⟩
      · rintro σ H17 ⟨v5, v6, rfl, Z17⟩
        exact ⟨_, _, _, _, _, _, rfl, hSc6.same Z17, tP6.keep Z17⟩
    · rintro σ H' ⟨v1, v2, v3, v4, v5, v6, rfl, _⟩
      exact k H'
end
end My

namespace My
open PySem L2
theorem all_mk {l : PySem.W.OpenLaw} {w : World} {K : PySem.W.Frag} {h : Heap} {mg : Str → Option Value} {ts : List Addr} {fa f1 f2 f3 f4 f5 f6 f7 f8 f9 f10 f11 f12 f13 f14 f15 f16 f17 cc5 tt5 : Addr} (X : K.In h) (G : h.Ns mainGlobals mg) (hfa : mg "law" = some (.ref fa))
    {od1 an1 od2 an2 od3 an3 od4 an4 od5 an5 od6 an6 od7 an7 od8 an8 od9 an9 od10 an10 od11 an11 od12 an12 od13 an13 od14 an14 od15 an15 od16 an16 od17 an17 : Option Addr} {sl1 sl2 sl3 sl4 sl5 sl6 sl7 sl8 sl9 sl10 sl11 sl12 sl13 sl14 sl15 sl16 sl17 : Array (Option Value)} {oc1 kV1 dc1 pm1 cd1 ct1 oc2 kV2 dc2 pm2 cd2 ct2 oc3 kV3 dc3 pm3 cd3 ct3 oc4 kV4 dc4 pm4 cd4 ct4 oc5 kV5 dc5 pm5 ct5 oc6 kV6 dc6 pm6 cd6 ct6 oc7 kV7 dc7 pm7 cd7 ct7 oc8 kV8 dc8 pm8 cd8 ct8 oc9 kV9 dc9 pm9 cd9 ct9 oc10 kV10 dc10 pm10 cd10 ct10 oc11 kV11 dc11 pm11 cd11 ct11 oc12 kV12 dc12 pm12 cd12 ct12 oc13 kV13 dc13 pm13 cd13 ct13 oc14 kV14 dc14 pm14 cd14 ct14 oc15 kV15 dc15 pm15 cd15 ct15 oc16 kV16 dc16 pm16 cd16 ct16 oc17 kV17 dc17 pm17 cd17 ct17 : Value}
    {qo5 : Value} {qd5 : Option Addr} {qv5 : Array Value} {qs5 : Array (Option Value)}
    (a1 : PySem.W.nsIn K mainGlobals "sums_ahead" = some (some (.ref f1)))
    (l1 : K.lookup f1 = some ⟨oc1, od1, .func (PySem.W.fnOf "sums_ahead" "sums_ahead" (defArgs s_sums_ahead) (defBody s_sums_ahead) (defScope s_sums_ahead) .none kV1 dc1 pm1 an1 cd1 ct1), sl1⟩)
    (c1 : PySem.W.codeIn K cd1 "sums_ahead" = true)
    (k1 : PySem.W.keepIn K (.ref f1) = true)
    (a2 : PySem.W.nsIn K mainGlobals "stretches_of" = some (some (.ref f2)))
    (l2 : K.lookup f2 = some ⟨oc2, od2, .func (PySem.W.fnOf "stretches_of" "stretches_of" (defArgs s_stretches_of) (defBody s_stretches_of) (defScope s_stretches_of) .none kV2 dc2 pm2 an2 cd2 ct2), sl2⟩)
    (c2 : PySem.W.codeIn K cd2 "stretches_of" = true)
    (k2 : PySem.W.keepIn K (.ref f2) = true)
    (a3 : PySem.W.nsIn K mainGlobals "summed_stretches" = some (some (.ref f3)))
    (l3 : K.lookup f3 = some ⟨oc3, od3, .func (PySem.W.fnOf "summed_stretches" "summed_stretches" (defArgs s_summed_stretches) (defBody s_summed_stretches) (defScope s_summed_stretches) .none kV3 dc3 pm3 an3 cd3 ct3), sl3⟩)
    (c3 : PySem.W.codeIn K cd3 "summed_stretches" = true)
    (k3 : PySem.W.keepIn K (.ref f3) = true)
    (a4 : PySem.W.nsIn K mainGlobals "all_with" = some (some (.ref f4)))
    (l4 : K.lookup f4 = some ⟨oc4, od4, .func (PySem.W.fnOf "all_with" "all_with" (defArgs s_all_with) (defBody s_all_with) (defScope s_all_with) .none kV4 dc4 pm4 an4 cd4 ct4), sl4⟩)
    (c4 : PySem.W.codeIn K cd4 "all_with" = true)
    (k4 : PySem.W.keepIn K (.ref f4) = true)
    (a5 : PySem.W.nsIn K mainGlobals "points_of" = some (some (.ref f5)))
    (l5 : K.lookup f5 = some ⟨oc5, od5, .func (PySem.W.fnOf "points_of" "points_of" (defArgs s_points_of) (defBody s_points_of) (defScope s_points_of) .none kV5 dc5 pm5 an5 (.ref cc5) ct5), sl5⟩)
    (c5 : PySem.W.codeIn K (.ref cc5) "points_of" = true)
    (k5 : PySem.W.keepIn K (.ref f5) = true)
    (q5 : K.lookup cc5 = some ⟨qo5, qd5, .fields qv5, qs5⟩)
    (w5 : qv5[11]? = some (.ref tt5))
    (g5 : PySem.W.codeHdIn K cc5 tt5 = true)
    (n5 : K.lookup tt5 = none)
    (m5 : tt5 ∈ ts)
    (a6 : PySem.W.nsIn K mainGlobals "points_shown" = some (some (.ref f6)))
    (l6 : K.lookup f6 = some ⟨oc6, od6, .func (PySem.W.fnOf "points_shown" "points_shown" (defArgs s_points_shown) (defBody s_points_shown) (defScope s_points_shown) .none kV6 dc6 pm6 an6 cd6 ct6), sl6⟩)
    (c6 : PySem.W.codeIn K cd6 "points_shown" = true)
    (k6 : PySem.W.keepIn K (.ref f6) = true)
    (a7 : PySem.W.nsIn K mainGlobals "are_points" = some (some (.ref f7)))
    (l7 : K.lookup f7 = some ⟨oc7, od7, .func (PySem.W.fnOf "are_points" "are_points" (defArgs s_are_points) (defBody s_are_points) (defScope s_are_points) .none kV7 dc7 pm7 an7 cd7 ct7), sl7⟩)
    (c7 : PySem.W.codeIn K cd7 "are_points" = true)
    (k7 : PySem.W.keepIn K (.ref f7) = true)
    (a8 : PySem.W.nsIn K mainGlobals "is_hit" = some (some (.ref f8)))
    (l8 : K.lookup f8 = some ⟨oc8, od8, .func (PySem.W.fnOf "is_hit" "is_hit" (defArgs s_is_hit) (defBody s_is_hit) (defScope s_is_hit) .none kV8 dc8 pm8 an8 cd8 ct8), sl8⟩)
    (c8 : PySem.W.codeIn K cd8 "is_hit" = true)
    (k8 : PySem.W.keepIn K (.ref f8) = true)
    (a9 : PySem.W.nsIn K mainGlobals "_law_draw" = some (some (.ref f9)))
    (l9 : K.lookup f9 = some ⟨oc9, od9, .func (PySem.W.fnOf "_law_draw" "_law_draw" (defArgs s_law_draw) (defBody s_law_draw) (defScope s_law_draw) .none kV9 dc9 pm9 an9 cd9 ct9), sl9⟩)
    (c9 : PySem.W.codeIn K cd9 "_law_draw" = true)
    (k9 : PySem.W.keepIn K (.ref f9) = true)
    (a10 : PySem.W.nsIn K mainGlobals "_law_number" = some (some (.ref f10)))
    (l10 : K.lookup f10 = some ⟨oc10, od10, .func (PySem.W.fnOf "_law_number" "_law_number" (defArgs s_law_number) (defBody s_law_number) (defScope s_law_number) .none kV10 dc10 pm10 an10 cd10 ct10), sl10⟩)
    (c10 : PySem.W.codeIn K cd10 "_law_number" = true)
    (k10 : PySem.W.keepIn K (.ref f10) = true)
    (a11 : PySem.W.nsIn K mainGlobals "_law_row" = some (some (.ref f11)))
    (l11 : K.lookup f11 = some ⟨oc11, od11, .func (PySem.W.fnOf "_law_row" "_law_row" (defArgs s_law_row) (defBody s_law_row) (defScope s_law_row) .none kV11 dc11 pm11 an11 cd11 ct11), sl11⟩)
    (c11 : PySem.W.codeIn K cd11 "_law_row" = true)
    (k11 : PySem.W.keepIn K (.ref f11) = true)
    (a12 : PySem.W.nsIn K mainGlobals "_law_ahead" = some (some (.ref f12)))
    (l12 : K.lookup f12 = some ⟨oc12, od12, .func (PySem.W.fnOf "_law_ahead" "_law_ahead" (defArgs s_law_ahead) (defBody s_law_ahead) (defScope s_law_ahead) .none kV12 dc12 pm12 an12 cd12 ct12), sl12⟩)
    (c12 : PySem.W.codeIn K cd12 "_law_ahead" = true)
    (k12 : PySem.W.keepIn K (.ref f12) = true)
    (a13 : PySem.W.nsIn K mainGlobals "_law_with" = some (some (.ref f13)))
    (l13 : K.lookup f13 = some ⟨oc13, od13, .func (PySem.W.fnOf "_law_with" "_law_with" (defArgs s_law_with) (defBody s_law_with) (defScope s_law_with) .none kV13 dc13 pm13 an13 cd13 ct13), sl13⟩)
    (c13 : PySem.W.codeIn K cd13 "_law_with" = true)
    (k13 : PySem.W.keepIn K (.ref f13) = true)
    (a14 : PySem.W.nsIn K mainGlobals "_law_total" = some (some (.ref f14)))
    (l14 : K.lookup f14 = some ⟨oc14, od14, .func (PySem.W.fnOf "_law_total" "_law_total" (defArgs s_law_total) (defBody s_law_total) (defScope s_law_total) .none kV14 dc14 pm14 an14 cd14 ct14), sl14⟩)
    (c14 : PySem.W.codeIn K cd14 "_law_total" = true)
    (k14 : PySem.W.keepIn K (.ref f14) = true)
    (a15 : PySem.W.nsIn K mainGlobals "_law_most_apart" = some (some (.ref f15)))
    (l15 : K.lookup f15 = some ⟨oc15, od15, .func (PySem.W.fnOf "_law_most_apart" "_law_most_apart" (defArgs s_law_most_apart) (defBody s_law_most_apart) (defScope s_law_most_apart) .none kV15 dc15 pm15 an15 cd15 ct15), sl15⟩)
    (c15 : PySem.W.codeIn K cd15 "_law_most_apart" = true)
    (k15 : PySem.W.keepIn K (.ref f15) = true)
    (a16 : PySem.W.nsIn K mainGlobals "_law_hit" = some (some (.ref f16)))
    (l16 : K.lookup f16 = some ⟨oc16, od16, .func (PySem.W.fnOf "_law_hit" "_law_hit" (defArgs s_law_hit) (defBody s_law_hit) (defScope s_law_hit) .none kV16 dc16 pm16 an16 cd16 ct16), sl16⟩)
    (c16 : PySem.W.codeIn K cd16 "_law_hit" = true)
    (k16 : PySem.W.keepIn K (.ref f16) = true)
    (a17 : PySem.W.nsIn K mainGlobals "law" = some (some (.ref f17)))
    (l17 : K.lookup f17 = some ⟨oc17, od17, .func (PySem.W.fnOf "law" "law" (defArgs s_law) (defBody s_law) (defScope s_law) .none kV17 dc17 pm17 an17 cd17 ct17), sl17⟩)
    (c17 : PySem.W.codeIn K cd17 "law" = true)
    (k17 : PySem.W.keepIn K (.ref f17) = true)
    (z_len : PySem.W.nsIn K mainGlobals "len" = some none)
    (z_sum : PySem.W.nsIn K mainGlobals "sum" = some none)
    (z_range : PySem.W.nsIn K mainGlobals "range" = some none)
    (z_tuple : PySem.W.nsIn K mainGlobals "tuple" = some none)
    (z_list : PySem.W.nsIn K mainGlobals "list" = some none)
    (z_int : PySem.W.nsIn K mainGlobals "int" = some none)
    (z_str : PySem.W.nsIn K mainGlobals "str" = some none)
    (z_bool : PySem.W.nsIn K mainGlobals "bool" = some none)
    (z_isinstance : PySem.W.nsIn K mainGlobals "isinstance" = some none)
    (z_min : PySem.W.nsIn K mainGlobals "min" = some none)
    (z_max : PySem.W.nsIn K mainGlobals "max" = some none)
    (z_zip : PySem.W.nsIn K mainGlobals "zip" = some none)
    (z_reversed : PySem.W.nsIn K mainGlobals "reversed" = some none)
    (z_sorted : PySem.W.nsIn K mainGlobals "sorted" = some none)
    (z_abs : PySem.W.nsIn K mainGlobals "abs" = some none)
    (z_all : PySem.W.nsIn K mainGlobals "all" = some none)
    (z_any : PySem.W.nsIn K mainGlobals "any" = some none)
    (z_set : PySem.W.nsIn K mainGlobals "set" = some none)
    (z_ValueError : PySem.W.nsIn K mainGlobals "ValueError" = some none)
    : ∃ (fd : FuncData) (tabs : List Addr), (∀ P ∈ tabs, P ∈ ts ∧ K.lookup P = none ∧ ∃ c, PySem.W.codeHdIn K c P = true) ∧ (∀ (s : Shared) (v : Value), BindsTo s fd ⟨[v], []⟩ [("script", v)]) ∧ (∀ base : Heap, K.In base → base.Ns mainGlobals mg → BmAt mg base → FnOk l.prog w K mg base CX0 6 fa fd ["script"] (spLaw K tabs)) ∧
      ∀ (H : Hp) (a : Addr) (ns : List Int), ns.length ≤ 63 → SqL K H a (ns.map V.int) → (∀ P ∈ tabs, H P = some (.tbl #[])) → spLaw K tabs [.ref a] H (fun v _ => v = .bl true) fun _ _ _ => False := by
  have e := hfa.symm.trans (PySem.W.mg_of X G a17)
  cases e
  have T : Txt mg := ⟨PySem.W.mg_none_of X G z_len, PySem.W.mg_none_of X G z_sum, PySem.W.mg_none_of X G z_range, PySem.W.mg_none_of X G z_tuple, PySem.W.mg_none_of X G z_list, PySem.W.mg_none_of X G z_int, PySem.W.mg_none_of X G z_str, PySem.W.mg_none_of X G z_bool, PySem.W.mg_none_of X G z_isinstance, PySem.W.mg_none_of X G z_min, PySem.W.mg_none_of X G z_max, PySem.W.mg_none_of X G z_zip, PySem.W.mg_none_of X G z_reversed, PySem.W.mg_none_of X G z_sorted, PySem.W.mg_none_of X G z_abs, PySem.W.mg_none_of X G z_all, PySem.W.mg_none_of X G z_any, PySem.W.mg_none_of X G z_set, PySem.W.mg_none_of X G z_ValueError⟩
  have F1 := fun_mk (st := s_sums_ahead) l1 c1 k1
  have b1 := F1.binds (ps := ["row"]) fun _ _ _ _ _ _ us hl => match us, hl with | [_], _ => rfl
  have D1 : DefAt K mg "sums_ahead" s_sums_ahead ["row"] f1 _ := ⟨F1, PySem.W.mg_of X G a1, b1⟩
  have F2 := fun_mk (st := s_stretches_of) l2 c2 k2
  have b2 := F2.binds (ps := ["row"]) fun _ _ _ _ _ _ us hl => match us, hl with | [_], _ => rfl
  have D2 : DefAt K mg "stretches_of" s_stretches_of ["row"] f2 _ := ⟨F2, PySem.W.mg_of X G a2, b2⟩
  have F3 := fun_mk (st := s_summed_stretches) l3 c3 k3
  have b3 := F3.binds (ps := ["row"]) fun _ _ _ _ _ _ us hl => match us, hl with | [_], _ => rfl
  have D3 : DefAt K mg "summed_stretches" s_summed_stretches ["row"] f3 _ := ⟨F3, PySem.W.mg_of X G a3, b3⟩
  have F4 := fun_mk (st := s_all_with) l4 c4 k4
  have b4 := F4.binds (ps := ["row", "total"]) fun _ _ _ _ _ _ us hl => match us, hl with | [_, _], _ => rfl
  have D4 : DefAt K mg "all_with" s_all_with ["row", "total"] f4 _ := ⟨F4, PySem.W.mg_of X G a4, b4⟩
  have F5 := fun_mk (st := s_points_of) l5 c5 k5
  have b5 := F5.binds (ps := ["row", "total"]) fun _ _ _ _ _ _ us hl => match us, hl with | [_, _], _ => rfl
  have D5 : DefAtC K mg "points_of" s_points_of ["row", "total"] f5 _ cc5 tt5 := ⟨⟨⟨_, _, _, _, _, _, _, _, rfl, l5, c5⟩, k5, g5⟩, PySem.W.mg_of X G a5, b5⟩
  have F6 := fun_mk (st := s_points_shown) l6 c6 k6
  have b6 := F6.binds (ps := ["row", "total", "points"]) fun _ _ _ _ _ _ us hl => match us, hl with | [_, _, _], _ => rfl
  have D6 : DefAt K mg "points_shown" s_points_shown ["row", "total", "points"] f6 _ := ⟨F6, PySem.W.mg_of X G a6, b6⟩
  have F7 := fun_mk (st := s_are_points) l7 c7 k7
  have b7 := F7.binds (ps := ["row", "points"]) fun _ _ _ _ _ _ us hl => match us, hl with | [_, _], _ => rfl
  have D7 : DefAt K mg "are_points" s_are_points ["row", "points"] f7 _ := ⟨F7, PySem.W.mg_of X G a7, b7⟩
  have F8 := fun_mk (st := s_is_hit) l8 c8 k8
  have b8 := F8.binds (ps := ["stretch", "points"]) fun _ _ _ _ _ _ us hl => match us, hl with | [_, _], _ => rfl
  have D8 : DefAt K mg "is_hit" s_is_hit ["stretch", "points"] f8 _ := ⟨F8, PySem.W.mg_of X G a8, b8⟩
  have F9 := fun_mk (st := s_law_draw) l9 c9 k9
  have b9 := F9.binds (ps := ["script", "k"]) fun _ _ _ _ _ _ us hl => match us, hl with | [_, _], _ => rfl
  have D9 : DefAt K mg "_law_draw" s_law_draw ["script", "k"] f9 _ := ⟨F9, PySem.W.mg_of X G a9, b9⟩
  have F10 := fun_mk (st := s_law_number) l10 c10 k10
  have b10 := F10.binds (ps := ["script", "at", "most"]) fun _ _ _ _ _ _ us hl => match us, hl with | [_, _, _], _ => rfl
  have D10 : DefAt K mg "_law_number" s_law_number ["script", "at", "most"] f10 _ := ⟨F10, PySem.W.mg_of X G a10, b10⟩
  have F11 := fun_mk (st := s_law_row) l11 c11 k11
  have b11 := F11.binds (ps := ["script", "at", "most"]) fun _ _ _ _ _ _ us hl => match us, hl with | [_, _, _], _ => rfl
  have D11 : DefAt K mg "_law_row" s_law_row ["script", "at", "most"] f11 _ := ⟨F11, PySem.W.mg_of X G a11, b11⟩
  have F12 := fun_mk (st := s_law_ahead) l12 c12 k12
  have b12 := F12.binds (ps := ["row"]) fun _ _ _ _ _ _ us hl => match us, hl with | [_], _ => rfl
  have D12 : DefAt K mg "_law_ahead" s_law_ahead ["row"] f12 _ := ⟨F12, PySem.W.mg_of X G a12, b12⟩
  have F13 := fun_mk (st := s_law_with) l13 c13 k13
  have b13 := F13.binds (ps := ["row", "low_sum", "high_sum"]) fun _ _ _ _ _ _ us hl => match us, hl with | [_, _, _], _ => rfl
  have D13 : DefAt K mg "_law_with" s_law_with ["row", "low_sum", "high_sum"] f13 _ := ⟨F13, PySem.W.mg_of X G a13, b13⟩
  have F14 := fun_mk (st := s_law_total) l14 c14 k14
  have b14 := F14.binds (ps := ["script", "at", "row"]) fun _ _ _ _ _ _ us hl => match us, hl with | [_, _, _], _ => rfl
  have D14 : DefAt K mg "_law_total" s_law_total ["script", "at", "row"] f14 _ := ⟨F14, PySem.W.mg_of X G a14, b14⟩
  have F15 := fun_mk (st := s_law_most_apart) l15 c15 k15
  have b15 := F15.binds (ps := ["row", "total"]) fun _ _ _ _ _ _ us hl => match us, hl with | [_, _], _ => rfl
  have D15 : DefAt K mg "_law_most_apart" s_law_most_apart ["row", "total"] f15 _ := ⟨F15, PySem.W.mg_of X G a15, b15⟩
  have F16 := fun_mk (st := s_law_hit) l16 c16 k16
  have b16 := F16.binds (ps := ["row", "total", "points"]) fun _ _ _ _ _ _ us hl => match us, hl with | [_, _, _], _ => rfl
  have D16 : DefAt K mg "_law_hit" s_law_hit ["row", "total", "points"] f16 _ := ⟨F16, PySem.W.mg_of X G a16, b16⟩
  have F17 := fun_mk (st := s_law) l17 c17 k17
  refine ⟨PySem.W.fnOf "law" "law" (defArgs s_law) (defBody s_law) (defScope s_law) .none kV17 dc17 pm17 an17 cd17 ct17, [tt5], fun P hP => ?_, fun s v => .of_eq rfl, fun base _ _ BM => ok_law F17 T BM D1 D2 D3 D4 D5 D6 D7 D8 D9 D10 D11 D12 D13 D14 D15 D16, fun H a ns hl hS hT => ⟨a, ns, rfl, hS, hl, hT, fun _ => rfl⟩⟩
  ·
    rcases List.mem_cons.mp hP with rfl | hP
    · exact ⟨m5, n5, cc5, g5⟩
    cases hP
theorem walk {l : PySem.W.OpenLaw} {q : Program} {loose : List Str} {XP : (Str → Option Value) → Heap → Prop} {YP : World → Heap → Prop} {d : DefRec} {K : Params → PySem.W.Frag} {ts : List Addr} (hn : l.most = some 63) (hdf : d.params.defaults = [])
    (hY : ∀ (w : World) (h : Heap), YP w h → (K w.params).In h ∧ ∀ P ∈ ts, h.get? P = some (PySem.W.tabObj #[]))
    (F : ∀ (w : World) (mg : Str → Option Value) (fa : Addr) (h : Heap), (K w.params).In h → h.Ns mainGlobals mg → mg d.name = some (.ref fa) →
      ∃ (fd : FuncData) (tabs : List Addr), (∀ P ∈ tabs, P ∈ ts ∧ (K w.params).lookup P = none ∧ ∃ c, PySem.W.codeHdIn (K w.params) c P = true) ∧ (∀ (s : Shared) (u : Value), BindsTo s fd ⟨[u], []⟩ [("script", u)]) ∧ (∀ base : Heap, (K w.params).In base → base.Ns mainGlobals mg → BmAt mg base → FnOk l.prog w (K w.params) mg base CX0 6 fa fd ["script"] (spLaw (K w.params) tabs)) ∧
        ∀ (H : Hp) (a : Addr) (ns : List Int), ns.length ≤ 63 → SqL (K w.params) H a (ns.map V.int) → (∀ P ∈ tabs, H P = some (.tbl #[])) → spLaw (K w.params) tabs [.ref a] H (fun v _ => v = .bl true) fun _ _ _ => False) :
    PySem.W.WalkO q loose XP YP l.row.toRowW d [] (fun f vs => PySem.call f vs) :=
  L2.walk_ofT (n := 63) (k := 6) (x := "script") (sp := fun w tabs => spLaw (K w.params) tabs) hn (by decide) hdf ⟨rfl, by decide, by decide⟩ hY F
end My
open PySem PySem.W PyProof.Rows
set_option maxRecDepth 100000 in
set_option maxHeartbeats 0 in
theorem PySem.Challenge.cw_toldsums_k27_points_that_hit_holds : PySem.Challenge.rw_toldsums_k27_points_that_hit.Holds := by
  w_on; o_law; k_head; (case hw => w_witness2)
  k_fill
  refine My.walk (l := PySem.Challenge.rw_toldsums_k27_points_that_hit) rfl rfl (fun w h Y => ⟨PySem.W.km_in_of Y, PySem.W.km_tabs_of Y⟩) ?F
  case F =>
    intro w mg fa h KX G hmg
    refine' My.all_mk KX G hmg ?a1 ?l1 ?c1 ?k1 ?a2 ?l2 ?c2 ?k2 ?a3 ?l3 ?c3 ?k3 ?a4 ?l4 ?c4 ?k4 ?a5 ?l5 ?c5 ?k5 ?q5 ?w5 ?g5 ?n5 ?m5 ?a6 ?l6 ?c6 ?k6 ?a7 ?l7 ?c7 ?k7 ?a8 ?l8 ?c8 ?k8 ?a9 ?l9 ?c9 ?k9 ?a10 ?l10 ?c10 ?k10 ?a11 ?l11 ?c11 ?k11 ?a12 ?l12 ?c12 ?k12 ?a13 ?l13 ?c13 ?k13 ?a14 ?l14 ?c14 ?k14 ?a15 ?l15 ?c15 ?k15 ?a16 ?l16 ?c16 ?k16 ?a17 ?l17 ?c17 ?k17 ?z_len ?z_sum ?z_range ?z_tuple ?z_list ?z_int ?z_str ?z_bool ?z_isinstance ?z_min ?z_max ?z_zip ?z_reversed ?z_sorted ?z_abs ?z_all ?z_any ?z_set ?z_ValueError
    (case a1 => k_is)
    (case l1 => k_is)
    (case c1 => k_is)
    (case k1 => k_is)
    (case a2 => k_is)
    (case l2 => k_is)
    (case c2 => k_is)
    (case k2 => k_is)
    (case a3 => k_is)
    (case l3 => k_is)
    (case c3 => k_is)
    (case k3 => k_is)
    (case a4 => k_is)
    (case l4 => k_is)
    (case c4 => k_is)
    (case k4 => k_is)
    (case a5 => k_is)
    (case l5 => k_is)
    (case c5 => k_is)
    (case k5 => k_is)
    (case q5 => k_is)
    (case w5 => exact rfl)
    (case g5 => kernel_rfl)
    (case n5 => kernel_rfl)
    (case m5 => first | exact List.Mem.head _ | exact List.Mem.tail _ (List.Mem.head _) | exact List.Mem.tail _ (List.Mem.tail _ (List.Mem.head _)) | decide)
    (case a6 => k_is)
    (case l6 => k_is)
    (case c6 => k_is)
    (case k6 => k_is)
    (case a7 => k_is)
    (case l7 => k_is)
    (case c7 => k_is)
    (case k7 => k_is)
    (case a8 => k_is)
    (case l8 => k_is)
    (case c8 => k_is)
    (case k8 => k_is)
    (case a9 => k_is)
    (case l9 => k_is)
    (case c9 => k_is)
    (case k9 => k_is)
    (case a10 => k_is)
    (case l10 => k_is)
    (case c10 => k_is)
    (case k10 => k_is)
    (case a11 => k_is)
    (case l11 => k_is)
    (case c11 => k_is)
    (case k11 => k_is)
    (case a12 => k_is)
    (case l12 => k_is)
    (case c12 => k_is)
    (case k12 => k_is)
    (case a13 => k_is)
    (case l13 => k_is)
    (case c13 => k_is)
    (case k13 => k_is)
    (case a14 => k_is)
    (case l14 => k_is)
    (case c14 => k_is)
    (case k14 => k_is)
    (case a15 => k_is)
    (case l15 => k_is)
    (case c15 => k_is)
    (case k15 => k_is)
    (case a16 => k_is)
    (case l16 => k_is)
    (case c16 => k_is)
    (case k16 => k_is)
    (case a17 => k_is)
    (case l17 => k_is)
    (case c17 => k_is)
    (case k17 => k_is)
    (case z_len => k_is)
    (case z_sum => k_is)
    (case z_range => k_is)
    (case z_tuple => k_is)
    (case z_list => k_is)
    (case z_int => k_is)
    (case z_str => k_is)
    (case z_bool => k_is)
    (case z_isinstance => k_is)
    (case z_min => k_is)
    (case z_max => k_is)
    (case z_zip => k_is)
    (case z_reversed => k_is)
    (case z_sorted => k_is)
    (case z_abs => k_is)
    (case z_all => k_is)
    (case z_any => k_is)
    (case z_set => k_is)
    (case z_ValueError => k_is)

