import PyProof.Rows.All
import Wide.All
import OpenK.AllK
import Wide.FinOn
import Lean
import PyProof.EqAt
import PyProof.EqKinds
import PyProof.TupleCall
import PyProof.ZipIter
import PyProof.NeKinds
import PyProof.Rows.CallKwBuiltin
import KE.KDictSum
import KE.KSortTup
import KE.KRevIter
import PyProof.Rows.Range3
import PyProof.Rows.FactsT2
import PyProof.DictTable
import PyProof.NsDelKeeps
import PyProof.Rows.SortRuns
import PyProof.ListRange
import KE.KLam
import KE.KNestM
import KE.KIntText
import PyProof.StrLawsTight
import PyProof.StrLawsIn
import PyProof.StrLawsAffix
import PyProof.StrLawsChain
import PyProof.StrWalks
import PyProof.ConsumeWalk
import PyProof.SliceStr2
import PyProof.StrLawsIdx
import PyProof.StrOps2
import PyProof.AutoSeq1
import PyProof.ListMulRoad
import KE.KSortKey
import PyProof.DictTruth
import PyProof.Rows.SetFrom
import PyProof.SetRoads
import PyProof.Cells
import PySem.Challenge.RW_toldsums_k02_texts_of_no_row
set_option Elab.async false
set_option linter.all false
set_option maxRecDepth 100000
set_option maxHeartbeats 4000000
/-! THE HAND LAYER, for ints, bools, texts, own classes, LISTS and tuples (index, slices, in, append, pop ..), calls, loops. Paste it whole ahead of your own text; what your proof does not reach may be deleted. -/
namespace L2
open PySem PySem.Spec PyProof.Rows

/-- a key: an int or a str -/
abbrev Key := Sum Int Str
def keyIs : Key → Value → Bool
  | .inl k, v => Value.isInt k v
  | .inr x, v => Value.isStrOf x v
def keyH (w : World) : Key → Int
  | .inl k => hashInt k
  | .inr x => hashStr w x
theorem keyIs_shape : ∀ {k : Key} {v : Value}, keyIs k v = true → (∃ i t, k = Sum.inl i ∧ v = Value.int i t) ∨ (∃ x t, k = Sum.inr x ∧ v = Value.str x t)
  | .inl i, v, h => by
    obtain ⟨t, e⟩ := Value.isInt_shape (k := i) (v := v) h
    exact .inl ⟨i, t, rfl, e⟩
  | .inr x, v, h => by
    obtain ⟨t, e⟩ := Value.isStrOf_shape (x := x) (v := v) h
    exact .inr ⟨x, t, rfl, e⟩
theorem key_ll (a b : Int) : decide ((Sum.inl a : Key) = Sum.inl b) = (a == b) := by
  by_cases e : a = b
  · subst e; simp
  · have h : ¬ (Sum.inl a : Key) = Sum.inl b := fun q => e (Sum.inl.inj q)
    rw [decide_eq_false h]
    exact (beq_eq_false_iff_ne.mpr e).symm
theorem key_rr (a b : Str) : decide ((Sum.inr a : Key) = Sum.inr b) = decide (a = b) := by
  by_cases e : a = b
  · subst e; simp
  · have h : ¬ (Sum.inr a : Key) = Sum.inr b := fun q => e (Sum.inr.inj q)
    rw [decide_eq_false h, decide_eq_false e]
theorem key_lr (a : Int) (b : Str) : decide ((Sum.inl a : Key) = Sum.inr b) = false := decide_eq_false (fun q => nomatch q)
theorem key_rl (a : Str) (b : Int) : decide ((Sum.inr a : Key) = Sum.inl b) = false := decide_eq_false (fun q => nomatch q)

def mixKind (prog : Program) (w : World) : PySem.KeyKind prog w Key where
  is := keyIs
  hash := keyH w
  inj := fun v a b ha hb => by
    rcases keyIs_shape ha with ⟨i, t, rfl, rfl⟩ | ⟨x, t, rfl, rfl⟩
    · rcases keyIs_shape hb with ⟨j, u, rfl, e⟩ | ⟨y, u, rfl, e⟩
      · injection e with e1 _; rw [e1]
      · exact nomatch e
    · rcases keyIs_shape hb with ⟨j, u, rfl, e⟩ | ⟨y, u, rfl, e⟩
      · exact nomatch e
      · injection e with e1 _; rw [e1]
  byValue := fun k v h => by
    rcases keyIs_shape h with ⟨i, t, rfl, rfl⟩ | ⟨x, t, rfl, rfl⟩ <;> rfl
  pyHash := fun hv h => by
    rcases keyIs_shape hv with ⟨i, t, rfl, rfl⟩ | ⟨x, t, rfl, rfl⟩
    · exact wpAny_pyHash_int h
    · exact wpAny_pyHash_str h
  eqBool := fun hu hv h => by
    rcases keyIs_shape hu with ⟨i, t, rfl, rfl⟩ | ⟨x, t, rfl, rfl⟩
    · rcases keyIs_shape hv with ⟨j, u, rfl, rfl⟩ | ⟨y, u, rfl, rfl⟩
      · rw [key_ll] at h; exact wpAny_eqBool_int h
      · rw [key_lr] at h; exact SeqAt.EqAt.int_str i t y u _ _ _ _ h
    · rcases keyIs_shape hv with ⟨j, u, rfl, rfl⟩ | ⟨y, u, rfl, rfl⟩
      · rw [key_rl] at h; exact SeqAt.EqAt.str_int x t j u _ _ _ _ h
      · rw [key_rr] at h; exact wpAny_eqBool_str h
  «strs» := fun k x t v h => by
    rcases keyIs_shape h with ⟨i, u, rfl, e⟩ | ⟨y, u, rfl, e⟩
    · exact nomatch e
    · injection e with e1 _
      subst e1
      cases v <;> rfl

end L2

namespace L2
open PySem PySem.Spec PyProof.Rows

/-- a value, without the heap -/
inductive V where
  | non | bl (b : Bool) | int (i : Int) | str (x : Str) | byt (b : Array UInt8) | flt (b : UInt64) | ref (a : Addr) | ty (n : String)
  deriving DecidableEq

def RelV : V → Value → Prop
  | .non, u => u = Value.none
  | .bl b, u => u = Value.bool b
  | .int i, u => ∃ t, u = Value.int i t
  | .str x, u => ∃ t, u = Value.str x t
  | .byt b, u => ∃ t, u = Value.bytes b t
  | .flt b, u => ∃ t, u = Value.float b t
  | .ref a, u => u = Value.ref a
  | .ty n, u => u = Value.type n

abbrev Vals : List V → List Value → Prop := Paired RelV
theorem Vals.length {xs : List V} {us : List Value} (r : Vals xs us) : xs.length = us.length := Paired.length r
theorem Vals.get : ∀ {xs : List V} {us : List Value} {i : Nat} {x : V}, Vals xs us → xs[i]? = some x → ∃ u, us[i]? = some u ∧ RelV x u
  | _, _, _, _, .nil, e => by simp at e
  | _, _, 0, _, .cons r _, e => by simp at e; subst e; exact ⟨_, rfl, r⟩
  | _, _, i + 1, x, .cons _ t, e => by
    obtain ⟨u, h1, h2⟩ := Vals.get (i := i) (x := x) t (by simpa using e)
    exact ⟨u, by simpa using h1, h2⟩
theorem Vals.set {x : V} {u : Value} (r : RelV x u) : ∀ {xs : List V} {us : List Value} (i : Nat), Vals xs us → Vals (xs.set i x) (us.set i u)
  | _, _, _, .nil => .nil
  | _, _, 0, .cons _ t => .cons r t
  | _, _, i + 1, .cons q t => .cons q (Vals.set r i t)
theorem Vals.append : ∀ {xs ys : List V} {us ws : List Value}, Vals xs us → Vals ys ws → Vals (xs ++ ys) (us ++ ws)
  | _, _, _, _, .nil, s => s
  | _, _, _, _, .cons r t, s => .cons r (Vals.append t s)
theorem Vals.take : ∀ {xs : List V} {us : List Value} (n : Nat), Vals xs us → Vals (xs.take n) (us.take n)
  | _, _, 0, _ => .nil
  | _, _, _ + 1, .nil => .nil
  | _, _, n + 1, .cons r t => .cons r (Vals.take n t)
theorem Vals.drop : ∀ {xs : List V} {us : List Value} (n : Nat), Vals xs us → Vals (xs.drop n) (us.drop n)
  | _, _, 0, r => r
  | _, _, _ + 1, .nil => .nil
  | _, _, n + 1, .cons _ t => Vals.drop n t
def RelO : Option V → Option Value → Prop
  | some v, some u => RelV v u
  | none, none => True
  | _, _ => False
def KV {κ : Type} : List (κ × V) → List (κ × Value) → Prop := Paired fun (p : κ × V) (q : κ × Value) => p.1 = q.1 ∧ RelV p.2 q.2

/-- a key of a dict (00_mix): an int or a text -/
def kV : Key → V
  | .inl i => .int i
  | .inr x => .str x

/-- what stands at a tracked address -/
inductive HO where
  /-- a list -/
  | lst (xs : List V)
  /-- a tuple (never changes) -/
  | tup (xs : List V)
  /-- a dict whose keys are ints and texts; one whose keys are tuples of ints and texts (the empty one is both) -/
  | dK (kvs : List (Key × V)) | dT (kvs : List (List Key × V))
  /-- a set of ints: its members, its size -/
  | set (S : Int → Bool) (n : Nat)
  /-- an instance of the class at C, its dict at dx, its attributes -/
  | ins (C dx : Addr) (fs : List (Str × V))
  /-- the dict of the instance at x -/
  | own (x : Addr)
  /-- the dict of an exception -/
  | xd (fs : List (Str × V))
  /-- a bound method, f of x -/
  | met (f x : Addr)
  /-- a range object lo, lo + 1, .. below hi -/
  | rng (lo hi : Int)
  /-- a thing that is known to the object (the script; a dict while a loop walks it): read, never written while it is so -/
  | frz (o : Obj) (u : HO)
  /-- a code object's table -/
  | tbl (ps : Array Value)
  /-- any other thing, by what is true of its one object (a def of one's own: SetO a S n := HO.ext fun h => ..) -/
  | ext (φ : Heap → Prop)

abbrev Hp := Addr → Option HO
def upd (H : Hp) (a : Addr) (o : HO) : Hp := fun b => if b = a then some o else H b
theorem upd_same {H : Hp} {a : Addr} {o : HO} : upd H a o a = some o := by unfold upd; rw [if_pos rfl]
theorem upd_ne {H : Hp} {a b : Addr} {o : HO} (h : b ≠ a) : upd H a o b = H b := by unfold upd; rw [if_neg h]
/-- two objects of different content stand apart -/
theorem ne_of {H : Hp} {a b : Addr} {o u : HO} (h : H a = some o) (h' : H b = some u) (d : o ≠ u) : a ≠ b := by
  intro e; subst e; rw [h] at h'; exact d (Option.some.inj h')
theorem ne_of_none {H : Hp} {a b : Addr} {o : HO} (h : H a = some o) (h' : H b = none) : a ≠ b := by
  intro e; subst e; rw [h] at h'; cases h'

section
variable (P : Program) (w : World)
def ObjOk (H : Hp) (h : Heap) (a : Addr) : HO → Prop
  | .lst xs => xs.length ≤ sizeLine ∧ ∃ (its : List Value) (n : Nat), Vals xs its ∧ h.get? a = some { cls := .type "list", data := .seq its.toArray n }
  | .tup xs => xs.length ≤ sizeLine ∧ ∃ its : List Value, Vals xs its ∧ IsTup h a its.toArray
  | .dK kvs => kvs.length ≤ sizeLine ∧ (a == sysModules) = false ∧ ∃ vs, KV kvs vs ∧ h.DictOf (mixKind P w) a vs
  | .dT kvs => kvs.length ≤ sizeLine ∧ (a == sysModules) = false ∧ ∃ xs : List (List Key × Addr × Value),
      Paired (fun (p : List Key × V) (q : List Key × Addr × Value) => p.1 = q.1 ∧ H q.2.1 = some (.tup (p.1.map kV)) ∧ RelV p.2 q.2.2) kvs xs ∧
      ∃ o es ep, h.get? a = some o ∧ o.ExactDict ∧ o.data = .dict es ep ∧ es.toList = xs.map (entryOfKey (tupleKind (mixKind P w))) ∧ (xs.map (·.1)).Nodup
  | .set S n => h.SetOf (intKind P w) a S n
  | .ins C dx fs => H dx = some (.own a) ∧ fs.length ≤ 1000 ∧ dx ≠ a ∧ h.get? a = some (PySem.W.instObj C dx) ∧
      ∃ mA, h.Ns1 dx mA ∧ (∀ f, RelO (fs.lookup f) (mA f)) ∧ PySem.Within mA (fs.map (·.1))
  | .own _ => ∃ o, h.get? a = some o
  | .xd fs => ∃ mA, h.Ns1 a mA ∧ ∀ f, RelO (fs.lookup f) (mA f)
  | .rng lo hi => ∃ t u v, h.get? a = some { cls := .type "range", data := .fields #[.int lo t, .int hi u, .int 1 v] }
  | .frz o u => h.get? a = some o ∧ ObjOk H h a u
  | .tbl ps => h.get? a = some { cls := .none, data := .fields ps }
  | .met f x => h.get? a = some (PySem.W.methodObj (.ref f) (.ref x))
  | .ext φ => φ h ∧ (∃ o, h.get? a = some o) ∧ ∀ h1 h2 : Heap, φ h1 → (∀ o, h1.get? a = some o → h2.get? a = some o) → φ h2
/-- the abstract heap is held -/
def HOk (H : Hp) (h : Heap) : Prop := ∀ a o, H a = some o → ObjOk P w H h a o
end

section
variable {P : Program} {w : World} {H H' : Hp} {h h' : Heap} {a : Addr} {o : HO}
theorem ObjOk.lt (x : ObjOk P w H h a o) : a < h.objs.size := by
  cases o with
  | lst xs => obtain ⟨_, _, _, _, e⟩ := x; exact Heap.lt_size e
  | tup xs => obtain ⟨_, _, _, p⟩ := x; exact p.lt
  | dK kvs => obtain ⟨_, _, _, _, o, _, _, e, _⟩ := x; exact Heap.lt_size e
  | dT kvs => obtain ⟨_, _, _, _, o, _, _, e, _⟩ := x; exact Heap.lt_size e
  | set S n => obtain ⟨o, _, _, _, e, _⟩ := x; exact Heap.lt_size e
  | ins C dx fs => obtain ⟨_, _, _, e, _⟩ := x; exact Heap.lt_size e
  | own y => obtain ⟨_, e⟩ := x; exact Heap.lt_size e
  | xd fs => obtain ⟨_, ⟨_, _, _, e, _⟩, _⟩ := x; exact Heap.lt_size e
  | rng lo hi => obtain ⟨_, _, _, e⟩ := x; exact Heap.lt_size e
  | frz ob u => obtain ⟨e, _⟩ := x; exact Heap.lt_size e
  | tbl ps => exact Heap.lt_size (show h.get? a = some _ from x)
  | met f y => exact Heap.lt_size (show h.get? a = some _ from x)
  | ext φ => obtain ⟨_, ⟨_, e⟩, _⟩ := x; exact Heap.lt_size e
theorem Paired.mapP {α β : Type} {F G : α → β → Prop} : ∀ {l₁ : List α} {l₂ : List β}, Paired F l₁ l₂ → (∀ a b, F a b → G a b) → Paired G l₁ l₂
  | _, _, .nil, _ => .nil
  | _, _, .cons r t, f => .cons (f _ _ r) (Paired.mapP t f)
theorem Paired.imp' {α β : Type} {F G : α → β → Prop} (f : ∀ a b, F a b → G a b) {l₁ : List α} {l₂ : List β} (r : Paired F l₁ l₂) : Paired G l₁ l₂ := Paired.mapP r f
/-- what an object's description leans on: its own object, its own dict, the tuples -/
theorem ObjOk.stay (x : ObjOk P w H h a o) (k : ∀ b u, (b = a ∨ H b = some (.own a)) → h.get? b = some u → h'.get? b = some u)
    (ho : ∀ b, H b = some (.own a) → H' b = some (.own a)) (ht : ∀ b xs, H b = some (.tup xs) → H' b = some (.tup xs)) : ObjOk P w H' h' a o := by
  induction o with
  | lst xs => obtain ⟨z, its, n, r, e⟩ := x; exact ⟨z, its, n, r, k _ _ (.inl rfl) e⟩
  | tup xs => obtain ⟨z, its, r, ob, e, c⟩ := x; exact ⟨z, its, r, ob, k _ _ (.inl rfl) e, c⟩
  | dK kvs => obtain ⟨z, y, vs, r, ob, es, ep, e, c⟩ := x; exact ⟨z, y, vs, r, ob, es, ep, k _ _ (.inl rfl) e, c⟩
  | dT kvs =>
    obtain ⟨z, y, xs, r, ob, es, ep, e, c⟩ := x
    exact ⟨z, y, xs, Paired.mapP r fun p q z => ⟨z.1, ht _ _ z.2.1, z.2.2⟩, ob, es, ep, k _ _ (.inl rfl) e, c⟩
  | set S n => obtain ⟨ob, es, ep, t, e, c⟩ := x; exact ⟨ob, es, ep, t, k _ _ (.inl rfl) e, c⟩
  | ins C dx fs =>
    obtain ⟨d, z, ne, e, mA, ⟨od, es, ep, e2, c⟩, r⟩ := x
    exact ⟨ho _ d, z, ne, k _ _ (.inl rfl) e, mA, ⟨od, es, ep, k _ _ (.inr d) e2, c⟩, r⟩
  | own y => obtain ⟨ob, e⟩ := x; exact ⟨ob, k _ _ (.inl rfl) e⟩
  | xd fs => obtain ⟨mA, ⟨od, es, ep, e, c⟩, r⟩ := x; exact ⟨mA, ⟨od, es, ep, k _ _ (.inl rfl) e, c⟩, r⟩
  | rng lo hi => obtain ⟨t, u, v, e⟩ := x; exact ⟨t, u, v, k _ _ (.inl rfl) e⟩
  | frz ob u ih => obtain ⟨e, q⟩ := x; exact ⟨k _ _ (.inl rfl) e, ih q⟩
  | tbl ps =>
    have e : h.get? a = some { cls := .none, data := .fields ps } := x
    show h'.get? a = some { cls := .none, data := .fields ps }
    exact k a _ (.inl rfl) e
  | met f y =>
    have e : h.get? a = some (PySem.W.methodObj (.ref f) (.ref y)) := x
    show h'.get? a = some (PySem.W.methodObj (.ref f) (.ref y))
    exact k a _ (.inl rfl) e
  | ext φ => obtain ⟨p, ⟨o, e⟩, st⟩ := x; exact ⟨st _ _ p fun o q => k _ _ (.inl rfl) q, ⟨o, k _ _ (.inl rfl) e⟩, st⟩
theorem HOk.lt (x : HOk P w H h) (e : H a = some o) : a < h.objs.size := (x a o e).lt
theorem HOk.fresh (x : HOk P w H h) (e : h.objs.size ≤ a) : H a = none := by
  cases q : H a with
  | none => rfl
  | some u => exact absurd (Nat.lt_of_lt_of_le (x.lt q) e) (Nat.lt_irrefl _)
/-- every object of the heap is kept -/
theorem HOk.kept (x : HOk P w H h) (k : ∀ b u, h.get? b = some u → h'.get? b = some u) : HOk P w H h' := fun a o e =>
  (x a o e).stay (fun b u _ q => k b u q) (fun _ q => q) fun _ _ q => q
/-- a new object is laid and tracked -/
theorem HOk.laid (x : HOk P w H h) (k : ∀ b u, h.get? b = some u → h'.get? b = some u) (hp : h.objs.size ≤ a) (new : ObjOk P w (upd H a o) h' a o) : HOk P w (upd H a o) h' := fun b u e => by
  have hn := x.fresh hp
  by_cases hb : b = a
  · subst hb; rw [upd_same] at e; cases e; exact new
  · rw [upd_ne hb] at e
    exact (x b u e).stay (fun c v _ q => k c v q) (fun c q => by rw [upd_ne (ne_of_none q hn)]; exact q) fun c xs q => by rw [upd_ne (ne_of_none q hn)]; exact q
end

/-- what may be read as u: it is u, or a known u -/
def Rd (H : Hp) (a : Addr) (u : HO) : Prop := H a = some u ∨ ∃ o, H a = some (.frz o u)
theorem Rd.of {H : Hp} {a : Addr} {u : HO} (h : H a = some u) : Rd H a u := .inl h
theorem Rd.ok {P : Program} {w : World} {H : Hp} {h : Heap} {a : Addr} {u : HO} (r : Rd H a u) (x : HOk P w H h) : ObjOk P w H h a u := by
  rcases r with r | ⟨o, r⟩
  · exact x a u r
  · obtain ⟨_, q⟩ := x a _ r
    exact q
/-- what may be written -/
def Mut : Option HO → Prop
  | some (.lst _) => True
  | some (.dK _) => True
  | some (.dT _) => True
  | some (.set _ _) => True
  | some (.ins _ _ _) => True
  | some (.ext _) => True
  | _ => False
section
variable {P : Program} {w : World} {H : Hp} {h h' : Heap} {x e : Addr} {o' : HO}
/-- the object at e is changed: x itself, or the dict of the instance x -/
theorem HOk.write (ok : HOk P w H h) (mu : Mut (H x)) (he : e = x ∨ H e = some (.own x)) (k : ∀ b u, b ≠ e → h.get? b = some u → h'.get? b = some u) (heo : ∃ u, h'.get? e = some u)
    (new : ObjOk P w (upd H x o') h' x o') : HOk P w (upd H x o') h' := fun b u q => by
  have nown : ∀ c y, H c = some (.own y) → c ≠ x := fun c y r z => by subst z; rw [r] at mu; exact mu
  have ntup : ∀ c xs, H c = some (.tup xs) → c ≠ x := fun c xs r z => by subst z; rw [r] at mu; exact mu
  by_cases hb : b = x
  · subst hb; rw [upd_same] at q; cases q; exact new
  · rw [upd_ne hb] at q
    by_cases hbe : b = e
    · have q' : H b = some (.own x) := by
        rcases he with z | z
        · exact absurd (hbe.trans z) hb
        · rw [hbe]; exact z
      rw [q] at q'; cases q'
      obtain ⟨v, hv⟩ := heo
      exact ⟨v, by rw [hbe]; exact hv⟩
    · refine (ok b u q).stay (fun c v hc r => k c v ?_ r) (fun c r => by rw [upd_ne (nown c b r)]; exact r) fun c xs r => by rw [upd_ne (ntup c xs r)]; exact r
      rcases hc with rfl | hc
      · exact hbe
      · rintro rfl
        rcases he with z | z
        · exact nown c b hc z
        · rw [hc] at z; cases z; exact hb rfl
end

/-! ### kept unless tracked; of the frames at fs (the callers') the slots may change (an exception that passes writes there); of the records at ex (iterators) nothing is said -/
structure Un (fs ex : List Addr) (H H' : Hp) (h h' : Heap) : Prop where
  keep : ∀ b o, h.get? b = some o → H b = none → b ∉ fs → b ∉ ex → h'.get? b = some o
  slot : ∀ b o, h.get? b = some o → H b = none → b ∈ fs → b ∉ ex → ∃ sl, h'.get? b = some { o with slots := sl }
  free : ∀ b o, h.get? b = some o → H b = none → b ∉ ex → H' b = none
  there : ∀ b o, h.get? b = some o → b ∉ ex → ∃ o', h'.get? b = some o'
  tups : ∀ b xs, H b = some (.tup xs) → H' b = some (.tup xs)
  frzs : ∀ b o u, H b = some (.frz o u) → H' b = some (.frz o u)
  tbls : ∀ b ps, H b = some (.tbl ps) → ∃ more, H' b = some (.tbl (ps ++ more))
section
variable {fs fs' ex ex' : List Addr} {H H1 H2 : Hp} {h h1 h2 h' : Heap} {a x e : Addr} {o : HO}
theorem Un.any (u : Un fs ex H H1 h h1) {b : Addr} {ob : Obj} (q : h.get? b = some ob) (n : H b = none) (hx : b ∉ ex) : ∃ sl, h1.get? b = some { ob with slots := sl } := by
  by_cases hb : b ∈ fs
  · exact u.slot b ob q n hb hx
  · exact ⟨ob.slots, u.keep b ob q n hb hx⟩
theorem Un.trans (a : Un fs ex H H1 h h1) (b : Un fs ex H1 H2 h1 h2) : Un fs ex H H2 h h2 where
  keep := fun c ob q n hc hx => b.keep c ob (a.keep c ob q n hc hx) (a.free c ob q n hx) hc hx
  slot := fun c ob q n hc hx => by
    obtain ⟨sl, e1⟩ := a.slot c ob q n hc hx
    obtain ⟨sl', e2⟩ := b.slot c _ e1 (a.free c ob q n hx) hc hx
    exact ⟨sl', e2⟩
  free := fun c ob q n hx => by
    obtain ⟨o', e1⟩ := a.there c ob q hx
    exact b.free c o' e1 (a.free c ob q n hx) hx
  there := fun c ob q hx => by
    obtain ⟨o', e1⟩ := a.there c ob q hx
    exact b.there c o' e1 hx
  tups := fun c xs q => b.tups c xs (a.tups c xs q)
  frzs := fun c ob xs q => b.frzs c ob xs (a.frzs c ob xs q)
  tbls := fun c ps q => by
    obtain ⟨m1, e1⟩ := a.tbls c ps q
    obtain ⟨m2, e2⟩ := b.tbls c _ e1
    exact ⟨m1 ++ m2, by rw [e2, Array.append_assoc]⟩
theorem Un.kept (k : ∀ b u, h.get? b = some u → h'.get? b = some u) : Un fs ex H H h h' :=
  ⟨fun b ob q _ _ _ => k b ob q, fun b ob q _ _ _ => ⟨ob.slots, k b ob q⟩, fun _ _ _ n _ => n, fun b ob q _ => ⟨ob, k b ob q⟩, fun _ _ q => q, fun _ _ _ q => q, fun _ ps q => ⟨#[], by rw [q]; simp⟩⟩
theorem Un.refl : Un fs ex H H h h := Un.kept fun _ _ q => q
theorem Un.laid (k : ∀ b u, h.get? b = some u → h'.get? b = some u) (hp : h.objs.size ≤ a) (hn : H a = none) : Un fs ex H (upd H a o) h h' where
  keep := fun b u q _ _ _ => k b u q
  slot := fun b u q _ _ _ => ⟨u.slots, k b u q⟩
  free := fun b u q n _ => by rw [upd_ne (Nat.ne_of_lt (Nat.lt_of_lt_of_le (Heap.lt_size q) hp))]; exact n
  there := fun b u q _ => ⟨u, k b u q⟩
  tups := fun b xs q => by rw [upd_ne (ne_of_none q hn)]; exact q
  frzs := fun b u xs q => by rw [upd_ne (ne_of_none q hn)]; exact q
  tbls := fun b ps q => ⟨#[], by rw [upd_ne (ne_of_none q hn), q]; simp⟩
theorem Un.write (mu : Mut (H x)) (he : e = x ∨ H e = some (.own x)) (k : ∀ b u, b ≠ e → h.get? b = some u → h'.get? b = some u) (heo : ∃ u, h'.get? e = some u) : Un fs ex H (upd H x o) h h' := by
  have hx : ∀ b, H b = none → b ≠ x := fun b n z => by subst z; rw [n] at mu; exact mu
  have hb : ∀ b, H b = none → b ≠ e := fun b n z => by
    subst z
    rcases he with r | r
    · exact hx b n r
    · rw [n] at r; cases r
  have hm : ∀ b u, H b = some u → ¬ Mut (some u) → b ≠ x := fun b u q nm z => by subst z; rw [q] at mu; exact nm mu
  refine ⟨fun b u q n _ _ => k b u (hb b n) q, fun b u q n _ _ => ⟨u.slots, k b u (hb b n) q⟩, fun b u q n _ => by rw [upd_ne (hx b n)]; exact n, fun b u q _ => ?_,
    fun b xs q => by rw [upd_ne (hm b _ q fun z => z)]; exact q, fun b u xs q => by rw [upd_ne (hm b _ q fun z => z)]; exact q, fun b ps q => ⟨#[], by rw [upd_ne (hm b _ q fun z => z), q]; simp⟩⟩
  by_cases hbe : b = e
  · subst hbe; exact heo
  · exact ⟨u, k b u hbe q⟩
theorem Un.mono (u : Un fs ex H H1 h h1) (hs : ∀ b ∈ fs, b ∈ fs') (hx : ∀ b ∈ ex, b ∈ ex') : Un fs' ex' H H1 h h1 :=
  ⟨fun b ob q n hb he => u.keep b ob q n (fun z => hb (hs b z)) fun z => he (hx b z), fun _ _ q n _ he => u.any q n fun z => he (hx _ z), fun b ob q n he => u.free b ob q n fun z => he (hx b z), fun b ob q he => u.there b ob q fun z => he (hx b z), u.tups, u.frzs, u.tbls⟩
end

/-! ### the heap without what is tracked -/
def trk (h : Heap) (H : Hp) : List Addr := (List.range h.objs.size).filter fun a => (H a).isSome
def hidT (h : Heap) (H : Hp) : Heap := PySem.W.hideAll h (trk h H)
theorem hidT_size (h : Heap) (H : Hp) : (hidT h H).objs.size = h.objs.size := PySem.W.hideAll_size _ _
theorem hidT_get {h : Heap} {H : Hp} {b : Addr} {o : Obj} (e : h.get? b = some o) (n : H b = none) : (hidT h H).get? b = some o :=
  PySem.W.hideAll_get _ e fun hm => by
    have q : (H b).isSome = true := (List.mem_filter.mp hm).2
    rw [n] at q; simp at q
theorem of_hidT {h : Heap} {H : Hp} {b : Addr} {o : Obj} (e : (hidT h H).get? b = some o) : h.get? b = some o ∧ H b = none := by
  have e' : h.get? b = some o := PySem.W.of_hideAll (trk h H) e
  refine ⟨e', ?_⟩
  cases q : H b with
  | none => rfl
  | some x =>
    have hm : b ∈ trk h H := List.mem_filter.mpr ⟨List.mem_range.mpr (Heap.lt_size e'), by simp [q]⟩
    have z : (hidT h H).get? b = none := PySem.W.hideAll_none (trk h H) hm
    rw [z] at e; cases e

/-! ### OpenK's ledger, filled with every new object but one -/
def allNews (g h : Heap) (L : Addr) : List (Addr × Obj) := (List.range h.objs.size).filterMap fun a => if a = L ∨ (g.get? a).isSome = true then none else (h.get? a).map fun o => (a, o)
def rest (g h : Heap) (L d : Addr) : List (Addr × Obj) := (allNews g h L).filter fun p => decide (p.1 ≠ d)
end L2

namespace L2
open PySem PySem.Spec PyProof.Rows

/-- the module's facts, over the base: the heap at the law's entry without what is tracked there -/
structure Mod (K : PySem.W.Frag) (mg : Str → Option Value) (base : Heap) : Prop where
  kin : K.In base
  glob : base.Ns mainGlobals mg
  blt : ∃ mb, base.Ns builtinsNs mb ∧ ∀ x : Str, x ≠ "__name__" → mb x = bootBuiltins x
  nolimit : base.NoLimit

/-- the context: a def's body (or a comprehension's block) running. base: fixed through the whole law; s₀, H₀: the entry; outer: the frames whose slots others may change (a def's callers); stack: all frames that run;
   ex: iterators that were made ahead of the entry and are walked here (a comprehension's); fn: the names whose cells were made at the entry (a def: all; a comprehension's block: its own); calm: not within an except suite; pn: pins that every state bears; xe: what is wanted of an exception that leaves the code -/
structure Cx where
  prog : Program
  w : World
  K : PySem.W.Frag
  mg : Str → Option Value
  base : Heap
  A : Around
  N : List Str
  s₀ : Shared
  H₀ : Hp
  env : Env
  outer : List Env
  stack : List Env
  ex : List Addr
  fn : Str → Bool
  calm : Bool
  pn : List (Addr × Obj)
  xe : Value → Shared → Prop
/-- the callers' frames -/
def frs (l : List Env) : List Addr := l.filterMap (·.frame)
abbrev Cx.fs (X : Cx) : List Addr := frs X.outer

def Vis (sc : Scope) (x : Str) : Prop := sc.names.lookup x = some .local ∨ sc.names.lookup x = some .cell ∨ sc.names.lookup x = some .free
def Loc (sc : Scope) (x : Str) : Prop := sc.names.lookup x = some .local ∨ sc.names.lookup x = some .cell
def Look (env : Env) (h : Heap) (m : Str → Option Value) (x : Str) (u : Value) : Prop :=
  (env.kindOf x = some .local ∧ m x = some u) ∨ ((env.kindOf x = some .cell ∨ env.kindOf x = some .free) ∧ ∃ c, env.cells.lookup x = some c ∧ h.IsCell c (some u))

structure Cx.Ok (X : Cx) : Prop where
  mod : Mod X.K X.mg X.base
  kind : X.env.scope.kind = .function
  glob : X.env.globals = mainGlobals
  blt : X.env.builtins = builtinsNs
  above : X.s₀.heap.objs.size ≤ X.env.locals
  inj : ∀ x y c, X.env.cells.lookup x = some c → X.env.cells.lookup y = some c → x = y
  has : ∀ x, (X.env.kindOf x = some .cell ∨ X.env.kindOf x = some .free) → ∃ c, X.env.cells.lookup x = some c
  cab : ∀ x c, X.fn x = true → X.env.cells.lookup x = some c → X.s₀.heap.objs.size ≤ c
  hd : X.calm = true → X.A.handled = none
  frames : X.A.frames = some X.stack
  stk : X.stack = X.outer ∨ (X.stack = X.env :: X.outer ∧ X.env.frame = some X.env.locals)
  exf : ∀ b ∈ X.ex, b ≠ X.env.locals ∧ ∀ x c, X.env.cells.lookup x = some c → c ≠ b
  bs : ∀ b o, X.base.get? b = some o → X.s₀.heap.get? b = some o ∧ X.H₀ b = none
  bsz : X.base.objs.size ≤ X.s₀.heap.objs.size
  noex : ∀ b o, X.base.get? b = some o → b ∉ X.ex
  exfs : ∀ b ∈ X.ex, b ∉ X.fs
  funs : X.s₀.heap.FunFrames X.base X.outer
  frf : ∀ b ∈ X.fs, X.H₀ b = none

structure Inv (X : Cx) (pins : List (Addr × Obj)) (σ : List (Option V)) (H : Hp) (s : Shared) : Prop where
  ok : X.Ok
  os : s.os = X.s₀.os
  bare : AllBare s.gens
  base : Un X.fs X.ex X.H₀ H X.s₀.heap s.heap
  loc : ∃ m, s.heap.Ns X.env.locals m ∧ ∀ (i : Nat) (x : Str) (v : V), X.N[i]? = some x → σ[i]? = some (some v) → Vis X.env.scope x → ∃ u, RelV v u ∧ Look X.env s.heap m x u
  cell : ∀ x c, X.env.cells.lookup x = some c → ∃ v, s.heap.IsCell c v
  free : H X.env.locals = none
  freeC : ∀ x c, X.env.cells.lookup x = some c → H c = none
  pin : ∀ p ∈ X.pn ++ pins, s.heap.get? p.1 = some p.2 ∧ H p.1 = none ∧ p.1 ≠ X.env.locals ∧ p.1 ∉ X.fs ∧ ∀ v, p.2.data ≠ .cell v
  hok : HOk X.prog X.w H s.heap
  len : σ.length = X.N.length

section
variable {X : Cx} {pins : List (Addr × Obj)} {σ : List (Option V)} {H H' : Hp} {s : Shared} {h' : Heap}

theorem Cx.Ok.nofr (ok : X.Ok) {b : Addr} {o : Obj} (e : X.base.get? b = some o) : b ∉ X.fs := fun hb => by
  have := (ok.funs.mem hb).1
  rw [e] at this; cases this
theorem Inv.bs (I : Inv X pins σ H s) : ∀ b o, X.base.get? b = some o → s.heap.get? b = some o ∧ H b = none := fun b o e =>
  ⟨I.base.keep b o (I.ok.bs b o e).1 (I.ok.bs b o e).2 (I.ok.nofr e) (I.ok.noex b o e), I.base.free b o (I.ok.bs b o e).1 (I.ok.bs b o e).2 (I.ok.noex b o e)⟩
theorem Inv.bk (I : Inv X pins σ H s) : ∀ b o, X.base.get? b = some o → s.heap.get? b = some o := fun b o e => (I.bs b o e).1
theorem Inv.mod (I : Inv X pins σ H s) : Mod X.K X.mg X.base := I.ok.mod
theorem Inv.kIn (I : Inv X pins σ H s) : X.K.In s.heap := I.ok.mod.kin.keeps I.bk
/-- the frame over the base: for OpenK's rules (K.In X.base is I.mod.kin) -/
theorem Inv.fr (I : Inv X pins σ H s) : ∃ m, Fr X.base X.env.locals s.heap m :=
  let ⟨m, hn, _⟩ := I.loc
  ⟨m, hn, I.bk, Nat.le_trans I.ok.bsz I.ok.above⟩
theorem Inv.lt (I : Inv X pins σ H s) : X.env.locals < s.heap.objs.size := let ⟨_, hn, _⟩ := I.loc; hn.lt
theorem Inv.sz (I : Inv X pins σ H s) : X.s₀.heap.objs.size ≤ s.heap.objs.size := Nat.le_trans I.ok.above (Nat.le_of_lt I.lt)
theorem Inv.nofs (I : Inv X pins σ H s) {a : Addr} (h : s.heap.objs.size ≤ a) : a ∉ X.fs := fun hb => by
  obtain ⟨_, o, ho, _⟩ := I.ok.funs.mem hb
  exact absurd (Nat.lt_of_lt_of_le (Heap.lt_size ho) (Nat.le_trans I.sz h)) (Nat.lt_irrefl _)
theorem Inv.cne (I : Inv X pins σ H s) : ∀ x c, X.env.cells.lookup x = some c → c ≠ X.env.locals := fun x c e z => by
  obtain ⟨v, o, ho, hd⟩ := I.cell x c e
  obtain ⟨m, ⟨o', es, ep, ho', hd', _⟩, _⟩ := I.loc
  rw [z, ho'] at ho; cases ho; rw [hd'] at hd; cases hd
theorem Inv.funs (I : Inv X pins σ H s) : s.heap.FunFrames X.base X.outer := by
  have all : ∀ (l : List Env), (∀ b ∈ frs l, b ∈ X.fs) → X.s₀.heap.FunFrames X.base l → s.heap.FunFrames X.base l := by
    intro l
    induction l with
    | nil => intro _ _; trivial
    | cons env r ih =>
      intro hs hl
      obtain ⟨hk, ⟨L, o, hf, hn, ho, hd⟩, hr⟩ := hl
      have hL : L ∈ X.fs := hs L (by unfold frs; rw [List.filterMap_cons, hf]; exact List.mem_cons_self)
      obtain ⟨sl, e⟩ := I.base.slot L o ho (I.ok.frf L hL) hL fun z => I.ok.exfs L z hL
      exact ⟨hk, ⟨L, _, hf, hn, e, hd⟩, ih (fun b hb => hs b (by unfold frs; rw [List.filterMap_cons, hf]; exact List.mem_cons_of_mem _ hb)) hr⟩
  exact all X.outer (fun _ hb => hb) I.ok.funs

/-- the frames that run, for a call -/
theorem Inv.stack (I : Inv X pins σ H s) : s.heap.FunFrames X.base X.stack := by
  rcases I.ok.stk with e | ⟨e, hf⟩
  · rw [e]; exact I.funs
  · rw [e]
    obtain ⟨m, hn, _⟩ := I.loc
    refine .cons (by rw [I.ok.kind]; decide) hf hn ?_ I.funs
    exact Heap.get?_none_of_le (Nat.le_trans I.ok.bsz I.ok.above)
theorem Inv.stkSub (I : Inv X pins σ H s) : ∀ b ∈ frs X.stack, b ∈ X.env.locals :: X.fs := fun b hb => by
  rcases I.ok.stk with e | ⟨e, hf⟩
  · rw [e] at hb; exact List.mem_cons_of_mem _ hb
  · rw [e] at hb
    unfold frs at hb
    rw [List.filterMap_cons, hf] at hb
    exact hb
theorem Inv.stkFree (I : Inv X pins σ H s) : ∀ b ∈ frs X.stack, H b = none := fun b hb => by
  rcases List.mem_cons.mp (I.stkSub b hb) with e | hb
  · rw [e]; exact I.free
  · obtain ⟨_, o, ho, _⟩ := I.ok.funs.mem hb
    exact I.base.free b o ho (I.ok.frf b hb) fun z => I.ok.exfs b z hb

/-- THE STEP: the untracked objects but the frame and the records at ch are kept (the callers' frames up to slots), the frame's map is kept, the new abstract heap is held -/
theorem Inv.step {g' : Array GenState} {t' : Nat} {d' : Drawn} {ch : List Addr} (I : Inv X pins σ H s)
    (hch : ∀ b ∈ ch, (b ∈ X.ex ∨ X.s₀.heap.objs.size ≤ b) ∧ b ≠ X.env.locals ∧ (∀ x c, X.env.cells.lookup x = some c → c ≠ b) ∧ ∀ p ∈ X.pn ++ pins, p.1 ≠ b)
    (keep : ∀ b o, b ≠ X.env.locals → b ∉ X.fs → b ∉ ch → s.heap.get? b = some o → H b = none → h'.get? b = some o)
    (slot : ∀ b o, b ≠ X.env.locals → b ∈ X.fs → b ∉ ch → s.heap.get? b = some o → H b = none → ∃ sl, h'.get? b = some { o with slots := sl }) (free : ∀ b o, b ∉ ch → s.heap.get? b = some o → H b = none → H' b = none)
    (there : ∀ b o, b ∉ ch → s.heap.get? b = some o → ∃ o', h'.get? b = some o')
    (tups : ∀ b xs, H b = some (.tup xs) → H' b = some (.tup xs)) (frzs : ∀ b o u, H b = some (.frz o u) → H' b = some (.frz o u)) (tbls : ∀ b ps, H b = some (.tbl ps) → ∃ more, H' b = some (.tbl (ps ++ more)))
    (ns : ∀ m, s.heap.Ns X.env.locals m → h'.Ns X.env.locals m) (hok : HOk X.prog X.w H' h') (hg : AllBare g') :
    Inv X pins σ H' { s with heap := h', gens := g', drawn := d', toks := t' } := by
  have neL : ∀ b o, X.s₀.heap.get? b = some o → b ≠ X.env.locals := fun b o e => Nat.ne_of_lt (Nat.lt_of_lt_of_le (Heap.lt_size e) I.ok.above)
  have neC : ∀ b o, X.s₀.heap.get? b = some o → b ∉ X.ex → b ∉ ch := fun b o e hx hb => by
    rcases (hch b hb).1 with z | z
    · exact hx z
    · exact absurd (Nat.lt_of_lt_of_le (Heap.lt_size e) z) (Nat.lt_irrefl _)
  have cellK : ∀ x c, X.env.cells.lookup x = some c → ∀ v, s.heap.IsCell c v → h'.IsCell c v := fun x c e v ⟨o, ho, hd⟩ => by
    have nch : c ∉ ch := fun z => (hch c z).2.2.1 x c e rfl
    by_cases hc : c ∈ X.fs
    · obtain ⟨sl, q⟩ := slot c o (I.cne x c e) hc nch ho (I.freeC x c e)
      exact ⟨_, q, hd⟩
    · exact ⟨o, keep c o (I.cne x c e) hc nch ho (I.freeC x c e), hd⟩
  refine ⟨I.ok, I.os, hg, ⟨fun b o e n hb hx => ?_, fun b o e n hb hx => ?_, fun b o e n hx => ?_, fun b o e hx => ?_, fun b xs e => tups b xs (I.base.tups b xs e), fun b o xs e => frzs b o xs (I.base.frzs b o xs e), fun b ps e => ?_⟩, ?_, fun x c e => ?_, ?_, fun x c e => ?_, fun p hp => ?_, hok, I.len⟩
  · exact keep b o (neL b o e) hb (neC b o e hx) (I.base.keep b o e n hb hx) (I.base.free b o e n hx)
  · obtain ⟨sl, e1⟩ := I.base.slot b o e n hb hx
    obtain ⟨sl', e2⟩ := slot b _ (neL b o e) hb (neC b o e hx) e1 (I.base.free b o e n hx)
    exact ⟨sl', e2⟩
  · obtain ⟨o', e1⟩ := I.base.there b o e hx
    exact free b o' (neC b o e hx) e1 (I.base.free b o e n hx)
  · obtain ⟨o', e1⟩ := I.base.there b o e hx
    exact there b o' (neC b o e hx) e1
  · obtain ⟨m1, e1⟩ := I.base.tbls b ps e
    obtain ⟨m2, e2⟩ := tbls b _ e1
    exact ⟨m1 ++ m2, by rw [e2, Array.append_assoc]⟩
  · obtain ⟨m, hn, hl⟩ := I.loc
    refine ⟨m, ns m hn, fun i x v e1 e2 e3 => ?_⟩
    obtain ⟨u, r, l⟩ := hl i x v e1 e2 e3
    refine ⟨u, r, ?_⟩
    rcases l with l | ⟨k, c, e, z⟩
    · exact .inl l
    · exact .inr ⟨k, c, e, cellK x c e _ z⟩
  · obtain ⟨v, z⟩ := I.cell x c e
    exact ⟨v, cellK x c e v z⟩
  · obtain ⟨m, ⟨o, _, _, ho, _⟩, _⟩ := I.loc
    exact free _ o (fun z => (hch _ z).2.1 rfl) ho I.free
  · obtain ⟨v, o, ho, hd⟩ := I.cell x c e
    exact free c o (fun z => (hch c z).2.2.1 x c e rfl) ho (I.freeC x c e)
  · obtain ⟨e, n, ne, nf, d⟩ := I.pin p hp
    have nch : p.1 ∉ ch := fun z => (hch p.1 z).2.2.2 p hp rfl
    exact ⟨keep p.1 p.2 ne nf nch e n, free p.1 p.2 nch e n, ne, nf, d⟩
/-- .. where the frame's own object is kept too -/
theorem Inv.un {t' : Nat} (I : Inv X pins σ H s) (u : Un X.fs [] H H' s.heap h') (hok : HOk X.prog X.w H' h') : Inv X pins σ H' { s with heap := h', toks := t' } := by
  obtain ⟨m, ⟨o, es, ep, ho, r⟩, _⟩ := id I.loc
  obtain ⟨sl, hL⟩ := u.any ho I.free (by simp)
  exact I.step (g' := s.gens) (d' := s.drawn) (ch := []) (fun _ z => nomatch z) (fun b o _ hb _ e n => u.keep b o e n hb (by simp)) (fun b o _ hb _ e n => u.slot b o e n hb (by simp)) (fun b o _ e n => u.free b o e n (by simp)) (fun b o _ e => u.there b o e (by simp)) u.tups u.frzs u.tbls (fun m' hm => by
    obtain ⟨o', es', ep', ho', r'⟩ := hm
    rw [ho] at ho'; cases ho'
    exact ⟨_, es', ep', hL, r'⟩) hok I.bare
/-- behind a call (or a comprehension's block): the slots of this frame may have changed too, the records at ch may have turned -/
theorem Inv.call {g' : Array GenState} {t' : Nat} {d' : Drawn} {ch : List Addr} (I : Inv X pins σ H s) (u : Un (frs X.stack) ch H H' s.heap h') (hok : HOk X.prog X.w H' h') (hg : AllBare g')
    (hch : ∀ b ∈ ch, (b ∈ X.ex ∨ X.s₀.heap.objs.size ≤ b) ∧ b ≠ X.env.locals ∧ (∀ x c, X.env.cells.lookup x = some c → c ≠ b) ∧ ∀ p ∈ X.pn ++ pins, p.1 ≠ b) :
    Inv X pins σ H' { s with heap := h', gens := g', drawn := d', toks := t' } := by
  obtain ⟨m, ⟨o, es, ep, ho, r⟩, _⟩ := id I.loc
  obtain ⟨sl, hL⟩ := u.any ho I.free fun z => (hch _ z).2.1 rfl
  exact I.step (ch := ch) hch (fun b o hL hb hc e n => u.keep b o e n (fun z => (List.mem_cons.mp (I.stkSub b z)).elim hL hb) hc) (fun b o _ _ hc e n => u.any e n hc) (fun b o hc e n => u.free b o e n hc) (fun b o hc e => u.there b o e hc) u.tups u.frzs u.tbls (fun m' hm => by
    obtain ⟨o', es', ep', ho', r'⟩ := hm
    rw [ho] at ho'; cases ho'
    exact ⟨_, es', ep', hL, r'⟩) hok hg
/-- an untracked record of ours (an iterator) has turned -/
theorem Inv.turned {t' : Nat} {it : Addr} (I : Inv X pins σ H s) (k : ∀ b o, b ≠ it → s.heap.get? b = some o → h'.get? b = some o) (hn : H it = none) (hL : it ≠ X.env.locals)
    (h1 : it ∈ X.ex ∨ X.s₀.heap.objs.size ≤ it) (h2 : ∀ x c, X.env.cells.lookup x = some c → c ≠ it) (h3 : ∀ p ∈ X.pn ++ pins, p.1 ≠ it) : Inv X pins σ H { s with heap := h', toks := t' } := by
  have nit : ∀ b u, H b = some u → b ≠ it := fun b u e z => by rw [z, hn] at e; cases e
  refine I.step (g' := s.gens) (d' := s.drawn) (ch := [it]) (fun b hb => ?_) (fun b o _ _ hc e _ => k b o (fun z => hc (by simp [z])) e) (fun b o _ _ hc e _ => ⟨o.slots, k b o (fun z => hc (by simp [z])) e⟩) (fun _ _ _ _ n => n)
    (fun b o hc e => ⟨o, k b o (fun z => hc (by simp [z])) e⟩) (fun _ _ e => e) (fun _ _ _ e => e) (fun b ps e => ⟨#[], by rw [e]; simp⟩) (fun m hm => ?_) (fun b u e => ?_) I.bare
  · have e : b = it := by simpa using hb
    subst e
    exact ⟨h1, hL, h2, h3⟩
  · obtain ⟨o, es, ep, ho, r⟩ := hm
    exact ⟨o, es, ep, k _ o (Ne.symm hL) ho, r⟩
  · refine (I.hok b u e).stay (fun c v hc q => k c v ?_ q) (fun _ q => q) fun _ _ q => q
    rcases hc with z | z
    · rw [z]; exact nit b u e
    · exact nit c _ z
theorem Inv.tok (I : Inv X pins σ H s) (t : Nat) : Inv X pins σ H { s with toks := t } := I.un (h' := s.heap) (t' := t) Un.refl I.hok
/-- all objects kept -/
theorem Inv.kept {t' : Nat} (I : Inv X pins σ H s) (k : ∀ b u, s.heap.get? b = some u → h'.get? b = some u) : Inv X pins σ H { s with heap := h', toks := t' } := I.un (Un.kept k) (I.hok.kept k)
/-- a new object laid and tracked -/
theorem Inv.laid {a : Addr} {o : HO} {t' : Nat} (I : Inv X pins σ H s) (k : ∀ b u, s.heap.get? b = some u → h'.get? b = some u) (hp : s.heap.objs.size ≤ a) (new : ObjOk X.prog X.w (upd H a o) h' a o) :
    Inv X pins σ (upd H a o) { s with heap := h', toks := t' } := I.un (Un.laid k hp (I.hok.fresh hp)) (I.hok.laid k hp new)
/-- an object written -/
theorem Inv.write {x e : Addr} {o : HO} {t' : Nat} (I : Inv X pins σ H s) (mu : Mut (H x)) (he : e = x ∨ H e = some (.own x)) (k : ∀ b u, b ≠ e → s.heap.get? b = some u → h'.get? b = some u) (heo : ∃ u, h'.get? e = some u)
    (new : ObjOk X.prog X.w (upd H x o) h' x o) : Inv X pins σ (upd H x o) { s with heap := h', toks := t' } := I.un (Un.write mu he k heo) (I.hok.write mu he k heo new)
theorem Inv.pins_of {pins' : List (Addr × Obj)} (I : Inv X pins σ H s) (h : ∀ p ∈ pins', s.heap.get? p.1 = some p.2 ∧ H p.1 = none ∧ p.1 ≠ X.env.locals ∧ p.1 ∉ X.fs ∧ ∀ v, p.2.data ≠ .cell v) : Inv X pins' σ H s :=
  ⟨I.ok, I.os, I.bare, I.base, I.loc, I.cell, I.free, I.freeC, fun p hp => (List.mem_append.mp hp).elim (fun z => I.pin p (List.mem_append_left _ z)) (h p), I.hok, I.len⟩

theorem nodup_ix {N : List Str} (hN : N.Nodup) {i j : Nat} {x : Str} (a : N[i]? = some x) (b : N[j]? = some x) : i = j := by
  obtain ⟨h1, e1⟩ := List.getElem?_eq_some_iff.mp a
  obtain ⟨h2, e2⟩ := List.getElem?_eq_some_iff.mp b
  exact (List.getElem_inj hN).mp (e1.trans e2.symm)

/-- a name is stored; what changed -/
theorem store_ok2 {M : Model} {A : Around} {E : Value → Shared → Prop} {i : Nat} {x : Str} {v : V} {u : Value} {Q : Unit → Shared → Prop} (I : Inv X pins σ H s) (hN : X.N.Nodup) (hi : X.N[i]? = some x) (hx : Loc X.env.scope x) (r : RelV v u)
    (h : ∀ s', Inv X pins (σ.set i (some v)) H s' → (∃ a, Heap.SameBut a s.heap s'.heap ∧ (a = X.env.locals ∨ X.env.cells.lookup x = some a)) → Q () s') (hf : X.fn x = true ∨ X.env.scope.names.lookup x = some .local := by first | exact .inl rfl | exact .inr rfl | assumption) : wpAny M A (storeName X.env x u) Q E s := by
  obtain ⟨m, hn, hl⟩ := id I.loc
  have hcls : (X.env.scope.kind == .class || (X.env.scope.kind == .module && X.env.locals != X.env.globals)) = false := by rw [I.ok.kind]; rfl
  have hiσ : i < σ.length := by rw [I.len]; exact (List.getElem?_eq_some_iff.mp hi).1
  have cne := I.cne
  have tracked : ∀ {a : Addr} {h' : Heap}, (∃ o, s.heap.get? a = some o ∧ H a = none) → Heap.SameBut a s.heap h' → HOk X.prog X.w H h' := fun {a h'} ha hs b ob e => by
    obtain ⟨_, _, hfree⟩ := ha
    refine (I.hok b ob e).stay (fun c w' hc q => (hs.2 c ?_).trans q) (fun _ q => q) fun _ _ q => q
    rintro rfl
    rcases hc with rfl | hc
    · rw [hfree] at e; cases e
    · rw [hfree] at hc; cases hc
  rcases hx with hk | hk
  · refine wpAny_storeName_local hk hn (fun h' hn' hs => ?_) hcls
    obtain ⟨oL, _, _, hoL, _⟩ := id hn
    refine h _ ⟨I.ok, I.os, I.bare, ⟨fun b o e n hb hx => ?_, fun b o e n hb hx => ?_, I.base.free, fun b o e hx => ?_, I.base.tups, I.base.frzs, I.base.tbls⟩, ⟨_, hn', fun j y v' e1 e2 e3 => ?_⟩, fun y c e => ?_, I.free, I.freeC, fun p hp => ?_, tracked ⟨oL, hoL, I.free⟩ hs, by simpa using I.len⟩ ⟨_, hs, .inl rfl⟩
    · exact (hs.2 b (Nat.ne_of_lt (Nat.lt_of_lt_of_le (Heap.lt_size e) I.ok.above))).trans (I.base.keep b o e n hb hx)
    · obtain ⟨sl, e1⟩ := I.base.slot b o e n hb hx
      exact ⟨sl, (hs.2 b (Nat.ne_of_lt (Nat.lt_of_lt_of_le (Heap.lt_size e) I.ok.above))).trans e1⟩
    · obtain ⟨o', e1⟩ := I.base.there b o e hx
      exact ⟨o', (hs.2 b (Nat.ne_of_lt (Nat.lt_of_lt_of_le (Heap.lt_size e) I.ok.above))).trans e1⟩
    · by_cases hj : j = i
      · subst hj
        rw [hi] at e1; cases e1
        rw [List.getElem?_set_self hiσ] at e2
        cases e2
        exact ⟨u, r, .inl ⟨hk, by simp⟩⟩
      · rw [List.getElem?_set_ne (Ne.symm hj)] at e2
        obtain ⟨u', r', q⟩ := hl j y v' e1 e2 e3
        refine ⟨u', r', ?_⟩
        rcases q with ⟨k, e⟩ | ⟨k, c, e, z⟩
        · refine .inl ⟨k, ?_⟩
          have : y ≠ x := fun e => hj (nodup_ix hN e1 (e ▸ hi))
          simp [this, e]
        · exact .inr ⟨k, c, e, z.sameBut hs (cne y c e)⟩
    · obtain ⟨w', z⟩ := I.cell y c e
      exact ⟨w', z.sameBut hs (cne y c e)⟩
    · obtain ⟨e, n, ne, nf, d⟩ := I.pin p hp
      exact ⟨(hs.2 p.1 ne).trans e, n, ne, nf, d⟩
  · have hfn : X.fn x = true := by
      rcases hf with z | z
      · exact z
      · rw [z] at hk; cases hk
    obtain ⟨c, hc⟩ := I.ok.has x (.inl hk)
    obtain ⟨w', z⟩ := I.cell x c hc
    refine wpAny_storeName_cell I.ok.kind hk hc z (fun h' hc' hs => ?_)
    obtain ⟨oc, hoc, hocd⟩ := id z
    refine h { s with heap := h' } ⟨I.ok, I.os, I.bare, ⟨fun b o e n hb hx => ?_, fun b o e n hb hx => ?_, I.base.free, fun b o e hx => ?_, I.base.tups, I.base.frzs, I.base.tbls⟩, ⟨m, hn.sameBut hs (Ne.symm (cne x c hc)), fun j y v' e1 e2 e3 => ?_⟩, fun y c' e => ?_, I.free, I.freeC, fun p hp => ?_, tracked ⟨oc, hoc, I.freeC x c hc⟩ hs, by simpa using I.len⟩ ⟨c, hs, .inr hc⟩
    · exact (hs.2 b (Nat.ne_of_lt (Nat.lt_of_lt_of_le (Heap.lt_size e) (I.ok.cab x c hfn hc)))).trans (I.base.keep b o e n hb hx)
    · obtain ⟨sl, e1⟩ := I.base.slot b o e n hb hx
      exact ⟨sl, (hs.2 b (Nat.ne_of_lt (Nat.lt_of_lt_of_le (Heap.lt_size e) (I.ok.cab x c hfn hc)))).trans e1⟩
    · obtain ⟨o', e1⟩ := I.base.there b o e hx
      exact ⟨o', (hs.2 b (Nat.ne_of_lt (Nat.lt_of_lt_of_le (Heap.lt_size e) (I.ok.cab x c hfn hc)))).trans e1⟩
    · by_cases hj : j = i
      · subst hj
        rw [hi] at e1; cases e1
        rw [List.getElem?_set_self hiσ] at e2
        cases e2
        exact ⟨u, r, .inr ⟨.inl hk, c, hc, hc'⟩⟩
      · rw [List.getElem?_set_ne (Ne.symm hj)] at e2
        obtain ⟨u', r', q⟩ := hl j y v' e1 e2 e3
        refine ⟨u', r', ?_⟩
        rcases q with q | ⟨k, c', e, z'⟩
        · exact .inl q
        · refine .inr ⟨k, c', e, z'.sameBut hs ?_⟩
          rintro rfl
          exact hj (nodup_ix hN e1 (I.ok.inj _ _ _ e hc ▸ hi))
    · by_cases hcc : c' = c
      · subst hcc; exact ⟨_, hc'⟩
      · obtain ⟨w2, z2⟩ := I.cell y c' e
        exact ⟨w2, z2.sameBut hs hcc⟩
    · obtain ⟨e, n, ne, nf, d⟩ := I.pin p hp
      refine ⟨(hs.2 p.1 ?_).trans e, n, ne, nf, d⟩
      intro q
      rw [q, hoc] at e
      have q' : oc = p.2 := Option.some.inj e
      exact d w' (by rw [← q']; exact hocd)
theorem store_ok {M : Model} {A : Around} {E : Value → Shared → Prop} {i : Nat} {x : Str} {v : V} {u : Value} {Q : Unit → Shared → Prop} (I : Inv X pins σ H s) (hN : X.N.Nodup) (hi : X.N[i]? = some x) (hx : Loc X.env.scope x) (r : RelV v u)
    (h : ∀ s', Inv X pins (σ.set i (some v)) H s' → Q () s') (hf : X.fn x = true ∨ X.env.scope.names.lookup x = some .local := by first | exact .inl rfl | exact .inr rfl | assumption) : wpAny M A (storeName X.env x u) Q E s :=
  store_ok2 I hN hi hx r (fun s' I' _ => h s' I') hf
/-- behind a call or a block, the state as it is -/
theorem Inv.call' {s' : Shared} {ch : List Addr} (I : Inv X pins σ H s) (ho : s'.os = s.os) (u : Un (frs X.stack) ch H H' s.heap s'.heap) (hok : HOk X.prog X.w H' s'.heap) (hg : AllBare s'.gens)
    (hch : ∀ b ∈ ch, (b ∈ X.ex ∨ X.s₀.heap.objs.size ≤ b) ∧ b ≠ X.env.locals ∧ (∀ x c, X.env.cells.lookup x = some c → c ≠ b) ∧ ∀ p ∈ X.pn ++ pins, p.1 ≠ b) : Inv X pins σ H' s' := by
  obtain ⟨h', g', d', t', o'⟩ := s'
  have e : o' = s.os := ho
  subst e
  exact I.call (g' := g') (t' := t') (d' := d') u hok hg hch
end

/-! ### the judgements -/
/-- an exception: its class, its own dict's address (where it has one), the abstract heap behind it -/
abbrev XK := Value → Option Addr → Hp → Prop
abbrev St := List (Option V)
abbrev VK := V → Hp → Prop
/-- an expression's reading; a test's; an argument list's -/
abbrev TE := St → Hp → VK → Prop
abbrev TT := St → Hp → (Bool → Hp → Prop) → Prop
abbrev TA := St → Hp → (List V → Hp → Prop) → Prop
/-- what is wanted behind a statement -/
structure Ends where
  nx : St → Hp → Prop
  rt : VK
  bk : St → Hp → Prop := fun _ _ => False
  ct : St → Hp → Prop := fun _ _ => False
abbrev TS := Ends → St → Hp → Prop

def EP (X : Cx) (pins : List (Addr × Obj)) (σ : St) (Q : VK) (u : Value) (s' : Shared) : Prop := ∃ v H', Inv X pins σ H' s' ∧ RelV v u ∧ Q v H'
def TP (X : Cx) (pins : List (Addr × Obj)) (σ : St) (Q : Bool → Hp → Prop) (b : Bool) (s' : Shared) : Prop := ∃ H', Inv X pins σ H' s' ∧ Q b H'
def AP (X : Cx) (pins : List (Addr × Obj)) (σ : St) (Q : List V → Hp → Prop) (us : List Value) (s' : Shared) : Prop := ∃ vs H', Inv X pins σ H' s' ∧ Vals vs us ∧ Q vs H'
def SP (X : Cx) (pins : List (Addr × Obj)) (D : Ends) (f : Flow) (s' : Shared) : Prop :=
  match f with
  | .next => ∃ σ' H', Inv X pins σ' H' s' ∧ D.nx σ' H'
  | .brk => ∃ σ' H', Inv X pins σ' H' s' ∧ D.bk σ' H'
  | .cont => ∃ σ' H', Inv X pins σ' H' s' ∧ D.ct σ' H'
  | .ret u => ∃ v σ' H', Inv X pins σ' H' s' ∧ RelV v u ∧ D.rt v H'

def PE (X : Cx) (e : Expr) (t : TE) : Prop :=
  ∀ (pins : List (Addr × Obj)) (s : Shared) (σ : St) (H : Hp) (Q : VK), Inv X pins σ H s → t σ H Q → wpAny (model X.prog X.w) X.A (eval e X.env) (EP X pins σ Q) X.xe s
def PT (X : Cx) (e : Expr) (t : TT) : Prop :=
  ∀ (pins : List (Addr × Obj)) (s : Shared) (σ : St) (H : Hp) (Q : Bool → Hp → Prop), Inv X pins σ H s → t σ H Q → wpAny (model X.prog X.w) X.A (isTrue e X.env (eval e X.env)) (TP X pins σ Q) X.xe s
/-- a test whatever its 'whole' is (and, or) -/
def PW (X : Cx) (e : Expr) (t : TT) : Prop :=
  ∀ (whole : Sem Value) (pins : List (Addr × Obj)) (s : Shared) (σ : St) (H : Hp) (Q : Bool → Hp → Prop), Inv X pins σ H s → t σ H Q → wpAny (model X.prog X.w) X.A (isTrue e X.env whole) (TP X pins σ Q) X.xe s
theorem PW.pt {X : Cx} {e : Expr} {t : TT} (h : PW X e t) : PT X e t := h _
/-- an argument list (no star), from the left -/
def PA (X : Cx) (es : List Expr) (t : TA) : Prop :=
  ∀ (pos : Pos) (pins : List (Addr × Obj)) (s : Shared) (σ : St) (H : Hp) (Q : List V → Hp → Prop), Inv X pins σ H s → t σ H Q → wpAny (model X.prog X.w) X.A (spliced (backTo pos (starEach es X.env))) (AP X pins σ Q) X.xe s
def PS (X : Cx) (st : Stmt) (t : TS) : Prop :=
  ∀ (pins : List (Addr × Obj)) (s : Shared) (σ : St) (H : Hp) (D : Ends), Inv X pins σ H s → t D σ H → wpAny (model X.prog X.w) X.A (exec st X.env) (SP X pins D) X.xe s
def PSs (X : Cx) (st : List Stmt) (t : TS) : Prop :=
  ∀ (pins : List (Addr × Obj)) (s : Shared) (σ : St) (H : Hp) (D : Ends), Inv X pins σ H s → t D σ H → wpAny (model X.prog X.w) X.A (execs st X.env) (SP X pins D) X.xe s
/-- weaken the end -/
theorem thn {α : Type} {t : Sem α} {Q Q' : α → Shared → Prop} {M : Model} {A : Around} {E : Value → Shared → Prop} {s : Shared} (h : wpAny M A t Q E s) (hQ : ∀ a s, Q a s → Q' a s) : wpAny M A t Q' E s := wpAny_mono h hQ fun _ _ x => x
end L2

namespace L2
open PySem PySem.Spec PyProof.Rows
section
variable {X : Cx}

/-! ### names and constants -/
def tVar (i : Nat) : TE := fun σ H Q => ∃ v, σ[i]? = some (some v) ∧ Q v H
def tC (v : V) : TE := fun _ H Q => Q v H
theorem pe_var {i : Nat} {x : Str} {pos : Pos} (hN : X.N[i]? = some x) (hv : Vis X.env.scope x) (hd : (x == ("__debug__" : Str)) = false := by decide) (hcd : (x == ("__classdict__" : Str)) = false := by decide) : PE X (.Name x pos) (tVar i) := by
  intro pins s σ H Q I h
  obtain ⟨v, e, h⟩ := h
  obtain ⟨m, hn, hl⟩ := I.loc
  obtain ⟨u, r, l⟩ := hl i x v hN e hv
  have fin : EP X pins σ Q u s := ⟨v, H, I, r, h⟩
  rcases l with ⟨hk, hm⟩ | ⟨hk, c, hc, hcell⟩
  · exact wpAny_Name (wpAny_loadName_local I.ok.kind hk hn hm fin) hd
  · rcases hk with hk | hk
    · exact wpAny_Name (wpAny_loadName_cell I.ok.kind hk hc hcell fin) hd
    · exact wpAny_Name (wpAny_loadName_free I.ok.kind hk hc hcell fin hcd) hd
theorem pe_int {i j pos} : PE X (.Constant (.int i) j pos) (tC (.int i)) := fun _ _ _ H _ I h => wpAny_Constant_int ⟨.int i, H, I.tok _, ⟨_, rfl⟩, h⟩
theorem pe_bl {b j pos} : PE X (.Constant (.bool b) j pos) (tC (.bl b)) := fun _ _ _ H _ I h => Constant_bool ⟨.bl b, H, I, rfl, h⟩
theorem pe_non {j pos} : PE X (.Constant .none j pos) (tC .non) := fun _ _ _ H _ I h => Constant_none ⟨.non, H, I, rfl, h⟩
theorem pe_str {x j pos} : PE X (.Constant (.str x) j pos) (tC (.str x)) := fun _ _ _ H _ I h => Calls.Constant_str ⟨.str x, H, I.tok _, ⟨_, rfl⟩, h⟩

/-- a global name of the def -/
def Gl (X : Cx) (x : Str) : Prop := X.env.kindOf x = some .globalImplicit
theorem ld_glob {E : Value → Shared → Prop} {pins : List (Addr × Obj)} {s : Shared} {σ : St} {H : Hp} {x : Str} {u : Value} {pos : Pos} {Q : Value → Shared → Prop} (I : Inv X pins σ H s) (hg : Gl X x) (hm : X.mg x = some u) (h : Q u s)
    (hd : (x == ("__debug__" : Str)) = false := by decide) : wpAny (model X.prog X.w) X.A (eval (.Name x pos) X.env) Q E s :=
  Calls.Name_function_global I.ok.kind hg (Calls.loadGlobal_global (by rw [I.ok.glob]; exact I.mod.glob.keeps I.bk) hm h) hd
theorem ld_blt {E : Value → Shared → Prop} {pins : List (Addr × Obj)} {s : Shared} {σ : St} {H : Hp} {x : Str} {u : Value} {pos : Pos} {Q : Value → Shared → Prop} (I : Inv X pins σ H s) (hg : Gl X x) (hm : X.mg x = none) (hv : bootBuiltins x = some u) (h : Q u s)
    (hn : x ≠ "__name__" := by decide) (hd : (x == ("__debug__" : Str)) = false := by decide) : wpAny (model X.prog X.w) X.A (eval (.Name x pos) X.env) Q E s := by
  obtain ⟨mb, h1, h2⟩ := I.mod.blt
  exact Calls.Name_function_global I.ok.kind hg (Calls.loadGlobal_builtin (by rw [I.ok.glob]; exact I.mod.glob.keeps I.bk) hm (by rw [I.ok.blt]; exact h1.keeps I.bk) ((h2 x hn).trans hv) h) hd
/-- a module's constant, a class, a function, as a value -/
theorem pe_glob {x : Str} {v : V} {u : Value} {pos : Pos} (hg : Gl X x) (hm : X.mg x = some u) (r : RelV v u) (hd : (x == ("__debug__" : Str)) = false := by decide) : PE X (.Name x pos) (tC v) :=
  fun _ _ _ H _ I h => ld_glob I hg hm ⟨v, H, I, r, h⟩ hd
theorem pe_bltn {x : Str} {v : V} {u : Value} {pos : Pos} (hg : Gl X x) (hm : X.mg x = none) (hv : bootBuiltins x = some u) (r : RelV v u) (hn : x ≠ "__name__" := by decide) (hd : (x == ("__debug__" : Str)) = false := by decide) : PE X (.Name x pos) (tC v) :=
  fun _ _ _ H _ I h => ld_blt I hg hm hv ⟨v, H, I, r, h⟩ hn hd

/-! ### arithmetic -/
variable {a b : Expr} {ta tb : TE} {pos : Pos}
/-! ### comparisons -/
/-- a comparison as a value, as a test -/
def tB (t : TE) : TT := fun σ H Q => t σ H fun x H1 => ∃ c, x = .bl c ∧ Q c H1
/-- an expression whose value is a bool, as a test -/
theorem pt_val {e : Expr} {t : TE} (h : PE X e t) (he : ∀ whole, isTrue e X.env whole = (do let v ← whole; standAt e.pos; holding [v] (truthy v)) := by intro _; rfl) : PT X e (tB t) := by
  intro pins s σ H Q I hw
  refine isTrue_plain (thn (h pins s σ H _ I hw) fun v s1 ⟨x, H1, I1, r1, q1⟩ => ?_) (he _)
  obtain ⟨d, rfl, q⟩ := q1
  cases r1
  exact wpAny_truthy_bool ⟨H1, I1, q⟩

/-! ### and, or, not -/
variable {tA tB' : TT} {rest : List Expr}
def tAnd (t u : TT) : TT := fun σ H Q => t σ H fun c H1 => if c = true then u σ H1 Q else Q false H1
def tOr (t u : TT) : TT := fun σ H Q => t σ H fun c H1 => if c = true then Q true H1 else u σ H1 Q
def tNot (t : TT) : TT := fun σ H Q => t σ H fun c H1 => Q (!c) H1
theorem pw_and1 (ha : PT X a tA) : PW X (.BoolOp .And [a] pos) tA := by
  intro wh pins s σ H Q I h
  refine isTrue_and (thn (ha pins s σ H Q I h) fun c s1 e => ?_)
  cases c with
  | true => exact isTrue_and_nil e
  | false => exact e
theorem pw_or1 (ha : PT X a tA) : PW X (.BoolOp .Or [a] pos) tA := by
  intro wh pins s σ H Q I h
  refine isTrue_or (thn (ha pins s σ H Q I h) fun c s1 e => ?_)
  cases c with
  | false => exact isTrue_or_nil e
  | true => exact e
theorem pw_and (ha : PT X a tA) (hb : PW X (.BoolOp .And (b :: rest) pos) tB') : PW X (.BoolOp .And (a :: b :: rest) pos) (tAnd tA tB') := by
  intro wh pins s σ H Q I h
  refine isTrue_and (thn (ha pins s σ H _ I h) fun c s1 ⟨H1, I1, q1⟩ => ?_)
  cases c with
  | true => exact hb wh pins s1 σ H1 Q I1 q1
  | false => exact ⟨H1, I1, q1⟩
theorem pw_or (ha : PT X a tA) (hb : PW X (.BoolOp .Or (b :: rest) pos) tB') : PW X (.BoolOp .Or (a :: b :: rest) pos) (tOr tA tB') := by
  intro wh pins s σ H Q I h
  refine isTrue_or (thn (ha pins s σ H _ I h) fun c s1 ⟨H1, I1, q1⟩ => ?_)
  cases c with
  | true => exact ⟨H1, I1, q1⟩
  | false => exact hb wh pins s1 σ H1 Q I1 q1
theorem pt_not (ha : PT X a tA) : PT X (.UnaryOp .Not a pos) (tNot tA) := by
  intro pins s σ H Q I h
  exact isTrue_not (ha pins s σ H (fun c H1 => Q (!c) H1) I h)
/-- .. as values (bools) -/
def tAndV (ta tb : TE) : TE := fun σ H Q => ta σ H fun x H1 => ∃ c, x = .bl c ∧ if c = true then tb σ H1 Q else Q (.bl false) H1
def tOrV (ta tb : TE) : TE := fun σ H Q => ta σ H fun x H1 => ∃ c, x = .bl c ∧ if c = true then Q (.bl true) H1 else tb σ H1 Q
def tNotV (ta : TE) : TE := fun σ H Q => ta σ H fun x H1 => ∃ c, x = .bl c ∧ Q (.bl (!c)) H1
theorem pe_one {op} {t : TE} (h : PE X a t) : PE X (.BoolOp op [a] pos) t := fun pins s σ H Q I hw => BoolOp_one (h pins s σ H Q I hw)
theorem pe_and (ha : PE X a ta) (hb : PE X (.BoolOp .And (b :: rest) pos) tb) : PE X (.BoolOp .And (a :: b :: rest) pos) (tAndV ta tb) := by
  intro pins s σ H Q I h
  refine BoolOp_and (thn (ha pins s σ H _ I h) fun v s1 ⟨x, H1, I1, r1, q1⟩ => ?_)
  obtain ⟨c, rfl, q1⟩ := q1
  cases r1
  refine wpAny_truthy_bool ?_
  cases c with
  | true => exact hb pins s1 σ H1 Q I1 q1
  | false => exact ⟨.bl false, H1, I1, rfl, q1⟩
theorem pe_or (ha : PE X a ta) (hb : PE X (.BoolOp .Or (b :: rest) pos) tb) : PE X (.BoolOp .Or (a :: b :: rest) pos) (tOrV ta tb) := by
  intro pins s σ H Q I h
  refine BoolOp_or (thn (ha pins s σ H _ I h) fun v s1 ⟨x, H1, I1, r1, q1⟩ => ?_)
  obtain ⟨c, rfl, q1⟩ := q1
  cases r1
  refine wpAny_truthy_bool ?_
  cases c with
  | false => exact hb pins s1 σ H1 Q I1 q1
  | true => exact ⟨.bl true, H1, I1, rfl, q1⟩
theorem pe_not (ha : PE X a ta) : PE X (.UnaryOp .Not a pos) (tNotV ta) := by
  intro pins s σ H Q I h
  refine UnaryOp_ (thn (ha pins s σ H _ I h) fun v s1 ⟨x, H1, I1, r1, q1⟩ => ?_)
  obtain ⟨c, rfl, q1⟩ := q1
  cases r1
  exact not_of (wpAny_truthy_bool ⟨.bl (!c), H1, I1, rfl, q1⟩)
end
end L2

namespace L2
open PySem PySem.Spec PyProof.Rows

/-! ### a list, a tuple that is read: tracked, frozen, or an object of the module -/
def SqL (K : PySem.W.Frag) (H : Hp) (a : Addr) (xs : List V) : Prop :=
  Rd H a (.lst xs) ∨
    ∃ (o : Obj) (its : Array Value) (n : Nat), K.lookup a = some o ∧ o.cls = .type "list" ∧ o.dict = none ∧ o.data = .seq its n ∧ its.size ≤ sizeLine ∧ Vals xs its.toList
def SqT (K : PySem.W.Frag) (H : Hp) (a : Addr) (xs : List V) : Prop :=
  Rd H a (.tup xs) ∨
    ∃ (o : Obj) (its : Array Value) (n : Nat), K.lookup a = some o ∧ o.cls = .type "tuple" ∧ o.data = .seq its n ∧ its.size ≤ sizeLine ∧ Vals xs its.toList
def absV : Value → Option V
  | .none => some .non
  | .bool b => some (.bl b)
  | .int i _ => some (.int i)
  | .str x _ => some (.str x)
  | .bytes b _ => some (.byt b)
  | .float b _ => some (.flt b)
  | .ref a => some (.ref a)
  | .type n => some (.ty n)
  | _ => none
theorem RelV.abs {x : V} {u : Value} (r : RelV x u) : absV u = some x := by
  cases x with
  | non => cases r; rfl
  | bl _ => cases r; rfl
  | int _ => obtain ⟨t, rfl⟩ := r; rfl
  | str _ => obtain ⟨t, rfl⟩ := r; rfl
  | byt _ => obtain ⟨t, rfl⟩ := r; rfl
  | flt _ => obtain ⟨t, rfl⟩ := r; rfl
  | ref _ => cases r; rfl
  | ty _ => cases r; rfl
theorem RelV.inj {x y : V} {u : Value} (r : RelV x u) (q : RelV y u) : x = y := Option.some.inj (r.abs.symm.trans q.abs)
theorem Vals.inj : ∀ {xs ys : List V} {us : List Value}, Vals xs us → Vals ys us → xs = ys
  | _, _, _, .nil, .nil => rfl
  | _, _, _, .cons r t, .cons r' t' => by rw [r.inj r', Vals.inj t t']
section
variable {X : Cx} {pins : List (Addr × Obj)} {σ : St} {H : Hp} {s : Shared} {a : Addr} {xs ys : List V}
theorem SqL.of {K : PySem.W.Frag} (h : H a = some (.lst xs)) : SqL K H a xs := .inl (.inl h)
theorem SqT.of {K : PySem.W.Frag} (h : H a = some (.tup xs)) : SqT K H a xs := .inl (.inl h)
theorem Inv.list (I : Inv X pins σ H s) (h : SqL X.K H a xs) : ∃ its : List Value, Vals xs its ∧ PlainL s.heap a its.toArray ∧ xs.length ≤ sizeLine := by
  rcases h with h | ⟨o, its, n, hk, hc, hd, hs, hz, r⟩
  · obtain ⟨z, its, n, r, e⟩ := h.ok I.hok
    exact ⟨its, r, ⟨_, n, e, rfl, rfl, rfl⟩, z⟩
  · refine ⟨its.toList, r, ⟨o, n, I.kIn a o hk, hc, hd, by simpa using hs⟩, ?_⟩
    have e := r.length
    simp only [Array.length_toList] at e
    omega
theorem Inv.tuple (I : Inv X pins σ H s) (h : SqT X.K H a xs) : ∃ its : List Value, Vals xs its ∧ IsTup s.heap a its.toArray ∧ xs.length ≤ sizeLine := by
  rcases h with h | ⟨o, its, n, hk, hc, hs, hz, r⟩
  · obtain ⟨z, its, r, p⟩ := h.ok I.hok
    exact ⟨its, r, p, z⟩
  · refine ⟨its.toList, r, ⟨o, I.kIn a o hk, hc, n, by simpa using hs⟩, ?_⟩
    have e := r.length
    simp only [Array.length_toList] at e
    omega
theorem Inv.list_inj (I : Inv X pins σ H s) (h : SqL X.K H a xs) (h' : SqL X.K H a ys) : xs = ys := by
  obtain ⟨its, r, ⟨o, n, e, _, _, d⟩, _⟩ := I.list h
  obtain ⟨its', r', ⟨o', n', e', _, _, d'⟩, _⟩ := I.list h'
  rw [e] at e'; cases e'
  rw [d] at d'
  injection d' with d1 _
  have : its = its' := by simpa using congrArg Array.toList d1
  subst this
  exact r.inj r'
theorem Inv.tuple_inj (I : Inv X pins σ H s) (h : SqT X.K H a xs) (h' : SqT X.K H a ys) : xs = ys := by
  obtain ⟨its, r, ⟨o, e, _, n, d⟩, _⟩ := I.tuple h
  obtain ⟨its', r', ⟨o', e', _, n', d'⟩, _⟩ := I.tuple h'
  rw [e] at e'; cases e'
  rw [d] at d'
  injection d' with d1 _
  have : its = its' := by simpa using congrArg Array.toList d1
  subst this
  exact r.inj r'
end

/-! ### another wish about exceptions -/
abbrev Cx.wish (X : Cx) (E : Value → Shared → Prop) : Cx := { X with xe := E }
/-- no exception leaves -/
abbrev Cx.nox (X : Cx) : Cx := X.wish fun _ _ => False
theorem Cx.Ok.wish {X : Cx} (ok : X.Ok) (E : Value → Shared → Prop) : (X.wish E).Ok :=
  ⟨ok.mod, ok.kind, ok.glob, ok.blt, ok.above, ok.inj, ok.has, ok.cab, ok.hd, ok.frames, ok.stk, ok.exf, ok.bs, ok.bsz, ok.noex, ok.exfs, ok.funs, ok.frf⟩
theorem Cx.Ok.unwish {X : Cx} {E : Value → Shared → Prop} (ok : (X.wish E).Ok) : X.Ok :=
  ⟨ok.mod, ok.kind, ok.glob, ok.blt, ok.above, ok.inj, ok.has, ok.cab, ok.hd, ok.frames, ok.stk, ok.exf, ok.bs, ok.bsz, ok.noex, ok.exfs, ok.funs, ok.frf⟩
section
variable {X : Cx} {pins : List (Addr × Obj)} {σ : St} {H : Hp} {s : Shared} {E : Value → Shared → Prop}
theorem Inv.wish (I : Inv X pins σ H s) (E : Value → Shared → Prop) : Inv (X.wish E) pins σ H s := ⟨I.ok.wish E, I.os, I.bare, I.base, I.loc, I.cell, I.free, I.freeC, I.pin, I.hok, I.len⟩
theorem Inv.unwish (I : Inv (X.wish E) pins σ H s) : Inv X pins σ H s := ⟨I.ok.unwish, I.os, I.bare, I.base, I.loc, I.cell, I.free, I.freeC, I.pin, I.hok, I.len⟩
theorem SP.unwish {D : Ends} {f : Flow} {s' : Shared} (h : SP (X.wish E) pins D f s') : SP X pins D f s' := by
  cases f with
  | next => obtain ⟨σ', H', I, q⟩ := h; exact ⟨σ', H', I.unwish, q⟩
  | brk => obtain ⟨σ', H', I, q⟩ := h; exact ⟨σ', H', I.unwish, q⟩
  | cont => obtain ⟨σ', H', I, q⟩ := h; exact ⟨σ', H', I.unwish, q⟩
  | ret u => obtain ⟨v, σ', H', I, r, q⟩ := h; exact ⟨v, σ', H', I.unwish, r, q⟩
theorem PE.nox {e : Expr} {t : TE} (h : PE X.nox e t) : PE X e t := fun pins s σ H Q I hw =>
  wpAny_mono (h pins s σ H Q (I.wish _) hw) (fun _ _ ⟨v, H', I', r, q⟩ => ⟨v, H', I'.unwish, r, q⟩) fun _ _ z => False.elim z
theorem PT.nox {e : Expr} {t : TT} (h : PT X.nox e t) : PT X e t := fun pins s σ H Q I hw =>
  wpAny_mono (h pins s σ H Q (I.wish _) hw) (fun _ _ ⟨H', I', q⟩ => ⟨H', I'.unwish, q⟩) fun _ _ z => False.elim z
theorem PSs.nox {st : List Stmt} {t : TS} (h : PSs X.nox st t) : PSs X st t := fun pins s σ H D I hw =>
  wpAny_mono (h pins s σ H D (I.wish _) hw) (fun _ _ q => q.unwish) fun _ _ z => False.elim z
end

/-! ### blocks and small statements -/
section
variable {X : Cx} {st : Stmt} {rest : List Stmt} {t u : TS} {e : Expr} {te : TE} {pos : Pos}
def tNext : TS := fun D σ H => D.nx σ H
def tSeq (t u : TS) : TS := fun D σ H => t { D with nx := u D } σ H
theorem pss_nil : PSs X [] tNext := fun _ _ σ H _ I h => wpAny_execs_nil ⟨σ, H, I, h⟩
theorem pss_cons (h1 : PS X st t) (h2 : PSs X rest u) : PSs X (st :: rest) (tSeq t u) := by
  intro pins s σ H D I h
  refine wpAny_execs_cons (thn (h1 pins s σ H { D with nx := u D } I h) fun f s1 q => ?_)
  cases f with
  | next =>
    obtain ⟨σ', H', I', q⟩ := q
    exact h2 pins s1 σ' H' D I' q
  | ret v => exact q
  | brk => exact q
  | cont => exact q
theorem pss_one (h1 : PS X st t) : PSs X [st] t := by
  intro pins s σ H D I h
  refine wpAny_execs_cons (thn (h1 pins s σ H D I h) fun f s1 q => ?_)
  cases f with
  | next => exact wpAny_execs_nil q
  | ret v => exact q
  | brk => exact q
  | cont => exact q
/-- in a def's body nothing is shown -/
theorem Inv.quiet {pins : List (Addr × Obj)} {σ : St} {H : Hp} {s : Shared} (I : Inv X pins σ H s) : interactive X.env = false := by simp [interactive, I.ok.kind]
/-- an expression whose value is dropped -/
def tDrop (te : TE) : TS := fun D σ H => te σ H fun _ H1 => D.nx σ H1
theorem ps_expr (he : PE X e te) (hs : swapsWith e none pos.line X.env = pure false := by rfl) : PS X (.Expr e pos) (tDrop te) := by
  intro pins s σ H D I h
  exact wpAny_Expr_any (thn (he pins s σ H _ I h) fun v s1 ⟨x, H1, I1, r1, q1⟩ => ⟨σ, H1, I1, q1⟩) I.quiet hs
def tRet (te : TE) : TS := fun D σ H => te σ H D.rt
theorem ps_ret (he : PE X e te) : PS X (.Return (some e) pos) (tRet te) := by
  intro pins s σ H D I h
  exact wpAny_Return_some (thn (he pins s σ H _ I h) fun v s1 ⟨x, H1, I1, r1, q1⟩ => ⟨x, σ, H1, I1, r1, q1⟩)
def tIfS (c : TT) (t u : TS) : TS := fun D σ H => c σ H fun b H1 => if b = true then t D σ H1 else u D σ H1
theorem ps_if {c : Expr} {a b : List Stmt} {tc : TT} (hc : PT X c tc) (ha : PSs X a t) (hb : PSs X b u) : PS X (.If c a b pos) (tIfS tc t u) := by
  intro pins s σ H D I h
  refine wpAny_If (thn (hc pins s σ H _ I h) fun d s1 ⟨H1, I1, q1⟩ => ?_)
  cases d with
  | true => exact ha pins s1 σ H1 D I1 q1
  | false => exact hb pins s1 σ H1 D I1 q1
end

/-! ### targets -/
abbrev TG := V → St → Hp → (St → Hp → Prop) → Prop
abbrev TGs := List V → St → Hp → (St → Hp → Prop) → Prop
def PG (X : Cx) (target : Expr) (t : TG) : Prop :=
  ∀ (pins : List (Addr × Obj)) (s : Shared) (σ : St) (H : Hp) (v : V) (u : Value) (Q : St → Hp → Prop), Inv X pins σ H s → RelV v u → t v σ H Q →
    wpAny (model X.prog X.w) X.A (assign target X.env u) (fun _ s' => ∃ σ' H', Inv X pins σ' H' s' ∧ Q σ' H') X.xe s
/-- several targets, one after another -/
def PGs (X : Cx) (ts : List Expr) (t : TGs) : Prop :=
  ∀ (pins : List (Addr × Obj)) (s : Shared) (σ : St) (H : Hp) (vs : List V) (us : List Value) (Q : St → Hp → Prop), Inv X pins σ H s → Vals vs us → t vs σ H Q →
    wpAny (model X.prog X.w) X.A (assignInOrder ((assignEach ts X.env).map (·.2)) us) (fun _ s' => ∃ σ' H', Inv X pins σ' H' s' ∧ Q σ' H') X.xe s
/-- o[i] = v, by values -/
abbrev TSet := V → V → V → Hp → (Hp → Prop) → Prop
def PSet (X : Cx) (t : TSet) : Prop :=
  ∀ (pins : List (Addr × Obj)) (s : Shared) (σ : St) (H : Hp) (o i v : V) (ov iv u : Value) (Q : Hp → Prop), Inv X pins σ H s → RelV o ov → RelV i iv → RelV v u → t o i v H Q →
    wpAny (model X.prog X.w) X.A (setItem ov iv u) (fun _ s' => ∃ H', Inv X pins σ H' s' ∧ Q H') X.xe s
section
variable {X : Cx} {pos : Pos}
def gName (i : Nat) : TG := fun v σ H Q => Q (σ.set i (some v)) H
theorem pg_name {i : Nat} {x : Str} (hN : X.N.Nodup) (hi : X.N[i]? = some x) (hx : Loc X.env.scope x) (hf : X.fn x = true ∨ X.env.scope.names.lookup x = some .local := by first | exact .inl rfl | exact .inr rfl | assumption) : PG X (.Name x pos) (gName i) := by
  intro pins s σ H v u Q I r h
  exact wpAny_assign_Name (store_ok I hN hi hx r (fun s' I' => ⟨_, H, I', h⟩) hf)
def gNil : TGs := fun vs σ H Q => vs = [] ∧ Q σ H
def gCons (t : TG) (u : TGs) : TGs := fun vs σ H Q => ∃ v r, vs = v :: r ∧ t v σ H fun σ' H' => u r σ' H' Q
theorem pgs_nil : PGs X [] gNil := by
  intro pins s σ H vs us Q I r h
  obtain ⟨e, h⟩ := h
  subst e
  cases r
  exact assignInOrder_nil ⟨σ, H, I, h⟩
theorem pgs_cons {e : Expr} {es : List Expr} {t : TG} {u : TGs} (h1 : PG X e t) (h2 : PGs X es u)
    (hs : (assignEach (e :: es) X.env).map (·.2) = assign e X.env :: (assignEach es X.env).map (·.2) := by rfl) : PGs X (e :: es) (gCons t u) := by
  intro pins s σ H vs us Q I r h
  obtain ⟨v, vr, e1, h⟩ := h
  subst e1
  cases r with
  | cons r rr =>
    rw [hs]
    refine assignInOrder_cons (thn (h1 pins s σ H _ _ _ I r h) fun _ s1 ⟨σ1, H1, I1, q1⟩ => ?_)
    exact h2 pins s1 σ1 H1 _ _ Q I1 rr q1
/-- (a, b, ..) = a tuple of that length -/
def gTup (K : PySem.W.Frag) (n : Nat) (t : TGs) : TG := fun v σ H Q => ∃ a xs, v = .ref a ∧ SqT K H a xs ∧ xs.length = n ∧ t xs σ H Q
theorem pg_tup {es : List Expr} {k : Nat} {t : TGs} {n : Nat} (hc : X.calm = true) (h : PGs X es t)
    (hn : (assignEach es X.env).length = n := by rfl) (hst : (assignEach es X.env).findIdx? (·.1) = none := by rfl) : PG X (.Tuple es k pos) (gTup X.K n t) := by
  intro pins s σ H v u Q I r hw
  obtain ⟨a, xs, e1, hq, hl, hw⟩ := hw
  subst e1
  cases r
  obtain ⟨its, rv, ht, hz⟩ := I.tuple hq
  refine assign_Tuple_tuple (I.ok.hd hc) ht (by simp [hn, ← hl, rv.length]) hst fun h' hx => ?_
  have I1 : Inv X pins σ H { s with heap := h' } := I.kept (t' := s.toks) fun b o e => hx b o (Nat.ne_of_lt (Heap.lt_size e)) e
  exact h pins _ σ H xs _ Q I1 (by simpa using rv) hw
/-- o[i] = .. -/
def gSub (to ti : TE) (t : TSet) : TG := fun v σ H Q => to σ H fun o H1 => ti σ H1 fun i H2 => t o i v H2 fun H3 => Q σ H3
theorem pg_sub {o i : Expr} {to ti : TE} {t : TSet} (ho : PE X o to) (hi : PE X i ti) (hs : PSet X t)
    (ha : ∀ v, assign (.Subscript o i pos) X.env v = (do
      let ov ← holding [v] (eval o X.env)
      let iv ← holding [v, ov] (eval i X.env)
      standAt pos
      holding [v, ov, iv] (setItem ov iv v)
      release [v, ov, iv] []) := by intro _; rfl) : PG X (.Subscript o i pos) (gSub to ti t) := by
  intro pins s σ H v u Q I r h
  rw [ha]
  refine wpAny_bind (wpAny_holding (thn (ho pins s σ H _ I h) fun ov s1 ⟨x, H1, I1, r1, q1⟩ => ?_))
  refine wpAny_bind (wpAny_holding (thn (hi pins s1 σ H1 _ I1 q1) fun iv s2 ⟨y, H2, I2, r2, q2⟩ => ?_))
  refine wpAny_bind (wpAny_standAt (wpAny_bind (wpAny_holding (thn (hs pins s2 σ H2 x y v ov iv u _ I2 r1 r2 r q2) fun _ s3 ⟨H3, I3, q3⟩ => ?_))))
  exact wpAny_release ⟨σ, H3, I3, q3⟩
/-- target = value -/
def tAsg (te : TE) (g : TG) : TS := fun D σ H => te σ H fun x H1 => g x σ H1 D.nx
theorem ps_asg {tg e : Expr} {te : TE} {g : TG} (he : PE X e te) (hg : PG X tg g) (hs : swapsWithSole [tg] e pos.line X.env = pure false := by rfl) (hw : swappedStores [tg] e X.env = pure none := by rfl)
    (h1 : (assignEach [tg] X.env).map (·.2) = [assign tg X.env] := by rfl) : PS X (.Assign [tg] e pos) (tAsg te g) := by
  intro pins s σ H D I h
  refine wpAny_Assign_stores (thn (he pins s σ H _ I h) fun v s1 ⟨x, H1, I1, r1, q1⟩ => ?_) hs hw
  rw [h1]
  exact thn (hg pins s1 σ H1 x v _ I1 r1 q1) fun _ s2 q => q
/-- name = value -/
theorem ps_set {i : Nat} {x : Str} {e : Expr} {te : TE} {pos' : Pos} (hN : X.N.Nodup) (hi : X.N[i]? = some x) (hx : Loc X.env.scope x) (he : PE X e te) (hs : swapsWith e (some (.Name x pos')) pos.line X.env = pure false := by rfl) (hf : X.fn x = true ∨ X.env.scope.names.lookup x = some .local := by first | exact .inl rfl | exact .inr rfl | assumption) :
    PS X (.Assign [.Name x pos'] e pos) (tAsg te (gName i)) := by
  intro pins s σ H D I h
  refine wpAny_Assign_Name (thn (he pins s σ H _ I h) fun v s1 ⟨y, H1, I1, r1, q1⟩ => ?_) hs
  exact store_ok I1 hN hi hx r1 (fun s2 I2 => ⟨_, H1, I2, q1⟩) hf
end

/-! ### while -/
section
variable {X : Cx} {pos : Pos}
end

/-! ### what a loop or a comprehension walks -/
/-- at turn i: it yields x (the heap may grow), or it stops -/
structure It where
  go : Nat → Hp → Prop
  yld : Nat → Hp → V → Hp → Prop
  stop : Nat → Hp → Prop
/-- the iterator's own objects may turn: they are not the frame's, not pinned, younger than the entry (or a comprehension's own) -/
def FpOk (X : Cx) (pins : List (Addr × Obj)) (H : Hp) (b : Addr) : Prop :=
  H b = none ∧ b ≠ X.env.locals ∧ b ∉ X.fs ∧ (b ∈ X.ex ∨ X.s₀.heap.objs.size ≤ b) ∧ (∀ x c, X.env.cells.lookup x = some c → c ≠ b) ∧ ∀ p ∈ X.pn ++ pins, p.1 ≠ b
theorem Inv.fpOk {X : Cx} {pins : List (Addr × Obj)} {σ : St} {H H' : Hp} {s : Shared} {b : Addr} (I : Inv X pins σ H s) (hb : s.heap.objs.size ≤ b) (hn : H' b = none) : FpOk X pins H' b := by
  refine ⟨hn, Nat.ne_of_gt (Nat.lt_of_lt_of_le I.lt hb), I.nofs hb, .inr (Nat.le_trans I.sz hb), fun x c e z => ?_, fun p hp z => ?_⟩
  · obtain ⟨v, q⟩ := I.cell x c e
    exact absurd (Nat.lt_of_lt_of_le q.lt (by rw [z]; exact hb)) (Nat.lt_irrefl _)
  · exact absurd (Nat.lt_of_lt_of_le (Heap.lt_size (I.pin p hp).1) (by rw [z]; exact hb)) (Nat.lt_irrefl _)
structure Turn (P : Program) (w : World) (K : PySem.W.Frag) (tg : Expr) (J : It) (fp : List Addr) (it : Addr) (tn : Nat → Heap → Prop) : Prop where
  mem : it ∈ fp
  obj : ∀ i h, tn i h → ∀ b ∈ fp, ∃ o, h.get? b = some o ∧ ∀ v, o.data ≠ .cell v
  keep : ∀ i h h', tn i h → (∀ b ∈ fp, ∀ o, h.get? b = some o → h'.get? b = some o) → tn i h'
  item : ∀ (X : Cx), X.prog = P → X.w = w → X.K = K → X.calm = true → ∀ (i : Nat) (pins : List (Addr × Obj)) (s : Shared) (σ : St) (H : Hp) (E : Value → Shared → Prop), Inv X pins σ H s → (∀ b ∈ fp, FpOk X pins H b) → tn i s.heap → J.go i H →
    wpAny (model P w) X.A (pyNext (.ref it)) (fun r s1 => ∃ u, r = some u ∧
      wpAny (model P w) X.A (letOwnedTupleGo tg (.ref it) u) (fun _ s2 => ∃ x H', Inv X pins σ H' s2 ∧ RelV x u ∧ J.yld i H x H' ∧ tn (i + 1) s2.heap ∧ ∀ b ∈ fp, H' b = none) E s1) E s
  done : ∀ (X : Cx), X.prog = P → X.w = w → X.K = K → X.calm = true → ∀ (i : Nat) (pins : List (Addr × Obj)) (s : Shared) (σ : St) (H : Hp) (E : Value → Shared → Prop), Inv X pins σ H s → (∀ b ∈ fp, FpOk X pins H b) → tn i s.heap → J.stop i H →
    wpAny (model P w) X.A (pyNext (.ref it)) (fun r s1 => r = none ∧ Inv X pins σ H s1) E s
  self : ∀ (A : Around) (i : Nat) (s : Shared) (Q : Value → Shared → Prop) (E : Value → Shared → Prop), tn i s.heap → Q (.ref it) s → wpAny (model P w) A (pyIter (.ref it)) Q E s
abbrev TI := St → Hp → (It → Hp → Prop) → Prop
/-- an iterator has come -/
def PIE (X : Cx) (pins : List (Addr × Obj)) (σ : St) (tg : Expr) (R : It → Hp → Prop) (itv : Value) (s2 : Shared) : Prop :=
  ∃ (it : Addr) (fp : List Addr) (tn : Nat → Heap → Prop) (J : It) (H' : Hp), itv = .ref it ∧ Inv X pins σ H' s2 ∧ Turn X.prog X.w X.K tg J fp it tn ∧ tn 0 s2.heap ∧ (∀ b ∈ fp, FpOk X pins H' b) ∧ R J H'
def PI (X : Cx) (tg iter : Expr) (wi : TI) : Prop :=
  ∀ (pins : List (Addr × Obj)) (s : Shared) (σ : St) (H : Hp) (R : It → Hp → Prop), Inv X pins σ H s → wi σ H R →
    wpAny (model X.prog X.w) X.A (eval iter X.env) (fun v s1 => wpAny (model X.prog X.w) X.A (pyIter v) (PIE X pins σ tg R) X.xe s1) X.xe s

/-- the step ahead of the store is nothing for an iterator that keeps no tuple -/
theorem go_of {M : Model} {A : Around} {E : Value → Shared → Prop} {s : Shared} {tg : Expr} {it : Addr} {u : Value} {o : Obj} {n : String} {vs : Array Value} {Q : Unit → Shared → Prop} (ho : s.heap.get? it = some o) (hc : o.cls = .type n) (hd : o.data = .fields vs)
    (hn : ["enumerate", "zip", "dict_itemiterator", "dict_reverseitemiterator", "odict_iterator", "itertools.zip_longest", "itertools.pairwise"].contains n = false) (hQ : Q () s) : wpAny M A (letOwnedTupleGo tg (.ref it) u) Q E s := by
  unfold letOwnedTupleGo
  cases tg <;> first
    | exact wpAny_pure hQ
    | (cases u <;> first
        | exact wpAny_pure hQ
        | (refine wpAny_bind (wpAny_load ho ?_)
           rw [hc, hd]
           show wpAny M A (if (["enumerate", "zip", "dict_itemiterator", "dict_reverseitemiterator", "odict_iterator", "itertools.zip_longest", "itertools.pairwise"].contains n && vs[0]? == some (rawInt _)) = true then _ else _) Q E s
           rw [if_neg (by intro h; rw [hn, Bool.false_and] at h; cases h)]
           exact wpAny_pure hQ))

/-- the list at a, as it stands at each turn (a loop may append to it) -/
def Itl (K : PySem.W.Frag) (a : Addr) : It :=
  ⟨fun i H => ∃ xs x, SqL K H a xs ∧ xs[i]? = some x, fun i H x H' => H' = H ∧ ∀ xs, SqL K H a xs → xs[i]? = some x, fun i H => ∃ xs, SqL K H a xs ∧ xs.length ≤ i⟩
def Itt (K : PySem.W.Frag) (a : Addr) : It :=
  ⟨fun i H => ∃ xs x, SqT K H a xs ∧ xs[i]? = some x, fun i H x H' => H' = H ∧ ∀ xs, SqT K H a xs → xs[i]? = some x, fun i H => ∃ xs, SqT K H a xs ∧ xs.length ≤ i⟩
/-- lo, lo + 1, .. (n of them) -/
def Itr (lo : Int) (n : Nat) : It := ⟨fun i _ => i < n, fun i H x H' => H' = H ∧ x = .int (lo + i), fun i _ => n ≤ i⟩
theorem turn_list {P : Program} {w : World} {K : PySem.W.Frag} {tg : Expr} (a it : Addr) : Turn P w K tg (Itl K a) [it] it (fun i h => h.IsListIter it a i) where
  mem := by simp
  obj := fun i h st b hb => by
    have e : b = it := by simpa using hb
    subst e
    obtain ⟨o, e, c, d⟩ := st
    exact ⟨o, e, fun v z => by rw [d] at z; cases z⟩
  keep := fun i h h' st k => st.at fun o e => k it (by simp) o e
  item := by
    intro X hP hw hK hc i pins s σ H E I hf st hg
    subst hP hw hK
    obtain ⟨xs, x, hq, hx⟩ := hg
    obtain ⟨its, rv, p, hz⟩ := I.list hq
    obtain ⟨u, hu, ru⟩ := rv.get hx
    obtain ⟨f0, f1, f2, f3, f4, f5⟩ := hf it (by simp)
    refine wpAny_pyNext_list_item st p.isList (x := u) (by simpa using hu) fun h' st' sb => ?_
    have I1 : Inv X pins σ H { s with heap := h' } := I.turned (t' := s.toks) (fun b o hb e => (sb.2 b hb).trans e) f0 f1 f3 f4 f5
    obtain ⟨o, e, c, d⟩ := id st'
    exact ⟨u, rfl, go_of (s := { s with heap := h' }) e c d (by decide) ⟨x, H, I1, ru, ⟨rfl, fun ys hy => by rw [I.list_inj hy hq]; exact hx⟩, st', fun b hb => (hf b hb).1⟩⟩
  done := by
    intro X hP hw hK hc i pins s σ H E I hf st hg
    subst hP hw hK
    obtain ⟨xs, hq, hx⟩ := hg
    obtain ⟨its, rv, p, hz⟩ := I.list hq
    obtain ⟨f0, f1, f2, f3, f4, f5⟩ := hf it (by simp)
    have hl := rv.length
    exact wpAny_pyNext_list_end (I.ok.hd hc) st p.isList (by simp; omega) fun h' eb => ⟨rfl, I.turned (t' := s.toks) (fun b o hb e => eb b o hb e) f0 f1 f3 f4 f5⟩
  self := fun _ _ _ _ _ st h => wpAny_pyIter_listiter st h
theorem turn_tuple {P : Program} {w : World} {K : PySem.W.Frag} {tg : Expr} (a it : Addr) : Turn P w K tg (Itt K a) [it] it (fun i h => h.IsTupleIter it a i) where
  mem := by simp
  obj := fun i h st b hb => by
    have e : b = it := by simpa using hb
    subst e
    obtain ⟨o, e, c, d⟩ := st
    exact ⟨o, e, fun v z => by rw [d] at z; cases z⟩
  keep := fun i h h' st k => st.at fun o e => k it (by simp) o e
  item := by
    intro X hP hw hK hc i pins s σ H E I hf st hg
    subst hP hw hK
    obtain ⟨xs, x, hq, hx⟩ := hg
    obtain ⟨its, rv, p, hz⟩ := I.tuple hq
    obtain ⟨u, hu, ru⟩ := rv.get hx
    obtain ⟨f0, f1, f2, f3, f4, f5⟩ := hf it (by simp)
    refine wpAny_pyNext_tuple_item st (show s.heap.IsTuple a its.toArray from p) (x := u) (by simpa using hu) fun h' st' sb => ?_
    have I1 : Inv X pins σ H { s with heap := h' } := I.turned (t' := s.toks) (fun b o hb e => (sb.2 b hb).trans e) f0 f1 f3 f4 f5
    obtain ⟨o, e, c, d⟩ := id st'
    exact ⟨u, rfl, go_of (s := { s with heap := h' }) e c d (by decide) ⟨x, H, I1, ru, ⟨rfl, fun ys hy => by rw [I.tuple_inj hy hq]; exact hx⟩, st', fun b hb => (hf b hb).1⟩⟩
  done := by
    intro X hP hw hK hc i pins s σ H E I hf st hg
    subst hP hw hK
    obtain ⟨xs, hq, hx⟩ := hg
    obtain ⟨its, rv, p, hz⟩ := I.tuple hq
    obtain ⟨f0, f1, f2, f3, f4, f5⟩ := hf it (by simp)
    have hl := rv.length
    exact wpAny_pyNext_tuple_end (I.ok.hd hc) st (show s.heap.IsTuple a its.toArray from p) (by simp; omega) fun h' eb => ⟨rfl, I.turned (t' := s.toks) (fun b o hb e => eb b o hb e) f0 f1 f3 f4 f5⟩
  self := fun _ _ _ _ _ st h => wpAny_pyIter_tupleiter st h
theorem turn_range {P : Program} {w : World} {K : PySem.W.Frag} {tg : Expr} (it : Addr) (lo : Int) (n : Nat) : Turn P w K tg (Itr lo n) [it] it (fun i h => IsRangeIter h it (lo + (i : Nat) * 1) ((n : Int) - (i : Nat)) 1) where
  mem := by simp
  obj := fun i h st b hb => by
    have e : b = it := by simpa using hb
    subst e
    exact ⟨_, st, fun v z => by
      have z' : Data.fields _ = Data.cell v := z
      cases z'⟩
  keep := fun i h h' st k => k it (by simp) _ st
  item := by
    intro X hP hw hK hc i pins s σ H E I hf st hg
    subst hP hw hK
    obtain ⟨f0, f1, f2, f3, f4, f5⟩ := hf it (by simp)
    have W := Walks.range (prog := X.prog) (w := X.w) (I.ok.hd hc) it lo 1 n
    refine W.item i s _ _ hg st fun v h' tk hv st' kk => ?_
    obtain ⟨t, rfl⟩ := hv
    have I1 : Inv X pins σ H { s with heap := h', toks := tk } := I.turned (fun b o hb e => kk b o (by simpa using hb) e) f0 f1 f3 f4 f5
    refine ⟨_, rfl, go_of (s := { s with heap := h', toks := tk }) (n := "range_iterator") st' rfl rfl (by decide) ⟨.int (lo + i), H, I1, ⟨t, ?_⟩, ⟨rfl, rfl⟩, st', fun b hb => (hf b hb).1⟩⟩
    rw [Int.mul_one]
  done := by
    intro X hP hw hK hc i pins s σ H E I hf st hg
    subst hP hw hK
    obtain ⟨f0, f1, f2, f3, f4, f5⟩ := hf it (by simp)
    exact wpAny_pyNext_range_end (I.ok.hd hc) st (by have : n ≤ i := hg; omega) fun h' eb => ⟨rfl, I.turned (t' := s.toks) (fun b o hb e => eb b o hb e) f0 f1 f3 f4 f5⟩
  self := fun _ _ _ _ _ st h => wpAny_pyIter_rangeiter st h
end L2

namespace L2
open PySem PySem.Spec PyProof.Rows
section
variable {X : Cx} {tg : Expr}
def iList (K : PySem.W.Frag) (tl : TE) : TI := fun σ H R => tl σ H fun x H1 => ∃ a, x = .ref a ∧ (∃ xs, SqL K H1 a xs) ∧ R (Itl K a) H1
def iTup (K : PySem.W.Frag) (tl : TE) : TI := fun σ H R => tl σ H fun x H1 => ∃ a, x = .ref a ∧ (∃ xs, SqT K H1 a xs) ∧ R (Itt K a) H1
theorem pi_list {l : Expr} {tl : TE} (hl : PE X l tl) : PI X tg l (iList X.K tl) := by
  intro pins s σ H R I h
  refine thn (hl pins s σ H _ I h) fun v s1 ⟨x, H1, I1, r1, q1⟩ => ?_
  obtain ⟨a, e, ⟨xs, hq⟩, q⟩ := q1
  subst e
  cases r1
  obtain ⟨its, rv, p, hz⟩ := I1.list hq
  refine wpAny_pyIter_list p.isList ?_
  refine ⟨s1.heap.objs.size, [s1.heap.objs.size], _, _, H1, rfl, I1.kept (t' := s1.toks) fun b o e => Heap.get?_push_of_some _ e, turn_list a _, ⟨_, Heap.get?_push_size _ rfl, rfl, rfl⟩, fun b hb => ?_, q⟩
  have e : b = s1.heap.objs.size := by simpa using hb
  subst e
  exact I1.fpOk (Nat.le_refl _) (I1.hok.fresh (Nat.le_refl _))
theorem pi_tup {l : Expr} {tl : TE} (hl : PE X l tl) : PI X tg l (iTup X.K tl) := by
  intro pins s σ H R I h
  refine thn (hl pins s σ H _ I h) fun v s1 ⟨x, H1, I1, r1, q1⟩ => ?_
  obtain ⟨a, e, ⟨xs, hq⟩, q⟩ := q1
  subst e
  cases r1
  obtain ⟨its, rv, p, hz⟩ := I1.tuple hq
  refine wpAny_pyIter_tuple (show s1.heap.IsTuple a its.toArray from p) ?_
  refine ⟨s1.heap.objs.size, [s1.heap.objs.size], _, _, H1, rfl, I1.kept (t' := s1.toks) fun b o e => Heap.get?_push_of_some _ e, turn_tuple a _, ⟨_, Heap.get?_push_size _ rfl, rfl, rfl⟩, fun b hb => ?_, q⟩
  have e : b = s1.heap.objs.size := by simpa using hb
  subst e
  exact I1.fpOk (Nat.le_refl _) (I1.hok.fresh (Nat.le_refl _))
/-- a range object just made, walked -/
theorem range_it {pins : List (Addr × Obj)} {σ : St} {H : Hp} {s : Shared} {R : It → Hp → Prop} {E : Value → Shared → Prop} {lo hi : Int} {t u v : Tok} {tk : Nat} (I : Inv X pins σ H s) (h1 : -(2 ^ 62) ≤ lo) (h2 : lo < 2 ^ 62) (h3 : -(2 ^ 62) ≤ hi) (h4 : hi < 2 ^ 62)
    (q : R (Itr lo (hi - lo).toNat) H) : wpAny (model X.prog X.w) X.A (pyIter (.ref s.heap.objs.size)) (PIE X pins σ tg R) E { s with heap := s.heap.push { cls := .type "range", data := .fields #[.int lo t, .int hi u, .int 1 v] }, toks := tk } := by
  refine wpAny_pyIter_range (IsRange.new ..) (small_one h1 h2 h3 h4) ?_
  have I1 : Inv X pins σ H { s with heap := s.heap.push { cls := .type "range", data := .fields #[.int lo t, .int hi u, .int 1 v] }, toks := tk } := I.kept fun b o e => Heap.get?_push_of_some _ e
  refine ⟨(s.heap.push { cls := .type "range", data := .fields #[.int lo t, .int hi u, .int 1 v] }).objs.size, [(s.heap.push { cls := .type "range", data := .fields #[.int lo t, .int hi u, .int 1 v] }).objs.size], _, _, H, rfl,
    I1.kept (t' := tk) fun b o e => Heap.get?_push_of_some _ e, turn_range _ lo (hi - lo).toNat, ?_, fun b hb => ?_, q⟩
  · have e1 : lo + ((0 : Nat) : Int) * 1 = lo := by simp
    have e2 : (((hi - lo).toNat : Nat) : Int) - ((0 : Nat) : Int) = Builtin.Range.rangeSize lo hi 1 := by rw [rangeSize_one]; split <;> omega
    show IsRangeIter _ _ (lo + ((0 : Nat) : Int) * 1) ((((hi - lo).toNat : Nat) : Int) - ((0 : Nat) : Int)) 1
    rw [e1, e2]
    exact Heap.get?_push_size _ rfl
  · have e : b = (s.heap.push { cls := .type "range", data := .fields #[.int lo t, .int hi u, .int 1 v] }).objs.size := by simpa using hb
    subst e
    exact I1.fpOk (Nat.le_refl _) (I1.hok.fresh (Nat.le_refl _))
def iRng1 (ta : TA) : TI := fun σ H R => ta σ H fun vs H1 => ∃ j : Int, vs = [.int j] ∧ -(2 ^ 62) ≤ j ∧ j < 2 ^ 62 ∧ R (Itr 0 j.toNat) H1
theorem pi_range1 {a : Expr} {ta : TA} {p pos : Pos} (hg : Gl X "range") (hm : X.mg "range" = none) (ha : PA X [a] ta) (hs : starEach [a] X.env = [(false, eval a X.env)] := by rfl) : PI X tg (.Call (.Name "range" p) [a] [] pos) (iRng1 ta) := by
  intro pins s σ H R I h
  refine Call_ (ld_blt I hg hm boot_range (PyProof.Rows.callWith_type1 (thn (ha pos pins s σ H _ I h) fun us s1 ⟨vs, H1, I1, r1, q1⟩ => ?_) hs rfl))
  obtain ⟨j, e, q1, q2, q⟩ := q1
  subst e
  cases r1 with
  | cons r rr =>
    cases rr
    obtain ⟨t, rfl⟩ := r
    exact call_range_1 (range_it I1 (by omega) (by omega) q1 q2 (by simpa using q))
/-! ### for -/
/-- W: the invariant by the turn and a measure; N: what the body is to reach -/
def tFor (wi : TI) (g : TG) (tb : TS) : TS := fun D σ H => wi σ H fun J H1 => ∃ W : Nat → Nat → St → Hp → Prop, (∃ m, W 0 m σ H1) ∧ ∀ i m σ H, W i m σ H →
  (J.stop i H ∧ D.nx σ H) ∨ (J.go i H ∧ ∃ N : St → Hp → Prop, (∀ σ' H', N σ' H' → ∃ m', m' < m ∧ W (i + 1) m' σ' H') ∧ ∀ x H', J.yld i H x H' → g x σ H' fun σ2 H2 => tb { D with nx := N, ct := N, bk := D.nx } σ2 H2)
/-- the records at fp as they stand -/
def pinsAt (fp : List Addr) (h : Heap) : List (Addr × Obj) := fp.filterMap fun b => (h.get? b).map fun o => (b, o)
theorem mem_pinsAt {fp : List Addr} {h : Heap} {b : Addr} {o : Obj} (hb : b ∈ fp) (e : h.get? b = some o) : (b, o) ∈ pinsAt fp h := List.mem_filterMap.mpr ⟨b, hb, by rw [e]; rfl⟩
theorem of_pinsAt {fp : List Addr} {h : Heap} {p : Addr × Obj} (hp : p ∈ pinsAt fp h) : p.1 ∈ fp ∧ h.get? p.1 = some p.2 := by
  obtain ⟨b, hb, e⟩ := List.mem_filterMap.mp hp
  cases q : h.get? b with
  | none => rw [q] at e; cases e
  | some o =>
    rw [q] at e
    have e' : (b, o) = p := Option.some.inj e
    subst e'
    exact ⟨hb, q⟩
theorem Inv.pinned {pins : List (Addr × Obj)} {σ : St} {H : Hp} {s : Shared} {fp : List Addr} (I : Inv X pins σ H s) (hf : ∀ b ∈ fp, FpOk X pins H b) (ho : ∀ b ∈ fp, ∃ o, s.heap.get? b = some o ∧ ∀ v, o.data ≠ .cell v) : Inv X (pins ++ pinsAt fp s.heap) σ H s :=
  I.pins_of fun p hp => (List.mem_append.mp hp).elim (fun z => I.pin p (List.mem_append_right _ z)) fun z => by
    obtain ⟨hb, e⟩ := of_pinsAt z
    obtain ⟨f0, f1, f2, _⟩ := hf p.1 hb
    obtain ⟨o, e', d⟩ := ho p.1 hb
    rw [e] at e'; cases e'
    exact ⟨e, f0, f1, f2, d⟩
theorem Inv.unpinned {pins pl : List (Addr × Obj)} {σ : St} {H : Hp} {s : Shared} (I : Inv X (pins ++ pl) σ H s) : Inv X pins σ H s := I.pins_of fun p hp => I.pin p (List.mem_append_right _ (List.mem_append_left _ hp))
theorem ps_for {iter : Expr} {body : List Stmt} {wi : TI} {g : TG} {tb : TS} {pos : Pos} (hp : PassesOwn (model X.prog X.w) X.A X.env X.xe) (hc : X.calm = true) (hi : PI X tg iter wi) (hg : PG X tg g) (hb : PSs X body tb)
    (hs : ∀ x, foldedSetIterable iter X.env x = pure x := by intro _; rfl) : PS X (.For tg iter body [] pos) (tFor wi g tb) := by
  intro pins s σ H D I h
  refine wpAny_For (thn (hi pins s σ H _ I h) fun v s1 h1 => thn h1 fun itv s2 h2 => ?_) hs
  obtain ⟨it, fp, tn, J, H2, e, I2, T, st2, f2, W, ⟨m0, w0⟩, turn⟩ := h2
  subst e
  -- what stays true of the iterator's objects through the loop
  have stat : ∀ {H' : Hp}, (∀ b ∈ fp, H' b = none) → ∀ b ∈ fp, FpOk X pins H' b := fun hn b hb => ⟨hn b hb, (f2 b hb).2⟩
  refine codeAny_forLoop_any (fun n s' => ∃ i σ' H', Inv X pins σ' H' s' ∧ tn i s'.heap ∧ (∀ b ∈ fp, H' b = none) ∧ W i n σ' H') ?_ m0 ⟨0, σ, H2, I2, st2, fun b hb => (f2 b hb).1, w0⟩
  rintro n s3 ⟨i, σ3, H3, I3, st3, fr3, w3⟩
  rcases turn i n σ3 H3 w3 with ⟨stop, qn⟩ | ⟨go, N, hN, step⟩
  · refine wpAny_passesOwn hp (thn (T.done X rfl rfl rfl hc i pins s3 σ3 H3 X.xe I3 (stat fr3) st3 stop) fun r s4 ⟨hr, I4⟩ => ?_)
    subst hr
    exact wpAny_execs_nil ⟨σ3, H3, I4, qn⟩
  · refine wpAny_passesOwn hp (thn (T.item X rfl rfl rfl hc i pins s3 σ3 H3 X.xe I3 (stat fr3) st3 go) fun r s4 ⟨u, hr, h4⟩ => ?_)
    subst hr
    refine wpAny_passesOwn hp (thn h4 fun _ s5 ⟨x, H5, I5, r5, y5, st5, fr5⟩ => ?_)
    have I5' := I5.pinned (stat fr5) (T.obj _ _ st5)
    refine wpAny_passesOwn hp (thn (hg _ s5 σ3 H5 x u _ I5' r5 (step x H5 y5)) fun _ s6 ⟨σ6, H6, I6, q6⟩ => ?_)
    refine wpAny_passesOwn hp (thn (hb _ s6 σ6 H6 _ I6 q6) fun f s7 q7 => ?_)
    have again : ∀ {σ7 : St} {H7 : Hp}, Inv X (pins ++ pinsAt fp s5.heap) σ7 H7 s7 → N σ7 H7 → ∃ m, m < n ∧ ∃ i σ' H', Inv X pins σ' H' s7 ∧ tn i s7.heap ∧ (∀ b ∈ fp, H' b = none) ∧ W i m σ' H' := fun {σ7 H7} I7 n7 => by
      obtain ⟨m', hm, w7⟩ := hN σ7 H7 n7
      refine ⟨m', hm, i + 1, σ7, H7, I7.unpinned, T.keep _ _ _ st5 fun b hb o e => (I7.pin (b, o) (List.mem_append_right _ (List.mem_append_right _ (mem_pinsAt hb e)))).1, fun b hb => ?_, w7⟩
      obtain ⟨o, e, d⟩ := T.obj _ _ st5 b hb
      exact (I7.pin (b, o) (List.mem_append_right _ (List.mem_append_right _ (mem_pinsAt hb e)))).2.1
    cases f with
    | next => obtain ⟨σ7, H7, I7, n7⟩ := q7; exact again I7 n7
    | cont => obtain ⟨σ7, H7, I7, n7⟩ := q7; exact again I7 n7
    | brk => obtain ⟨σ7, H7, I7, q7⟩ := q7; exact ⟨σ7, H7, I7.unpinned, q7⟩
    | ret v => obtain ⟨x7, σ7, H7, I7, r7, q7⟩ := q7; exact ⟨x7, σ7, H7, I7.unpinned, r7, q7⟩
end

/-! ### the forms one uses -/
/-- over a list that the body leaves as it is -/
theorem for_list {K : PySem.W.Frag} {a : Addr} {xs : List V} {g : TG} {tb : TS} {D : Ends} {σ : St} {H : Hp} (Pv : Nat → St → Hp → Prop) (h0 : Pv 0 σ H) (hl : ∀ i σ H, i ≤ xs.length → Pv i σ H → SqL K H a xs)
    (hs : ∀ i x σ H, xs[i]? = some x → Pv i σ H → g x σ H fun σ2 H2 => tb { D with nx := Pv (i + 1), ct := Pv (i + 1), bk := D.nx } σ2 H2) (hd : ∀ σ H, Pv xs.length σ H → D.nx σ H) :
    ∃ W : Nat → Nat → St → Hp → Prop, (∃ m, W 0 m σ H) ∧ ∀ i m σ H, W i m σ H →
      ((Itl K a).stop i H ∧ D.nx σ H) ∨ ((Itl K a).go i H ∧ ∃ N : St → Hp → Prop, (∀ σ' H', N σ' H' → ∃ m', m' < m ∧ W (i + 1) m' σ' H') ∧ ∀ x H', (Itl K a).yld i H x H' → g x σ H' fun σ2 H2 => tb { D with nx := N, ct := N, bk := D.nx } σ2 H2) := by
  refine ⟨fun i m σ H => m = xs.length - i ∧ i ≤ xs.length ∧ Pv i σ H, ⟨xs.length, by simp, Nat.zero_le _, h0⟩, ?_⟩
  rintro i m σ H ⟨rfl, hi, p⟩
  have q := hl i σ H hi p
  by_cases hlt : i < xs.length
  · refine .inr ⟨⟨xs, xs[i], q, by simp [hlt]⟩, Pv (i + 1), fun σ' H' p' => ⟨xs.length - (i + 1), by omega, rfl, hlt, p'⟩, fun x H' y => ?_⟩
    obtain ⟨e, y⟩ := y
    subst e
    exact hs i x σ _ (y xs q) p
  · have e : i = xs.length := by omega
    subst e
    exact .inl ⟨⟨xs, q, Nat.le_refl _⟩, hd σ H p⟩
theorem for_tup {K : PySem.W.Frag} {a : Addr} {xs : List V} {g : TG} {tb : TS} {D : Ends} {σ : St} {H : Hp} (Pv : Nat → St → Hp → Prop) (h0 : Pv 0 σ H) (hl : ∀ i σ H, i ≤ xs.length → Pv i σ H → SqT K H a xs)
    (hs : ∀ i x σ H, xs[i]? = some x → Pv i σ H → g x σ H fun σ2 H2 => tb { D with nx := Pv (i + 1), ct := Pv (i + 1), bk := D.nx } σ2 H2) (hd : ∀ σ H, Pv xs.length σ H → D.nx σ H) :
    ∃ W : Nat → Nat → St → Hp → Prop, (∃ m, W 0 m σ H) ∧ ∀ i m σ H, W i m σ H →
      ((Itt K a).stop i H ∧ D.nx σ H) ∨ ((Itt K a).go i H ∧ ∃ N : St → Hp → Prop, (∀ σ' H', N σ' H' → ∃ m', m' < m ∧ W (i + 1) m' σ' H') ∧ ∀ x H', (Itt K a).yld i H x H' → g x σ H' fun σ2 H2 => tb { D with nx := N, ct := N, bk := D.nx } σ2 H2) := by
  refine ⟨fun i m σ H => m = xs.length - i ∧ i ≤ xs.length ∧ Pv i σ H, ⟨xs.length, by simp, Nat.zero_le _, h0⟩, ?_⟩
  rintro i m σ H ⟨rfl, hi, p⟩
  have q := hl i σ H hi p
  by_cases hlt : i < xs.length
  · refine .inr ⟨⟨xs, xs[i], q, by simp [hlt]⟩, Pv (i + 1), fun σ' H' p' => ⟨xs.length - (i + 1), by omega, rfl, hlt, p'⟩, fun x H' y => ?_⟩
    obtain ⟨e, y⟩ := y
    subst e
    exact hs i x σ _ (y xs q) p
  · have e : i = xs.length := by omega
    subst e
    exact .inl ⟨⟨xs, q, Nat.le_refl _⟩, hd σ H p⟩
theorem for_range {lo : Int} {n : Nat} {g : TG} {tb : TS} {D : Ends} {σ : St} {H : Hp} (Pv : Nat → St → Hp → Prop) (h0 : Pv 0 σ H)
    (hs : ∀ i σ H, i < n → Pv i σ H → g (.int (lo + i)) σ H fun σ2 H2 => tb { D with nx := Pv (i + 1), ct := Pv (i + 1), bk := D.nx } σ2 H2) (hd : ∀ σ H, Pv n σ H → D.nx σ H) :
    ∃ W : Nat → Nat → St → Hp → Prop, (∃ m, W 0 m σ H) ∧ ∀ i m σ H, W i m σ H →
      ((Itr lo n).stop i H ∧ D.nx σ H) ∨ ((Itr lo n).go i H ∧ ∃ N : St → Hp → Prop, (∀ σ' H', N σ' H' → ∃ m', m' < m ∧ W (i + 1) m' σ' H') ∧ ∀ x H', (Itr lo n).yld i H x H' → g x σ H' fun σ2 H2 => tb { D with nx := N, ct := N, bk := D.nx } σ2 H2) := by
  refine ⟨fun i m σ H => m = n - i ∧ i ≤ n ∧ Pv i σ H, ⟨n, by simp, Nat.zero_le _, h0⟩, ?_⟩
  rintro i m σ H ⟨rfl, hi, p⟩
  by_cases hlt : i < n
  · refine .inr ⟨hlt, Pv (i + 1), fun σ' H' p' => ⟨n - (i + 1), by omega, rfl, hlt, p'⟩, fun x H' y => ?_⟩
    obtain ⟨e, y⟩ := y
    subst e y
    exact hs i σ _ hlt p
  · have e : i = n := by omega
    subst e
    exact .inl ⟨Nat.le_refl _, hd σ H p⟩
end L2

namespace L2
open PySem PySem.Spec PyProof.Rows

abbrev R2 := V → V → Hp → VK → Prop
/-- a two-place operation on values: f is binaryOp op, inplaceOp op or compareOp op -/
def OpR (X : Cx) (f : Value → Value → Sem Value) (r : R2) : Prop :=
  ∀ (pins : List (Addr × Obj)) (s : Shared) (σ : St) (H : Hp) (x y : V) (v u : Value) (Q : VK), Inv X pins σ H s → RelV x v → RelV y u → r x y H Q →
    wpAny (model X.prog X.w) X.A (f v u) (EP X pins σ Q) X.xe s
/-- a one-place operation -/
def UnR (X : Cx) (f : Value → Sem Value) (r : V → Hp → VK → Prop) : Prop :=
  ∀ (pins : List (Addr × Obj)) (s : Shared) (σ : St) (H : Hp) (x : V) (v : Value) (Q : VK), Inv X pins σ H s → RelV x v → r x H Q →
    wpAny (model X.prog X.w) X.A (f v) (EP X pins σ Q) X.xe s
/-- a call of a value that is known (a builtin, a type) with values -/
def CallR (X : Cx) (f : Value) (r : List V → Hp → VK → Prop) : Prop :=
  ∀ (pins : List (Addr × Obj)) (s : Shared) (σ : St) (H : Hp) (xs : List V) (us : List Value) (Q : VK), Inv X pins σ H s → Vals xs us → r xs H Q →
    wpAny (model X.prog X.w) X.A (call f us) (EP X pins σ Q) X.xe s
def tOp (r : R2) (ta tb : TE) : TE := fun σ H Q => ta σ H fun x H1 => tb σ H1 fun y H2 => r x y H2 Q
def tUn (r : V → Hp → VK → Prop) (ta : TE) : TE := fun σ H Q => ta σ H fun x H1 => r x H1 Q
/-- ints in, under C, and a value out -/
def rI (C : Int → Int → Prop) (g : Int → Int → V) : R2 := fun x y H Q => ∃ i j, x = .int i ∧ y = .int j ∧ C i j ∧ Q (g i j) H
def rI0 (g : Int → Int → V) : R2 := fun x y H Q => ∃ i j, x = .int i ∧ y = .int j ∧ Q (g i j) H
def rU (g : Int → V) : V → Hp → VK → Prop := fun x H Q => ∃ i, x = .int i ∧ Q (g i) H

section
variable {X : Cx} {a b c : Expr} {ta tb tc : TE} {pos : Pos}

theorem binT (ha : PE X a ta) (hb : PE X b tb) {pins : List (Addr × Obj)} {s : Shared} {σ : St} {H : Hp} {R : V → V → Hp → Prop} (I : Inv X pins σ H s)
    (h : ta σ H fun x H1 => tb σ H1 fun y H2 => R x y H2) {Q : Value → Shared → Prop} {f : Value → Value → Sem Value}
    (hf : ∀ v u s2 x y H2, Inv X pins σ H2 s2 → RelV x v → RelV y u → R x y H2 → wpAny (model X.prog X.w) X.A (f v u) Q X.xe s2) :
    wpAny (model X.prog X.w) X.A (eval a X.env) (fun v s₁ => wpAny (model X.prog X.w) X.A (eval b X.env) (fun u s₂ => wpAny (model X.prog X.w) X.A (f v u) Q X.xe s₂) X.xe s₁) X.xe s := by
  refine thn (ha pins s σ H _ I h) fun v s1 ⟨x, H1, I1, r1, q1⟩ => ?_
  refine thn (hb pins s1 σ H1 _ I1 q1) fun u s2 ⟨y, H2, I2, r2, q2⟩ => ?_
  exact hf v u s2 x y H2 I2 r1 r2 q2

theorem pe_op {op : Operator} {r : R2} (ho : OpR X (binaryOp op) r) (ha : PE X a ta) (hb : PE X b tb) : PE X (.BinOp a op b pos) (tOp r ta tb) := by
  intro pins s σ H Q I h
  exact wpAny_BinOp (binT ha hb I h fun v u s2 x y H2 I2 rx ry q => ho pins s2 σ H2 x y v u Q I2 rx ry q)
theorem pe_un {op : UnaryOp} {r : V → Hp → VK → Prop} (ho : UnR X (unaryOp op) r) (ha : PE X a ta) : PE X (.UnaryOp op a pos) (tUn r ta) := by
  intro pins s σ H Q I h
  exact UnaryOp_ (thn (ha pins s σ H _ I h) fun v s1 ⟨x, H1, I1, r1, q1⟩ => ho pins s1 σ H1 x v Q I1 r1 q1)
/-! ### ints -/
theorem opI {f : Value → Value → Sem Value} {C : Int → Int → Prop} {g : Int → Int → Int}
    (rule : ∀ (i j : Int) (t u : Tok) (s : Shared) (Q : Value → Shared → Prop) (E : Value → Shared → Prop), C i j → Q (.int (g i j) s.toks) { s with toks := s.toks + 1 } → wpAny (model X.prog X.w) X.A (f (.int i t) (.int j u)) Q E s) :
    OpR X f (rI C fun i j => .int (g i j)) := by
  intro pins s σ H x y v u Q I rx ry h
  obtain ⟨i, j, rfl, rfl, hc, q⟩ := h
  obtain ⟨t, rfl⟩ := rx
  obtain ⟨t', rfl⟩ := ry
  exact rule i j t t' s _ _ hc ⟨.int (g i j), H, I.tok _, ⟨_, rfl⟩, q⟩
theorem opI0 {f : Value → Value → Sem Value} {g : Int → Int → Int}
    (rule : ∀ (i j : Int) (t u : Tok) (s : Shared) (Q : Value → Shared → Prop) (E : Value → Shared → Prop), Q (.int (g i j) s.toks) { s with toks := s.toks + 1 } → wpAny (model X.prog X.w) X.A (f (.int i t) (.int j u)) Q E s) :
    OpR X f (rI0 fun i j => .int (g i j)) := by
  intro pins s σ H x y v u Q I rx ry h
  obtain ⟨i, j, rfl, rfl, q⟩ := h
  obtain ⟨t, rfl⟩ := rx
  obtain ⟨t', rfl⟩ := ry
  exact rule i j t t' s _ _ ⟨.int (g i j), H, I.tok _, ⟨_, rfl⟩, q⟩
theorem opB0 {f : Value → Value → Sem Value} {g : Int → Int → Bool}
    (rule : ∀ (i j : Int) (t u : Tok) (s : Shared) (Q : Value → Shared → Prop) (E : Value → Shared → Prop), Q (.bool (g i j)) s → wpAny (model X.prog X.w) X.A (f (.int i t) (.int j u)) Q E s) :
    OpR X f (rI0 fun i j => .bl (g i j)) := by
  intro pins s σ H x y v u Q I rx ry h
  obtain ⟨i, j, rfl, rfl, q⟩ := h
  obtain ⟨t, rfl⟩ := rx
  obtain ⟨t', rfl⟩ := ry
  exact rule i j t t' s _ _ ⟨.bl (g i j), H, I, rfl, q⟩

def CDiv (i j : Int) : Prop := 0 < j ∧ j < 1073741824
def CPow (i j : Int) : Prop := 0 ≤ j ∧ j ≤ 1000000 ∧ i.natAbs < 2 ^ 64
def CMul (i j : Int) : Prop := (-(2 ^ 64) < i ∧ i < 2 ^ 64) ∨ (-(2 ^ 64) < j ∧ j < 2 ^ 64)
theorem CMul.ok {i j : Int} (h : CMul i j) : IntMulOk i j := by
  rcases h with ⟨h1, h2⟩ | ⟨h1, h2⟩
  · exact .of_left (intBits_le_64 h1 h2)
  · exact .of_right (intBits_le_64 h1 h2)
theorem op_add : OpR X (binaryOp .Add) (rI0 fun i j => .int (i + j)) := opI0 fun _ _ _ _ _ _ _ q => add_int q
theorem op_sub : OpR X (binaryOp .Sub) (rI0 fun i j => .int (i - j)) := opI0 fun _ _ _ _ _ _ _ q => sub_int q
theorem op_mul : OpR X (binaryOp .Mult) (rI CMul fun i j => .int (i * j)) := opI fun _ _ _ _ _ _ _ hc q => mul_int q hc.ok
/-- // by a positive divisor -/
theorem op_fdiv : OpR X (binaryOp .FloorDiv) (rI CDiv fun i j => .int (i / j)) := opI fun i j _ _ _ _ _ hc q => by
  have h1 : (0 : Int) < j := hc.1
  have h2 : j < 1073741824 := hc.2
  exact floordiv_int (by omega) (by rw [Int.fdiv_eq_ediv_of_nonneg i (by omega)]; exact q) (.inl (PyProof.noPylong_small (by omega)))
/-- % by a positive divisor of any size -/
theorem op_mod : OpR X (binaryOp .Mod) (rI (fun _ j => 0 < j) fun i j => .int (i % j)) := opI fun i j _ _ _ _ _ hc q => by
  have h1 : (0 : Int) < j := hc
  exact mod_int' (by omega) (by rw [Int.fmod_eq_emod_of_nonneg i (by omega)]; exact q)
theorem op_pow : OpR X (binaryOp .Pow) (rI CPow fun i j => .int (i ^ j.toNat)) := opI fun _ _ _ _ _ _ _ hc q => pow_int_small hc.1 hc.2.1 hc.2.2 q
theorem unI {f : Value → Sem Value} {g : Int → Int}
    (rule : ∀ (i : Int) (t : Tok) (s : Shared) (Q : Value → Shared → Prop) (E : Value → Shared → Prop), Q (.int (g i) s.toks) { s with toks := s.toks + 1 } → wpAny (model X.prog X.w) X.A (f (.int i t)) Q E s) :
    UnR X f (rU fun i => .int (g i)) := by
  intro pins s σ H x v Q I rx h
  obtain ⟨i, rfl, q⟩ := h
  obtain ⟨t, rfl⟩ := rx
  exact rule i t s _ _ ⟨.int (g i), H, I.tok _, ⟨_, rfl⟩, q⟩
theorem un_neg : UnR X (unaryOp .USub) (rU fun i => .int (-i)) := unI fun _ _ _ _ _ q => neg_int q
/-! ### bools among ints: n += (a < b) -/
end

/-! ### comparisons -/
/-- the scalars that == tells apart as data does -/
def scal : V → V → Bool
  | .non, .non => true | .non, .int _ => true | .int _, .non => true | .non, .bl _ => true | .bl _, .non => true | .non, .str _ => true | .str _, .non => true
  | .int _, .int _ => true | .bl _, .bl _ => true | .str _, .str _ => true | .byt _, .byt _ => true
  | .int _, .str _ => true | .str _, .int _ => true | .bl _, .str _ => true | .str _, .bl _ => true
  | _, _ => false
def rEq : R2 := fun x y H Q => scal x y = true ∧ Q (.bl (decide (x = y))) H
def rNe : R2 := fun x y H Q => scal x y = true ∧ Q (.bl (!decide (x = y))) H

theorem dec_int {i j : Int} : decide (V.int i = V.int j) = (i == j) := by
  rw [Bool.eq_iff_iff]
  simp
theorem dec_bl {i j : Bool} : decide (V.bl i = V.bl j) = (i == j) := by
  rw [Bool.eq_iff_iff]
  simp
theorem dec_str {i j : Str} : decide (V.str i = V.str j) = (i == j) := by
  rw [Bool.eq_iff_iff]
  simp
theorem dec_byt {i j : Array UInt8} : decide (V.byt i = V.byt j) = (i.toList == j.toList) := by
  rw [Bool.eq_iff_iff]
  cases i
  cases j
  simp

section
variable {X : Cx} {a b c : Expr} {ta tb tc : TE} {pos : Pos}
theorem fin_bl {pins : List (Addr × Obj)} {σ : St} {H : Hp} {s : Shared} {Q : VK} {k k' : Bool} (I : Inv X pins σ H s) (q : Q (.bl k) H) (e : k = k') : EP X pins σ Q (.bool k') s := by
  subst e
  exact ⟨.bl k, H, I, rfl, q⟩
theorem op_eq : OpR X (compareOp .Eq) rEq := by
  intro pins s σ H x y v u Q I rx ry h
  obtain ⟨hs, q⟩ := h
  cases x with
  | non =>
    cases rx
    cases y with
    | non => cases ry; exact PySem.EqNone.eq_none_none (fin_bl I q (by simp))
    | bl j => cases ry; exact PySem.EqNone.eq_none_bool (fin_bl I q (by simp))
    | int j => obtain ⟨t', rfl⟩ := ry; exact PySem.EqNone.eq_none_int (fin_bl I q (by simp))
    | str j => obtain ⟨t', rfl⟩ := ry; exact PySem.EqNone.eq_none_str (fin_bl I q (by simp))
    | _ => exact absurd (show false = true from hs) Bool.false_ne_true
  | bl i =>
    cases rx
    cases y with
    | non => cases ry; exact PySem.EqNone.eq_bool_none (fin_bl I q (by simp))
    | bl j => cases ry; exact eq_bool (fin_bl I q dec_bl)
    | str j => obtain ⟨t', rfl⟩ := ry; exact PySem.EqMixed.eq_bool_str (fin_bl I q (by simp))
    | _ => exact absurd (show false = true from hs) Bool.false_ne_true
  | int i =>
    obtain ⟨t, rfl⟩ := rx
    cases y with
    | non => cases ry; exact PySem.EqNone.eq_int_none (fin_bl I q (by simp))
    | int j => obtain ⟨t', rfl⟩ := ry; exact eq_int (fin_bl I q dec_int)
    | str j => obtain ⟨t', rfl⟩ := ry; exact PySem.EqMixed.eq_int_str (fin_bl I q (by simp))
    | _ => exact absurd (show false = true from hs) Bool.false_ne_true
  | str i =>
    obtain ⟨t, rfl⟩ := rx
    cases y with
    | non => cases ry; exact PySem.EqNone.eq_str_none (fin_bl I q (by simp))
    | bl j => cases ry; exact PySem.EqMixed.eq_str_bool (fin_bl I q (by simp))
    | int j => obtain ⟨t', rfl⟩ := ry; exact PySem.EqMixed.eq_str_int (fin_bl I q (by simp))
    | str j => obtain ⟨t', rfl⟩ := ry; exact eq_str (fin_bl I q dec_str)
    | _ => exact absurd (show false = true from hs) Bool.false_ne_true
  | byt i =>
    obtain ⟨t, rfl⟩ := rx
    cases y with
    | byt j => obtain ⟨t', rfl⟩ := ry; exact PySem.W.eq_bytes (fin_bl I q dec_byt)
    | _ => exact absurd (show false = true from hs) Bool.false_ne_true
  | _ => cases y <;> exact absurd (show false = true from hs) Bool.false_ne_true
theorem op_ne : OpR X (compareOp .NotEq) rNe := by
  intro pins s σ H x y v u Q I rx ry h
  obtain ⟨hs, q⟩ := h
  cases x with
  | non =>
    cases rx
    cases y with
    | non => cases ry; exact PySem.EqNone.ne_none_none (fin_bl I q (by simp))
    | bl j => cases ry; exact PySem.EqNone.ne_none_bool (fin_bl I q (by simp))
    | int j => obtain ⟨t', rfl⟩ := ry; exact PySem.EqNone.ne_none_int (fin_bl I q (by simp))
    | str j => obtain ⟨t', rfl⟩ := ry; exact PySem.EqNone.ne_none_str (fin_bl I q (by simp))
    | _ => exact absurd (show false = true from hs) Bool.false_ne_true
  | bl i =>
    cases rx
    cases y with
    | non => cases ry; exact PySem.EqNone.ne_bool_none (fin_bl I q (by simp))
    | bl j => cases ry; exact ne_bool (fin_bl I q (congrArg not dec_bl))
    | str j => obtain ⟨t', rfl⟩ := ry; exact PySem.EqMixed.ne_bool_str (fin_bl I q (by simp))
    | _ => exact absurd (show false = true from hs) Bool.false_ne_true
  | int i =>
    obtain ⟨t, rfl⟩ := rx
    cases y with
    | non => cases ry; exact PySem.EqNone.ne_int_none (fin_bl I q (by simp))
    | int j => obtain ⟨t', rfl⟩ := ry; exact ne_int (fin_bl I q (congrArg not dec_int))
    | str j => obtain ⟨t', rfl⟩ := ry; exact PySem.EqMixed.ne_int_str (fin_bl I q (by simp))
    | _ => exact absurd (show false = true from hs) Bool.false_ne_true
  | str i =>
    obtain ⟨t, rfl⟩ := rx
    cases y with
    | non => cases ry; exact PySem.EqNone.ne_str_none (fin_bl I q (by simp))
    | bl j => cases ry; exact PySem.EqMixed.ne_str_bool (fin_bl I q (by simp))
    | int j => obtain ⟨t', rfl⟩ := ry; exact PySem.EqMixed.ne_str_int (fin_bl I q (by simp))
    | str j => obtain ⟨t', rfl⟩ := ry; exact ne_str (fin_bl I q (congrArg not dec_str))
    | _ => exact absurd (show false = true from hs) Bool.false_ne_true
  | byt i =>
    obtain ⟨t, rfl⟩ := rx
    cases y with
    | byt j => obtain ⟨t', rfl⟩ := ry; exact PySem.W.ne_bytes (fin_bl I q (congrArg not dec_byt))
    | _ => exact absurd (show false = true from hs) Bool.false_ne_true
  | _ => cases y <;> exact absurd (show false = true from hs) Bool.false_ne_true

theorem op_gt : OpR X (compareOp .Gt) (rI0 fun i j => .bl (decide (j < i))) := opB0 fun _ _ _ _ _ _ _ q => gt_int q
/-- the one string within the other -/
theorem op_in_str : OpR X (compareOp .In) (fun x y H Q => ∃ i j, x = .str i ∧ y = .str j ∧ Q (.bl (!(Builtin.Str.occurrences j i 0 j.length 1).isEmpty)) H) := by
  intro pins s σ H x y v u Q I rx ry h
  obtain ⟨i, j, rfl, rfl, q⟩ := h
  obtain ⟨t, rfl⟩ := rx
  obtain ⟨t', rfl⟩ := ry
  exact in_str (fin_bl I q rfl)

/-- is None, is not None: the right side a value none -/
theorem op_isN : OpR X (compareOp .Is) (fun x y H Q => y = .non ∧ Q (.bl (decide (x = .non))) H) := by
  intro pins s σ H x y v u Q I rx ry h
  obtain ⟨rfl, q⟩ := h
  cases ry
  refine is_none_gen (fin_bl I q ?_)
  cases x <;> first
    | (cases rx; rfl)
    | (obtain ⟨t, rfl⟩ := rx; rfl)
theorem op_notN : OpR X (compareOp .IsNot) (fun x y H Q => y = .non ∧ Q (.bl (!decide (x = .non))) H) := by
  intro pins s σ H x y v u Q I rx ry h
  obtain ⟨rfl, q⟩ := h
  cases ry
  refine isnot_none_gen (fin_bl I q ?_)
  cases x <;> first
    | (cases rx; rfl)
    | (obtain ⟨t, rfl⟩ := rx; rfl)

theorem op_notin_str : OpR X (compareOp .NotIn) (fun x y H Q => ∃ i j, x = .str i ∧ y = .str j ∧ Q (.bl (!(!(Builtin.Str.occurrences j i 0 j.length 1).isEmpty))) H) := by
  intro pins s σ H x y v u Q I rx ry h
  obtain ⟨i, j, rfl, rfl, q⟩ := h
  obtain ⟨t, rfl⟩ := rx
  obtain ⟨t', rfl⟩ := ry
  exact notIn_str (fin_bl I q rfl)
/-- two rules for one operation: by cases -/
theorem OpR.or {f : Value → Value → Sem Value} {r r' : R2} (h : OpR X f r) (h' : OpR X f r') : OpR X f (fun x y H Q => r x y H Q ∨ r' x y H Q) := by
  intro pins s σ H x y v u Q I rx ry q
  rcases q with q | q
  · exact h pins s σ H x y v u Q I rx ry q
  · exact h' pins s σ H x y v u Q I rx ry q

theorem nomark (b : Expr) {op : CmpOp} (h : op ≠ .In := by decide) (h2 : op ≠ .NotIn := by decide) : behindInMarks op b = false := by
  have e1 : (op == CmpOp.In) = false := by cases op <;> first | rfl | exact absurd rfl h
  have e2 : (op == CmpOp.NotIn) = false := by cases op <;> first | rfl | exact absurd rfl h2
  cases b <;> simp [behindInMarks, e1, e2]
/-- a comparison as a value; hm: nomark b, or (for in, not in) by with_unfolding_all rfl -/
theorem pe_cmpR {op : CmpOp} {r : R2} (ho : OpR X (compareOp op) r) (ha : PE X a ta) (hb : PE X b tb) (hm : behindInMarks op b = false) : PE X (.Compare a [op] [b] pos) (tOp r ta tb) := by
  intro pins s σ H Q I h
  exact wpAny_Compare1 (binT ha hb I h fun v u s2 x y H2 I2 rx ry q => ho pins s2 σ H2 x y v u Q I2 rx ry q) hm
/-- a reading of a value as a test -/
def tTest (t : TE) : TT := fun σ H Q => t σ H fun x H' => ∃ k, x = .bl k ∧ Q k H'
theorem pt_cmpR {op : CmpOp} {r : R2} (ho : OpR X (compareOp op) r) (ha : PE X a ta) (hb : PE X b tb) (hm : behindInMarks op b = false) : PT X (.Compare a [op] [b] pos) (tTest (tOp r ta tb)) := by
  intro pins s σ H Q I h
  refine wpAny_isTrue_Compare1 (thn (ha pins s σ H _ I h) fun v s1 ⟨x, H1, I1, r1, q1⟩ => thn (hb pins s1 σ H1 _ I1 q1) fun u s2 ⟨y, H2, I2, r2, q2⟩ =>
    thn (ho pins s2 σ H2 x y v u _ I2 r1 r2 q2) fun c s3 ⟨z, H3, I3, r3, k, e, q3⟩ => ?_) hm
  subst e
  cases r3
  exact wpAny_truthy_bool ⟨H3, I3, q3⟩
/-! ### truth -/
theorem line63 : (sizeLine : Nat) < 2 ^ 63 := by rw [sizeLine_eq]; decide
/-! ### strs and bytes -/
theorem op_add_str : OpR X (binaryOp .Add) (fun x y H Q => ∃ i j, x = .str i ∧ y = .str j ∧ i.length + j.length ≤ sizeLine ∧ Q (.str (i ++ j)) H) := by
  intro pins s σ H x y v u Q I rx ry h
  obtain ⟨i, j, rfl, rfl, hz, q⟩ := h
  obtain ⟨t, rfl⟩ := rx
  obtain ⟨t', rfl⟩ := ry
  exact add_str (fun t' tk => ⟨.str (i ++ j), H, I.tok _, ⟨_, rfl⟩, q⟩) hz
/-! ### scalar builtins, by CallR -/
theorem vals1 {x : V} {us : List Value} (r : Vals [x] us) : ∃ u, us = [u] ∧ RelV x u := by
  cases r with
  | cons r1 r2 => cases r2; exact ⟨_, rfl, r1⟩
theorem vals2 {x y : V} {us : List Value} (r : Vals [x, y] us) : ∃ u w', us = [u, w'] ∧ RelV x u ∧ RelV y w' := by
  cases r with
  | cons r1 r2 =>
    cases r2 with
    | cons r3 r4 => cases r4; exact ⟨_, _, rfl, r1, r3⟩
theorem call_min2 (hc : X.calm = true) : CallR X (.builtin "min") (fun xs H Q => ∃ i j, xs = [.int i, .int j] ∧ Q (.int (if j < i then j else i)) H) := by
  intro pins s σ H xs us Q I r h
  obtain ⟨i, j, rfl, q⟩ := h
  obtain ⟨u, w', rfl, ⟨t, rfl⟩, ⟨t', rfl⟩⟩ := vals2 r
  refine min_two_ints (I.ok.hd hc) fun h' tk k => ⟨_, H, I.kept k, ?_, q⟩
  by_cases hj : j < i
  · rw [if_pos hj, if_pos hj]; exact ⟨_, rfl⟩
  · rw [if_neg hj, if_neg hj]; exact ⟨_, rfl⟩
theorem call_int1 : CallR X (.type "int") (fun xs H Q => (∃ i, xs = [.int i] ∧ Q (.int i) H) ∨ ∃ k, xs = [.bl k] ∧ Q (.int (if k then 1 else 0)) H) := by
  intro pins s σ H xs us Q I r h
  rcases h with ⟨i, rfl, q⟩ | ⟨k, rfl, q⟩
  · obtain ⟨u, rfl, t, rfl⟩ := vals1 r
    exact call_int_int ⟨.int i, H, I, ⟨_, rfl⟩, q⟩
  · obtain ⟨u, rfl, r1⟩ := vals1 r
    cases r1
    exact call_int_bool ⟨.int (if k then 1 else 0), H, I.tok _, ⟨_, rfl⟩, q⟩
theorem call_str_int : CallR X (.type "str") (fun xs H Q => ∃ i, xs = [.int i] ∧ i.natAbs.log2 < 1920 ∧ Q (.str (toString i)) H) := by
  intro pins s σ H xs us Q I r h
  obtain ⟨i, rfl, hz, q⟩ := h
  obtain ⟨u, rfl, t, rfl⟩ := vals1 r
  exact PySem.P.str_of_int hz ⟨.str _, H, I.tok _, ⟨_, rfl⟩, q⟩
end
end L2

namespace L2
open PySem PySem.Spec PyProof.Rows

/-! ### an instance, its attributes a map -/
structure ObjM (h : Heap) (x dx C : Addr) (mA : Str → Option Value) : Prop where
  obj : h.get? x = some (PySem.W.instObj C dx)
  ns : h.Ns1 dx mA
  ne : dx ≠ x

theorem lookIn_ns {h : Heap} {dx : Addr} {mA : Str → Option Value} (n : h.Ns1 dx mA) : ∃ od, h.get? dx = some od ∧ ∀ name, PySem.W.lookIn name od = some (mA name) := by
  obtain ⟨o, es, ep, ho, hd, hk, _, hm⟩ := n
  refine ⟨o, ho, fun name => ?_⟩
  have e := hm name
  unfold nsFind findBy at e
  rw [← Array.find?_toList] at e
  unfold PySem.W.lookIn
  rw [hd]
  dsimp only
  split
  · rename_i y q
    rw [q] at e
    exact congrArg some e
  · rename_i q
    rw [q] at e
    have a : es.toList.any (·.refKey) = false := by
      rw [List.any_eq_false]
      intro y hy
      obtain ⟨z, t, hkey⟩ := hk y (Array.mem_toList_iff.mp hy)
      simp [DictEntry.refKey, hkey]
    have a' : ¬ es.toList.any (·.refKey) = true := by rw [a]; exact Bool.false_ne_true
    rw [if_neg a']
    exact congrArg some e

theorem ObjM.look {h : Heap} {x dx C : Addr} {mA : Str → Option Value} (I : ObjM h x dx C mA) : ∃ od, PySem.W.InstAt h x (PySem.W.instObj C dx) C (some od) ∧ ∀ name, PySem.W.lookIn name od = some (mA name) :=
  let ⟨od, ho, hl⟩ := lookIn_ns I.ns
  ⟨od, ⟨I.obj, rfl, rfl, ho⟩, hl⟩

section
variable {prog : Program} {w : World} {A : Around} {E : Value → Shared → Prop} {s : Shared} {K : PySem.W.Frag} {x dx C f : Addr} {mA : Str → Option Value} {name : Str} {v : Value}

end

/-! ### the attributes as a list of pairs -/
section
variable {P : Program} {w : World} {H H' : Hp} {h h' : Heap} {a C dx : Addr} {fs fs' : List (Str × V)}
theorem ins_get (hok : HOk P w H h) (e : H a = some (.ins C dx fs)) : ∃ mA, ObjM h a dx C mA ∧ (∀ f, RelO (fs.lookup f) (mA f)) ∧ PySem.Within mA (fs.map (·.1)) ∧ fs.length ≤ 1000 ∧ H dx = some (.own a) := by
  obtain ⟨d, z, ne, ob, mA, n, r, q⟩ := (show ObjOk P w H h a (.ins C dx fs) from hok a _ e)
  exact ⟨mA, ⟨ob, n, ne⟩, r, q, z, d⟩
end

/-! ### what of the text a class must have -/
structure Cls (K : PySem.W.Frag) (C : Addr) : Prop where
  pg : PySem.W.plainGet K C Str.empty = true
  hd : PySem.W.hasDictIn K C = true
  po : PySem.W.plainOver K C = true
  sa : PySem.W.findIn K (.ref C) "__setattr__" = some (some (.builtin "object.__setattr__"))
theorem Cls.get {K : PySem.W.Frag} {C : Addr} (c : Cls K C) (f : Str) : PySem.W.plainGet K C f = true := c.pg
section
variable {X : Cx} {pins : List (Addr × Obj)} {σ : St} {H : Hp} {s : Shared} {a C dx : Addr} {fs : List (Str × V)} {f : Str} {v : V} {A : Around} {E : Value → Shared → Prop}

/-- a new instance, tracked, without attributes -/
theorem Inv.made (I : Inv X pins σ H s) : Inv X pins σ (upd (upd H s.heap.objs.size (.own (s.heap.objs.size + 1))) (s.heap.objs.size + 1) (.ins C s.heap.objs.size []))
    { s with heap := (s.heap.push PySem.W.emptyDict).push (PySem.W.instObj C s.heap.objs.size) } := by
  have e1 : (s.heap.push PySem.W.emptyDict).get? s.heap.objs.size = some PySem.W.emptyDict := Heap.get?_push_size s.heap rfl
  have e2 : ((s.heap.push PySem.W.emptyDict).push (PySem.W.instObj C s.heap.objs.size)).get? (s.heap.objs.size + 1) = some (PySem.W.instObj C s.heap.objs.size) := by
    have := Heap.get?_push_size (s.heap.push PySem.W.emptyDict) (o := PySem.W.instObj C s.heap.objs.size) rfl
    rwa [Heap.size_push] at this
  have e3 : (s.heap.push PySem.W.emptyDict).Ns s.heap.objs.size (fun _ => none) := ⟨PySem.W.emptyDict, #[], _, e1, rfl, (fun e he => absurd he (by simp)), fun _ => rfl⟩
  have I1 := I.laid (a := s.heap.objs.size) (o := .own (s.heap.objs.size + 1)) (h' := s.heap.push PySem.W.emptyDict) (t' := s.toks) (fun b u q => Heap.get?_push_of_some _ q) (Nat.le_refl _) ⟨_, e1⟩
  refine I1.laid (a := s.heap.objs.size + 1) (o := .ins C s.heap.objs.size []) (t' := s.toks) (fun b u q => Heap.get?_push_of_some _ q) (Nat.le_of_eq (Heap.size_push _ _)) ?_
  have ne : s.heap.objs.size ≠ s.heap.objs.size + 1 := Nat.ne_of_lt (Nat.lt_succ_self _)
  refine ⟨by rw [upd_ne ne, upd_same], Nat.zero_le _, ne, e2, fun _ => none, (Heap.Ns1.of_empty e3).at fun o q => Heap.get?_push_of_some _ q, fun _ => True.intro, fun y hy => absurd rfl hy⟩

end

/-! ### readings and rules -/
section
variable {X : Cx} {o e value : Expr} {f : Str} {pos pos' tpos : Pos} {ta tv : TE}
end

/-! ### isinstance -/
section
variable {X : Cx} {pins : List (Addr × Obj)} {σ : St} {H : Hp} {s : Shared} {A : Around} {E : Value → Shared → Prop} {Q : Value → Shared → Prop} {c : Value} {b : Bool}
/-- the type of a value, as the fragment's deciders take it; for an instance its class -/
inductive TyOf (K : PySem.W.Frag) (H : Hp) : V → Value → Prop where
  | non : TyOf K H .non (.type "NoneType")
  | bl (x : Bool) : TyOf K H (.bl x) (.type "bool")
  | int (i : Int) : TyOf K H (.int i) (.type "int")
  | str (x : Str) : TyOf K H (.str x) (.type "str")
  | flt (x : UInt64) : TyOf K H (.flt x) (.type "float")
  | lst {a : Addr} {xs : List V} (e : H a = some (.lst xs)) : TyOf K H (.ref a) (.type "list")
  | frz {a : Addr} {o : Obj} {xs : List V} (e : H a = some (.frz o (.lst xs))) : TyOf K H (.ref a) (.type "list")
  | tup {a : Addr} {xs : List V} (e : H a = some (.tup xs)) : TyOf K H (.ref a) (.type "tuple")
  | dK {a : Addr} {kvs : List (Key × V)} (e : H a = some (.dK kvs)) : TyOf K H (.ref a) (.type "dict")
  | dT {a : Addr} {kvs : List (List Key × V)} (e : H a = some (.dT kvs)) : TyOf K H (.ref a) (.type "dict")
  | ins {a C dx : Addr} {fs : List (Str × V)} (e : H a = some (.ins C dx fs)) (cl : Cls K C) (ha : PySem.W.findIn K (.ref C) "__class__" = some (some (.builtin "object.__class__")))
      (hn : PySem.W.specialIn K (.builtin "object.__class__") "__get__" = some (some (.builtin "getset_descriptor.__get__"))) (htk : PySem.W.takesIn K (.builtin "object.__class__") = some true)
      (hm : PySem.W.mroIn K C (.type "object") = some true) : TyOf K H (.ref a) (.ref C)
/-- isinstance(x, c) for one class c, a built-in or an own one: kitOne's answer -/
theorem isinst_ok {x : V} {u t : Value} (I : Inv X pins σ H s) (rx : RelV x u) (ty : TyOf X.K H x t) (e : PySem.W.kitOne X.K t c = some b) (h : ∀ tk, Q (.bool b) { s with toks := tk }) :
    wpAny (model X.prog X.w) A (call (.builtin "isinstance") [u, c]) Q E s := by
  cases ty with
  | non => cases (show u = Value.none from rx); exact PySem.W.kia_one PySem.W.kitx_none I.kIn True.intro e (fun z => nomatch z) h
  | bl y => cases (show u = Value.bool y from rx); exact PySem.W.kia_one PySem.W.kitx_bool I.kIn True.intro e (fun z => nomatch z) h
  | int i => obtain ⟨t, q⟩ := (show ∃ t, u = Value.int i t from rx); cases q; exact PySem.W.kia_one PySem.W.kitx_int I.kIn True.intro e (fun z => nomatch z) h
  | str y => obtain ⟨t, q⟩ := (show ∃ t, u = Value.str y t from rx); cases q; exact PySem.W.kia_one PySem.W.kitx_str I.kIn True.intro e (fun z => nomatch z) h
  | flt y => obtain ⟨t, q⟩ := (show ∃ t, u = Value.float y t from rx); cases q; exact PySem.W.kia_one PySem.W.kitx_float I.kIn True.intro e (fun z => nomatch z) h
  | @lst a xs ea =>
    cases (show u = Value.ref a from rx)
    obtain ⟨_, _, n, _, h1⟩ := (show ObjOk X.prog X.w H s.heap a (.lst xs) from I.hok a _ ea)
    exact PySem.W.kia_one PySem.W.kitx_list I.kIn ⟨_, h1, rfl⟩ e (fun z => nomatch z) h
  | @frz a ob xs ea =>
    cases (show u = Value.ref a from rx)
    obtain ⟨_, _, _, n, _, h1⟩ := (show ObjOk X.prog X.w H s.heap a (.frz ob (.lst xs)) from I.hok a _ ea)
    exact PySem.W.kia_one PySem.W.kitx_list I.kIn ⟨_, h1, rfl⟩ e (fun z => nomatch z) h
  | @tup a xs ea =>
    cases (show u = Value.ref a from rx)
    obtain ⟨_, _, _, p⟩ := (show ObjOk X.prog X.w H s.heap a (.tup xs) from I.hok a _ ea)
    obtain ⟨o, h1, h2, _⟩ := p
    exact PySem.W.kia_one PySem.W.kitx_tuple I.kIn ⟨o, h1, h2⟩ e (fun z => nomatch z) h
  | @dK a kvs ea =>
    cases (show u = Value.ref a from rx)
    obtain ⟨_, _, vs, _, p⟩ := (show ObjOk X.prog X.w H s.heap a (.dK kvs) from I.hok a _ ea)
    obtain ⟨o, es, ep, h1, h2, _⟩ := p
    exact PySem.W.kia_one PySem.W.kitx_dict I.kIn ⟨o, h1, h2.1⟩ e (fun z => nomatch z) h
  | @dT a kvs ea =>
    cases (show u = Value.ref a from rx)
    obtain ⟨_, _, xs, _, o, es, ep, h1, h2, _⟩ := (show ObjOk X.prog X.w H s.heap a (.dT kvs) from I.hok a _ ea)
    exact PySem.W.kia_one PySem.W.kitx_dict I.kIn ⟨o, h1, h2.1⟩ e (fun z => nomatch z) h
  | @ins a C dx fs ea cl ha hn htk hm =>
    cases (show u = Value.ref a from rx)
    obtain ⟨mA, O, _⟩ := ins_get I.hok ea
    obtain ⟨od, J, _⟩ := O.look
    exact PySem.W.kia_one (PySem.W.kitx_own (cl.get _) cl.hd ha hn htk hm) I.kIn J e (fun z => nomatch z) h
end
end L2

namespace L2
open PySem PySem.Spec PyProof.Rows

/-! ### room -/
structure Room (k : Nat) (A : Around) : Prop where
  hd : A.handled = none
  dp : A.depth + 3 * k + 5 < recursionLimit
  un : A.units + 16 * k + 200 < cLine
theorem Room.mono {j k : Nat} {A : Around} (r : Room k A) (h : j ≤ k) : Room j A := ⟨r.hd, by have := r.dp; omega, by have := r.un; omega⟩
theorem Room.deeper {k : Nat} {A : Around} (r : Room (k + 1) A) (env : Env) : Room k (A.deeper env) :=
  ⟨r.hd, by have := r.dp; show A.depth + 1 + 3 * k + 5 < _; omega, by have := r.un; show A.units + 3 + 16 * k + 200 < _; omega⟩
theorem Room.in1 {k : Nat} {A : Around} (r : Room (k + 1) A) : Room k A.in1 :=
  ⟨r.hd, by have := r.dp; show A.depth + 3 * k + 5 < _; omega, by have := r.un; show A.units + 1 + 16 * k + 200 < _; omega⟩
theorem Room.depth {k : Nat} {A : Around} (r : Room k A) : A.depth < recursionLimit := by have := r.dp; omega
theorem Room.units {k : Nat} {A : Around} (r : Room k A) : A.units + 64 < cLine := by have := r.un; omega
theorem Room.units0 {k : Nat} {A : Around} (r : Room k A) : A.units < cLine := by have := r.un; omega

/-! ### argument lists and displays -/
def tNil : TA := fun _ H Q => Q [] H
def tCons (ta : TE) (tr : TA) : TA := fun σ H Q => ta σ H fun x H1 => tr σ H1 fun xs H2 => Q (x :: xs) H2
section
variable {X : Cx} {e : Expr} {es : List Expr} {te : TE} {t : TA} {pos : Pos}
theorem pa_nil : PA X [] tNil := fun _ _ _ _ H Q I h => Calls.spliced_nil ⟨[], H, I, .nil, h⟩
theorem pa_cons (ha : PE X e te) (hr : PA X es t) (hs : starEach (e :: es) X.env = (false, eval e X.env) :: starEach es X.env := by rfl) : PA X (e :: es) (tCons te t) := by
  intro pos pins s σ H Q I h
  rw [hs]
  show wpAny _ _ (spliced ((false, eval e X.env) :: backTo pos (starEach es X.env))) _ _ s
  refine Calls.spliced_cons (thn (ha pins s σ H _ I h) fun u s1 ⟨x, H1, I1, r1, q1⟩ => ?_)
  exact thn (hr pos pins s1 σ H1 _ I1 q1) fun us s2 ⟨xs, H2, I2, r2, q2⟩ => ⟨x :: xs, H2, I2, .cons r1 r2, q2⟩

/-- a tuple, a list of written items -/
def tTup (t : TA) : TE := fun σ H Q => t σ H fun xs H1 => xs.length ≤ sizeLine ∧ ∀ p, H1 p = none → Q (.ref p) (upd H1 p (.tup xs))
def tLst (t : TA) : TE := fun σ H Q => t σ H fun xs H1 => xs.length ≤ sizeLine ∧ ∀ p, H1 p = none → Q (.ref p) (upd H1 p (.lst xs))
theorem pe_tup {x1} (h : PA X es t) : PE X (.Tuple es x1 pos) (tTup t) := by
  intro pins s σ H Q I hq
  refine wpAny_Tuple_spliced (thn (h pos pins s σ H _ I hq) fun us s1 ⟨xs, H1, I1, r, z, q⟩ => ⟨by rw [← r.length]; exact z, ?_⟩)
  have hf : H1 s1.heap.objs.size = none := I1.hok.fresh (Nat.le_refl _)
  refine ⟨.ref s1.heap.objs.size, upd H1 s1.heap.objs.size (.tup xs), I1.laid (t' := s1.toks) (fun b u e => Heap.get?_push_of_some _ e) (Nat.le_refl _) ?_, rfl, q _ hf⟩
  exact ⟨z, us, r, ⟨_, Heap.get?_push_size _ rfl, rfl, _, rfl⟩⟩
theorem pe_lst (h : PA X es t) : PE X (.List es pos) (tLst t) := by
  intro pins s σ H Q I hq
  refine wpAny_List_spliced (thn (h pos pins s σ H _ I hq) fun us s1 ⟨xs, H1, I1, r, z, q⟩ => ⟨by rw [← r.length]; exact z, ?_⟩)
  have hf : H1 s1.heap.objs.size = none := I1.hok.fresh (Nat.le_refl _)
  refine ⟨.ref s1.heap.objs.size, upd H1 s1.heap.objs.size (.lst xs), I1.laid (t' := s1.toks) (fun b u e => Heap.get?_push_of_some _ e) (Nat.le_refl _) ?_, rfl, q _ hf⟩
  exact ⟨z, us, 0, r, Heap.get?_push_size _ rfl⟩
end

/-! ### what a def promises -/
/-- a def's promise: the bound arguments in the parameters' order, the heap, the wanted end, the wanted exception -/
abbrev Sp := List V → Hp → VK → XK → Prop
/-- how an exception lies behind a call (file 08 gives it): the callers' frames, abstract heap and state ahead of the call, the wish, the exception, the state -/
abbrev CXT := List Env → Hp → Shared → XK → Value → Shared → Prop

/-- the state at a call -/
structure Env0 (P : Program) (w : World) (K : PySem.W.Frag) (mg : Str → Option Value) (base : Heap) (A : Around) (outer : List Env) (s : Shared) (H : Hp) : Prop where
  frames : A.frames = some outer
  mod : Mod K mg base
  bs : ∀ b o, base.get? b = some o → s.heap.get? b = some o ∧ H b = none
  bsz : base.objs.size ≤ s.heap.objs.size
  funs : s.heap.FunFrames base outer
  frf : ∀ b ∈ frs outer, H b = none
  hok : HOk P w H s.heap
  bare : AllBare s.gens
/-- a call's end -/
def CE (outer : List Env) (P : Program) (w : World) (H : Hp) (s : Shared) (Q : VK) (u : Value) (s' : Shared) : Prop :=
  ∃ v H', s'.os = s.os ∧ AllBare s'.gens ∧ Un (frs outer) [] H H' s.heap s'.heap ∧ HOk P w H' s'.heap ∧ RelV v u ∧ Q v H'
def CR (CX : CXT) (outer : List Env) (P : Program) (w : World) (H : Hp) (s : Shared) (Q : VK) (E : XK) (r : Result) (s' : Shared) : Prop :=
  match r with
  | .ok (.ret u) => CE outer P w H s Q u s'
  | .ok _ => False
  | .error e => CX outer H s E e s'
structure FnOk (P : Program) (w : World) (K : PySem.W.Frag) (mg : Str → Option Value) (base : Heap) (CX : CXT) (k : Nat) (f : Addr) (fd : FuncData) (ps : List Str) (sp : Sp) : Prop where
  len : ∀ vs H Q E, sp vs H Q E → vs.length = ps.length
  run : ∀ (A : Around) (outer : List Env) (s : Shared) (H : Hp) (args : Args) (us : List Value) (vs : List V) (Q : VK) (E : XK), Room k A → Env0 P w K mg base A outer s H → BindsTo s fd args (ps.zip us) → Vals vs us → sp vs H Q E →
    codeAny (model P w) A (.call (.ref f) args) (CR CX outer P w H s Q E) s
theorem FnOk.mono {P : Program} {w : World} {K : PySem.W.Frag} {mg : Str → Option Value} {base : Heap} {CX : CXT} {j k : Nat} {f : Addr} {fd : FuncData} {ps : List Str} {sp : Sp} (F : FnOk P w K mg base CX j f fd ps sp) (h : j ≤ k) :
    FnOk P w K mg base CX k f fd ps sp := ⟨F.len, fun A outer s H args us vs Q E hr => F.run A outer s H args us vs Q E (hr.mono h)⟩
theorem Env0.in1 {P : Program} {w : World} {K : PySem.W.Frag} {mg : Str → Option Value} {base : Heap} {A : Around} {outer : List Env} {s : Shared} {H : Hp} (e : Env0 P w K mg base A outer s H) :
    Env0 P w K mg base A.in1 outer s H := ⟨e.frames, e.mod, e.bs, e.bsz, e.funs, e.frf, e.hok, e.bare⟩

section
variable {X : Cx} {pins : List (Addr × Obj)} {σ : St} {H : Hp} {s s' : Shared}
/-- from a body: what a callee wants -/
theorem Inv.env0 (I : Inv X pins σ H s) : Env0 X.prog X.w X.K X.mg X.base X.A X.stack s H :=
  ⟨I.ok.frames, I.ok.mod, I.bs, Nat.le_trans I.ok.bsz I.sz, I.stack, I.stkFree, I.hok, I.bare⟩
/-- behind a call -/
theorem Inv.after {Q : VK} {u : Value} (I : Inv X pins σ H s) (h : CE X.stack X.prog X.w H s Q u s') : EP X pins σ Q u s' := by
  obtain ⟨v, H', os, bare, un, hok, r, q⟩ := h
  obtain ⟨hh, g, d, t, os'⟩ := s'
  obtain rfl : os' = s.os := os
  exact ⟨v, H', I.call (h' := hh) (g' := g) (d' := d) (t' := t) (ch := []) un hok bare (fun b z => absurd z (by simp)), r, q⟩
end

/-! ### calls -/
/-- f(..): the written arguments, then the defaults dvs; E: what is wanted of an exception -/
def tCall (sp : Sp) (dvs : List V) (E : XK) (t : TA) : TE := fun σ H Q => t σ H fun vs H1 => sp (vs ++ dvs) H1 Q E
/-- how the parameters are bound: us the positional arguments, kw the keywords' values by name, ds the defaults that fill up -/
def Binds (K : PySem.W.Frag) (fd : FuncData) (ps : List Str) (ds : List Value) : Prop :=
  ∀ (s : Shared) (us : List Value), K.In s.heap → (us ++ ds).length = ps.length → BindsTo s fd ⟨us, []⟩ (ps.zip (us ++ ds))
/-- every parameter is given -/
theorem Binds.all {K : PySem.W.Frag} {fd : FuncData} {ps : List Str} (h : ∀ us : List Value, us.length = ps.length → bindArgs fd ⟨us, []⟩ = pure (ps.zip us)) : Binds K fd ps [] := fun s us _ hl => by
  rw [List.append_nil] at hl ⊢
  exact .of_eq (h us hl)

/-- an exception of a callee reaches what this body wants of exceptions -/
def Passes (CX : CXT) (X : Cx) (E : XK) : Prop := ∀ (pins : List (Addr × Obj)) (σ : St) (H : Hp) (s : Shared) (e : Value) (s' : Shared), Inv X pins σ H s → CX X.stack H s E e s' → X.xe e s'

section
variable {X : Cx} {CX : CXT} {k : Nat} {f C : Addr} {fd : FuncData} {ps : List Str} {sp : Sp} {dvs : List V} {ds : List Value} {E : XK} {x m : Str} {p pos apos : Pos} {e o : Expr} {es : List Expr} {ta : TE} {t : TA}

/-- the callee runs -/
theorem run_fn {pins : List (Addr × Obj)} {σ : St} {H : Hp} {s : Shared} {Q : VK} {us : List Value} {vs : List V} (F : FnOk X.prog X.w X.K X.mg X.base CX k f fd ps sp) (hr : Room k X.A) (hb : Binds X.K fd ps ds) (hd : Vals dvs ds) (hx : Passes CX X E)
    (I : Inv X pins σ H s) (r : Vals vs us) (h : sp (vs ++ dvs) H Q E) : wpAny (model X.prog X.w) X.A (call (.ref f) us) (EP X pins σ Q) X.xe s := by
  have r2 : Vals (vs ++ dvs) (us ++ ds) := r.append hd
  have hl : (us ++ ds).length = ps.length := by rw [← r2.length]; exact F.len _ _ _ _ h
  refine wpAny_call (codeAny_mono (F.run X.A X.stack s H ⟨us, []⟩ (us ++ ds) (vs ++ dvs) Q E hr I.env0 (hb s us I.kIn hl) r2 h) fun r s' hq => ?_)
  cases r with
  | error e => exact hx pins σ H s e s' I hq
  | ok fl =>
    cases fl with
    | ret u => exact I.after hq
    | next => exact False.elim hq
    | brk => exact False.elim hq
    | cont => exact False.elim hq

theorem pe_call (F : FnOk X.prog X.w X.K X.mg X.base CX k f fd ps sp) (hr : Room k X.A) (hg : Gl X x) (hm : X.mg x = some (.ref f)) (hk : PySem.W.keepIn X.K (.ref f) = true) (hb : Binds X.K fd ps ds) (hd : Vals dvs ds) (hx : Passes CX X E)
    (ha : PA X (e :: es) t) (hdb : (x == ("__debug__" : Str)) = false := by decide) (he : starEach (e :: es) X.env = (false, eval e X.env) :: starEach es X.env := by rfl) (hpl : (backTo pos (starEach es X.env)).any (·.1) = false := by rfl) :
    PE X (.Call (.Name x p) (e :: es) [] pos) (tCall sp dvs E t) := by
  intro pins s σ H Q I h
  refine wpAny_Call_Name_kw (ld_glob I hg hm ?_ hdb)
  refine PySem.W.callWith_K (h₀ := X.base) I.ok.mod.kin hk (thn (ha pos pins s σ H _ I h) fun us s1 ⟨vs, H1, I1, r, q⟩ => ⟨I1.kIn, ?_⟩) he hpl
  exact run_fn F hr hb hd hx I1 r q
end

/-! ### keywords -/
section
variable {X : Cx} {CX : CXT} {k : Nat} {f C : Addr} {fd : FuncData} {ps ks : List Str} {sp : Sp} {E : XK} {x m : Str} {p pos apos kpos : Pos} {e o : Expr} {es : List Expr} {kws : List Keyword} {te ta : TE} {t tk : TA} {nm : Option Str}
variable {g : List Value → List Value → List Value} {gV : List V → List V → List V}
end

/-! ### a def's body keeps its promise -/
/-- names: the parameters first -/
structure FnScope (N P : List Str) (sc : Scope) : Prop where
  kind : sc.kind = .function
  co : sc.isCoroutine = false
  gen : sc.isGenerator = false
  nd : N.Nodup
  pre : N.take P.length = P
  par : ∀ x ∈ P, sc.names.lookup x = some .local ∨ sc.names.lookup x = some .cell
  nofree : ∀ y ∈ sc.names, y.2 ≠ .free

theorem bindL_out {kindOf : Str → Option NameKind} {x : Str} : ∀ {binds : List (Str × Value)} {m : Str → Option Value}, (∀ v, (x, v) ∉ binds) → bindL kindOf binds m x = m x
  | [], _, _ => rfl
  | (n, v) :: r, m, h => by
    unfold bindL
    rw [bindL_out fun w hw => h w (List.mem_cons_of_mem _ hw)]
    split
    · have : x ≠ n := by rintro rfl; exact h v List.mem_cons_self
      simp [this]
    · rfl
theorem bindC_out {kindOf : Str → Option NameKind} {x : Str} : ∀ {binds : List (Str × Value)} {m : Str → Option Value}, (∀ v, (x, v) ∉ binds) → bindC kindOf binds m x = m x
  | [], _, _ => rfl
  | (n, v) :: r, m, h => by
    unfold bindC
    rw [bindC_out fun w hw => h w (List.mem_cons_of_mem _ hw)]
    split
    · rfl
    · have : x ≠ n := by rintro rfl; exact h v List.mem_cons_self
      simp [this]
theorem bindL_get {kindOf : Str → Option NameKind} {x : Str} {v : Value} : ∀ {P : List Str} {vs : List Value} {i : Nat} {m : Str → Option Value}, P.Nodup → P[i]? = some x → vs[i]? = some v → kindOf x = some .local →
    bindL kindOf (P.zip vs) m x = some v
  | [], _, _, _, _, h, _, _ => by simp at h
  | _ :: _, [], _, _, _, _, h, _ => by simp at h
  | p :: P, w :: vs, 0, m, nd, h1, h2, hk => by
    simp at h1 h2; subst h1; subst h2
    show bindL kindOf ((p, w) :: P.zip vs) m p = _
    unfold bindL
    rw [bindL_out fun v hv => (List.nodup_cons.mp nd).1 (List.of_mem_zip hv).1, if_pos hk]
    simp
  | p :: P, w :: vs, i + 1, m, nd, h1, h2, hk => by
    show bindL kindOf ((p, w) :: P.zip vs) m x = _
    unfold bindL
    exact bindL_get (i := i) (List.nodup_cons.mp nd).2 (by simpa using h1) (by simpa using h2) hk
theorem bindC_get {kindOf : Str → Option NameKind} {x : Str} {v : Value} : ∀ {P : List Str} {vs : List Value} {i : Nat} {m : Str → Option Value}, P.Nodup → P[i]? = some x → vs[i]? = some v → kindOf x ≠ some .local →
    bindC kindOf (P.zip vs) m x = some v
  | [], _, _, _, _, h, _, _ => by simp at h
  | _ :: _, [], _, _, _, _, h, _ => by simp at h
  | p :: P, w :: vs, 0, m, nd, h1, h2, hk => by
    simp at h1 h2; subst h1; subst h2
    show bindC kindOf ((p, w) :: P.zip vs) m p = _
    unfold bindC
    rw [bindC_out fun v hv => (List.nodup_cons.mp nd).1 (List.of_mem_zip hv).1, if_neg hk]
    simp
  | p :: P, w :: vs, i + 1, m, nd, h1, h2, hk => by
    show bindC kindOf ((p, w) :: P.zip vs) m x = _
    unfold bindC
    exact bindC_get (i := i) (List.nodup_cons.mp nd).2 (by simpa using h1) (by simpa using h2) hk

/-- the names' values at the entry -/
def start (N : List Str) (vs : List V) : St := vs.map some ++ List.replicate (N.length - vs.length) none

/-- the context of a def's body, at its entry; an exception leaves the frame, then lies as CX says -/
def cxOf (CX : CXT) (P : Program) (w : World) (K : PySem.W.Frag) (mg : Str → Option Value) (base : Heap) (N : List Str) (qual : Str) (scope : Scope) (f : Addr) (cd : Value) (A : Around) (outer : List Env) (s : Shared) (H : Hp) (E : XK) : Cx where
  prog := P
  w := w
  K := K
  mg := mg
  base := base
  A := A.deeper (envOfC qual scope s.heap.objs.size f cd)
  N := N
  s₀ := s
  H₀ := H
  env := envOfC qual scope s.heap.objs.size f cd
  outer := outer
  stack := envOfC qual scope s.heap.objs.size f cd :: outer
  ex := []
  calm := true
  fn := fun _ => true
  pn := []
  xe := fun e s' => wpAny (model P w) (A.deeper (envOfC qual scope s.heap.objs.size f cd)) (leaving (envOfC qual scope s.heap.objs.size f cd) e) (fun _ s'' => CX outer H s E e s'') (fun e' s'' => CX outer H s E e' s'') s'

theorem cell_has {sc : Scope} {n : Nat} {x : Str} (h : sc.names.lookup x = some .cell) : ∃ c, (cellsFrom n sc.names []).lookup x = some c := by
  have q := PySem.W.cellsFrom_some sc.names n [] (.inl h)
  exact Option.isSome_iff_exists.mp q

theorem inv_start {CX : CXT} {P : Program} {w : World} {K : PySem.W.Frag} {mg : Str → Option Value} {base : Heap} {N ps : List Str} {qual : Str} {scope : Scope} {f : Addr} {cd : Value} {A : Around} {outer : List Env} {s s1 : Shared} {H : Hp} {E : XK} {us : List Value} {vs : List V}
    (S : FnScope N ps scope) (hd : A.handled = none) (e0 : Env0 P w K mg base A outer s H) (hl : vs.length = ps.length) (r : Vals vs us)
    (x : InCallC s s.heap.objs.size (bindL (envOfC qual scope s.heap.objs.size f cd).kindOf (ps.zip us) fun _ => none) (cellsFrom (s.heap.objs.size + 1) scope.names []) (bindC (envOfC qual scope s.heap.objs.size f cd).kindOf (ps.zip us) fun _ => none) s1) :
    Inv (cxOf CX P w K mg base N qual scope f cd A outer s H E) [] (start N vs) H s1 := by
  have hpl : ps.length ≤ N.length := by have := congrArg List.length S.pre; rw [List.length_take] at this; omega
  obtain ⟨h1, tk, rfl, hk⟩ := x.done
  have noA : ∀ b : Addr, b ∉ (cxOf CX P w K mg base N qual scope f cd A outer s H E).ex := fun b z => absurd (show b ∈ ([] : List Addr) from z) (by simp)
  refine ⟨⟨e0.mod, S.kind, rfl, rfl, Nat.le_refl _, fun y z c h1 h2 => ?_, fun y hy => ?_, fun y c _ h => ?_, fun _ => hd, Around.frames_deeper e0.frames, .inr ⟨rfl, rfl⟩, fun b z => absurd z (noA b), e0.bs, e0.bsz, fun b _ _ => noA b, fun b z => absurd z (noA b), e0.funs, e0.frf⟩,
    rfl, e0.bare, Un.kept hk, ⟨_, x.toInCall.ns, fun i y v h1 h2 h3 => ?_⟩, fun y c h => ⟨_, x.cell y c h⟩, e0.hok.fresh (Nat.le_refl _), fun y c h => ?_, fun p hp => absurd (show p ∈ ([] : List (Addr × Obj)) from hp) (by simp), e0.hok.kept hk, ?_⟩
  · exact name_of_addr x.apart (PySem.mem_of_lookup h1) (PySem.mem_of_lookup h2)
  · have hy : scope.names.lookup y = some .cell ∨ scope.names.lookup y = some .free := hy
    rcases hy with hy | hy
    · exact cell_has hy
    · exact absurd rfl (S.nofree _ (PySem.mem_of_lookup hy))
  · exact Nat.le_of_lt (x.above y c (PySem.mem_of_lookup h))
  · have hi : i < vs.length := by
      unfold start at h2
      by_cases hi : i < vs.length
      · exact hi
      · rw [List.getElem?_append_right (by simpa using hi)] at h2
        rw [List.getElem?_replicate] at h2
        split at h2 <;> cases h2
    have ha : vs[i]? = some v := by
      unfold start at h2
      rw [List.getElem?_append_left (by simpa using hi), List.getElem?_map] at h2
      cases e : vs[i]? with
      | none => rw [e] at h2; cases h2
      | some a => rw [e] at h2; cases h2; rfl
    obtain ⟨u, hu, rv⟩ := r.get ha
    have hp : ps[i]? = some y := by
      rw [← S.pre, List.getElem?_take_of_lt (by omega)]; exact h1
    have ndP : ps.Nodup := by rw [← S.pre]; exact S.nd.sublist (List.take_sublist _ _)
    refine ⟨u, rv, ?_⟩
    rcases S.par y (List.mem_of_getElem? hp) with k | k
    · exact .inl ⟨k, bindL_get ndP hp hu k⟩
    · obtain ⟨c, e⟩ := cell_has (n := s.heap.objs.size + 1) k
      refine .inr ⟨.inl k, c, e, ?_⟩
      have q := x.cell y c e
      rw [bindC_get ndP hp hu (by show scope.names.lookup y ≠ _; rw [k]; decide)] at q
      exact q
  · exact e0.hok.fresh (Nat.le_of_lt (x.above y c (PySem.mem_of_lookup h)))
  · unfold start
    show _ = N.length
    rw [List.length_append, List.length_map, List.length_replicate]
    omega

/-- THE RULE: a def (or a method) of the text, by its body. The body's reading t is chosen for each entry; it is run at the parameters' values -/
theorem fn_of {CX : CXT} {P : Program} {w : World} {K : PySem.W.Frag} {mg : Str → Option Value} {base : Heap} {k : Nat} {f : Addr} {name qual : Str} {params : Arguments} {body : List Stmt} {scope : Scope} {dV kV doc pm cdv ct oc : Value} {an od : Option Addr}
    {osl : Array (Option Value)} {N ps : List Str} {sp : Sp} (lk : K.lookup f = some ⟨oc, od, .func (PySem.W.fnOf name qual params body scope dV kV doc pm an cdv ct), osl⟩) (hcd : PySem.W.codeIn K cdv qual = true) (S : FnScope N ps scope)
    (len : ∀ vs H Q E, sp vs H Q E → vs.length = ps.length)
    (hbody : ∀ (A : Around) (outer : List Env) (s : Shared) (H : Hp) (vs : List V) (Q : VK) (E : XK), Room k (A.deeper (envOfC qual scope s.heap.objs.size f cdv)) → sp vs H Q E →
      ∃ t, PSs (cxOf CX P w K mg base N qual scope f cdv A outer s H E) body t ∧ t { nx := fun _ H' => Q .non H', rt := Q } (start N vs) H) :
    FnOk P w K mg base CX (k + 1) f (PySem.W.fnOf name qual params body scope dV kV doc pm an cdv ct) ps sp := by
  refine ⟨len, fun A outer s H args us vs Q E hr e0 hb r hsp => ?_⟩
  have hl := len _ _ _ _ hsp
  have KX : K.In s.heap := e0.mod.kin.keeps fun b o e => (e0.bs b o e).1
  have lim : s.heap.NoLimit := e0.mod.nolimit.keeps fun b o e => (e0.bs b o e).1
  have hkind : ∀ y ∈ ps.zip us, scope.names.lookup y.1 = some .local ∨ (scope.names.lookup y.1 = some .cell ∧ ((cellsFrom (s.heap.objs.size + 1) scope.names []).lookup y.1).isSome = true) := fun ⟨n, v⟩ hy => by
    rcases S.par n (List.of_mem_zip hy).1 with q | q
    · exact .inl q
    · exact .inr ⟨q, PySem.W.cellsFrom_some _ _ _ (.inl q)⟩
  refine codeAny_call_function hr.depth (KX _ _ lk) rfl S.co S.gen rfl (PySem.W.codeRec_of KX hcd) (hb _ _ _ _ ?_)
  refine wpAny_newFunctionEnv_cells S.kind hkind fun env he s1 x => ?_
  subst he
  refine ⟨lim.keeps x.toInCall.keep, codeAny_func ?_⟩
  obtain ⟨t, ht, hq⟩ := hbody A outer s H vs Q E (hr.deeper _) hsp
  have I : Inv (cxOf CX P w K mg base N qual scope f cdv A outer s H E) [] (start N vs) H s1 := inv_start S hr.hd e0 hl r x
  refine wpAny_mono (ht [] s1 (start N vs) H _ I hq) (fun fl s' hs => ?_) fun e s' hs => hs
  have fin : ∀ {σ' : St} {H' : Hp} {v : V} {u : Value}, Inv (cxOf CX P w K mg base N qual scope f cdv A outer s H E) [] σ' H' s' → RelV v u → Q v H' → CE outer P w H s Q u s' :=
    fun {σ' H' v u} J rv q => ⟨v, H', J.os, J.bare, J.base, J.hok, rv, q⟩
  cases fl with
  | ret u =>
    obtain ⟨v, σ', H', J, rv, q⟩ := hs
    exact fin J rv q
  | next =>
    obtain ⟨σ', H', J, q⟩ := hs
    exact fin (v := V.non) (u := Value.none) J rfl q
  | brk =>
    obtain ⟨_, _, _, q⟩ := hs
    exact False.elim q
  | cont =>
    obtain ⟨_, _, _, q⟩ := hs
    exact False.elim q
end L2

namespace L2
open PySem PySem.Spec PyProof.Rows
section
variable {X : Cx} {x : Str} {p pos : Pos} {e : Expr} {es : List Expr} {t : TA} {id T : String} {r : List V → Hp → VK → Prop}

def tCB (r : List V → Hp → VK → Prop) (t : TA) : TE := fun σ H Q => t σ H fun vs H1 => r vs H1 Q
/-- f(e, ..), f a built-in function -/
theorem pe_callB (hc : CallR X (.builtin id) r) (hg : Gl X x) (hm : X.mg x = none) (hv : bootBuiltins x = some (.builtin id)) (ha : PA X (e :: es) t) (hn : x ≠ "__name__" := by decide) (hdb : (x == ("__debug__" : Str)) = false := by decide)
    (he : starEach (e :: es) X.env = (false, eval e X.env) :: starEach es X.env := by rfl) (hpl : (backTo pos (starEach es X.env)).any (·.1) = false := by rfl) : PE X (.Call (.Name x p) (e :: es) [] pos) (tCB r t) := by
  intro pins s σ H Q I h
  refine wpAny_Call_Name_kw (ld_blt I hg hm hv ?_ hn hdb)
  exact PyProof.Rows.callWith_builtin1 (thn (ha pos pins s σ H _ I h) fun us s1 ⟨vs, H1, I1, r1, q1⟩ => hc pins s1 σ H1 vs us Q I1 r1 q1) he hpl
/-- T(e, ..), T a built-in type -/
theorem pe_callTy (hc : CallR X (.type T) r) (hg : Gl X x) (hm : X.mg x = none) (hv : bootBuiltins x = some (.type T)) (ha : PA X (e :: es) t) (hn : x ≠ "__name__" := by decide) (hdb : (x == ("__debug__" : Str)) = false := by decide)
    (he : starEach (e :: es) X.env = (false, eval e X.env) :: starEach es X.env := by rfl) (hpl : (backTo pos (starEach es X.env)).any (·.1) = false := by rfl) : PE X (.Call (.Name x p) (e :: es) [] pos) (tCB r t) := by
  intro pins s σ H Q I h
  refine wpAny_Call_Name_kw (ld_blt I hg hm hv ?_ hn hdb)
  exact PyProof.Rows.callWith_type1 (thn (ha pos pins s σ H _ I h) fun us s1 ⟨vs, H1, I1, r1, q1⟩ => hc pins s1 σ H1 vs us Q I1 r1 q1) he hpl
end
end L2

namespace HT
open PySem PyProof.Rows

/-- t < u of tuples of ints -/
def lexLt : List Int → List Int → Bool
  | [], [] => false
  | [], _ :: _ => true
  | _ :: _, [] => false
  | x :: xs, y :: ys => if x = y then lexLt xs ys else decide (x < y)
section
open PySem.SeqAt
open PySem.AutoSeq1 (wpAny_loadPart')
open PySem.MeetsSeq PySem.MeetsSeq2 PySem.MeetsSeq3

end

section
variable {prog : Program} {w : World} {A : Around} {E : Value → Shared → Prop} {s : Shared}

/-! ### t[a:b], not the whole -/
/-- a slice's bound as a place among n (d where it is left out) -/
def sIx (n d : Nat) : Option Int → Nat
  | none => d
  | some v => if v < 0 then (v + (n : Int)).toNat else min v.toNat n
end
end HT

namespace L2
open PySem PySem.Spec PyProof.Rows

/-! ### the parts of a slice -/
abbrev TO := St → Hp → (Option Int → Hp → Prop) → Prop
/-- a slice's part (left out, or an int) -/
def PO (X : Cx) (e : Option Expr) (t : TO) : Prop :=
  ∀ (pins : List (Addr × Obj)) (s : Shared) (σ : St) (H : Hp) (Q : Option Int → Hp → Prop), Inv X pins σ H s → t σ H Q →
    wpAny (model X.prog X.w) X.A (evalPart e X.env) (fun u s' => ∃ o H', Inv X pins σ H' s' ∧ IsPart u o ∧ Q o H') X.xe s
def tNoPart : TO := fun _ H Q => Q none H
def tPart (t : TE) : TO := fun σ H Q => t σ H fun x H1 => ∃ i, x = .int i ∧ Q (some i) H1

section
variable {X : Cx} {e : Expr} {te : TE} {lo hi : Option Expr} {tl th : TO} {pos p2 : Pos}

theorem po_none : PO X none tNoPart := by
  intro pins s σ H Q I h
  rw [evalPart_none]
  exact wpAny_pure ⟨none, H, I, .none, h⟩
theorem po_some (h : PE X e te) : PO X (some e) (tPart te) := by
  intro pins s σ H Q I hw
  rw [evalPart_some]
  refine thn (h pins s σ H _ I hw) fun u s1 ⟨x, H1, I1, r1, q1⟩ => ?_
  obtain ⟨i, rfl, q⟩ := q1
  obtain ⟨t, rfl⟩ := r1
  exact ⟨some i, H1, I1, .int i t, q⟩

/-- what a slice of a value is, by values: the slice object stands at sl -/
def SlR (X : Cx) (r : V → Option Int → Option Int → Hp → VK → Prop) : Prop :=
  ∀ (pins : List (Addr × Obj)) (s : Shared) (σ : St) (H : Hp) (x : V) (v vl vu : Value) (lo hi : Option Int) (sl : Addr) (Q : VK), Inv X pins σ H s → RelV x v → s.heap.IsSliceOf sl vl vu .none → IsPart vl lo → IsPart vu hi → r x lo hi H Q →
    ∃ T id, typeLookup (.type T) "__getitem__" = pure (some (.builtin id)) ∧ s.TypeIs v T ∧ wpAny (model X.prog X.w) X.A (getItem v (.ref sl)) (EP X pins σ Q) X.xe s
theorem SlR.or {r r' : V → Option Int → Option Int → Hp → VK → Prop} (h : SlR X r) (h' : SlR X r') : SlR X (fun x lo hi H Q => r x lo hi H Q ∨ r' x lo hi H Q) := by
  intro pins s σ H x v vl vu lo hi sl Q I rx hs pl pu q
  rcases q with q | q
  · exact h pins s σ H x v vl vu lo hi sl Q I rx hs pl pu q
  · exact h' pins s σ H x v vl vu lo hi sl Q I rx hs pl pu q
def tSl (r : V → Option Int → Option Int → Hp → VK → Prop) (te : TE) (tl th : TO) : TE := fun σ H Q => te σ H fun x H1 => tl σ H1 fun l H2 => th σ H2 fun u H3 => r x l u H3 Q
/-- a[lo:hi], any a -/
theorem pe_slice {r : V → Option Int → Option Int → Hp → VK → Prop} (hr : SlR X r) (he : PE X e te) (hl : PO X lo tl) (hu : PO X hi th) : PE X (.Subscript e (.Slice lo hi none p2) pos) (tSl r te tl th) := by
  intro pins s σ H Q I h
  refine Subscript_ (thn (he pins s σ H _ I h) fun v s1 ⟨x, H1, I1, r1, q1⟩ => ?_)
  refine wpAny_Slice (thn (hl pins s1 σ H1 _ I1 q1) fun vl s2 ⟨l, H2, I2, pl, q2⟩ => thn (hu pins s2 σ H2 _ I2 q2) fun vu s3 ⟨u, H3, I3, pu, q3⟩ => ?_)
  rw [evalPart_none]
  refine wpAny_pure ?_
  have I4 : Inv X pins σ H3 { s3 with heap := s3.heap.push { cls := .type "slice", data := .fields #[vl, vu, .none] } } := I3.kept (t' := s3.toks) fun b ob q => Heap.get?_push_of_some _ q
  obtain ⟨T, id, hT, ht, hg⟩ := hr pins { s3 with heap := s3.heap.push { cls := .type "slice", data := .fields #[vl, vu, .none] } } σ H3 x v vl vu l u s3.heap.objs.size Q I4 r1 (Heap.IsSliceOf.new ..) pl pu q3
  show wpAny (model X.prog X.w) X.A (subscriptTail e (.Slice lo hi none p2) v (.ref s3.heap.objs.size)) (EP X pins σ Q) X.xe { s3 with heap := s3.heap.push { cls := .type "slice", data := .fields #[vl, vu, .none] } }
  exact tail_any (ops := [.ref s3.heap.objs.size, v]) ht hT hg (by with_unfolding_all rfl)

/-- the items of xs[lo:hi] -/
def cutV (xs : List V) (lo hi : Option Int) : List V := (xs.drop (HT.sIx xs.length 0 lo)).take (HT.sIx xs.length xs.length hi - HT.sIx xs.length 0 lo)
theorem cutV_length (xs : List V) (lo hi : Option Int) : (cutV xs lo hi).length ≤ xs.length := by
  unfold cutV
  rw [List.length_take, List.length_drop]
  omega
/-! ### t < u, t + u -/
end
end L2

namespace L2
open PySem PySem.Spec PyProof.Rows

/-! ### places -/
/-- the place that an index of any sign means -/
def ixN (n : Nat) (i : Int) : Option Nat := if 0 ≤ i then (if i < n then some i.toNat else none) else if -(n : Int) ≤ i then some (i + n).toNat else none
def atI {α : Type} (xs : List α) (i : Int) : Option α := (ixN xs.length i).bind fun j => xs[j]?
theorem ixN_seq {n : Nat} {i : Int} {j : Nat} (h : ixN n i = some j) : seqIndex? i n = some j ∧ j < n ∧ -(n : Int) ≤ i ∧ i < n := by
  unfold ixN at h
  by_cases h0 : 0 ≤ i
  · rw [if_pos h0] at h
    by_cases h1 : i < n
    · rw [if_pos h1] at h
      have e : i.toNat = j := Option.some.inj h
      exact ⟨by rw [seqIndex_of h0 h1, e], by omega, by omega, h1⟩
    · rw [if_neg h1] at h; cases h
  · rw [if_neg h0] at h
    by_cases h1 : -(n : Int) ≤ i
    · rw [if_pos h1] at h
      have e : (i + n).toNat = j := Option.some.inj h
      exact ⟨by rw [seqIndex_neg (by omega) h1, e], by omega, h1, by omega⟩
    · rw [if_neg h1] at h; cases h
theorem atI_get {α : Type} {xs : List α} {i : Int} {v : α} (h : atI xs i = some v) : ∃ j, seqIndex? i xs.length = some j ∧ xs[j]? = some v ∧ j < xs.length ∧ -(xs.length : Int) ≤ i ∧ i < xs.length := by
  unfold atI at h
  cases e : ixN xs.length i with
  | none => rw [e] at h; cases h
  | some j =>
    rw [e] at h
    obtain ⟨h1, h2, h3, h4⟩ := ixN_seq e
    exact ⟨j, h1, h, h2, h3, h4⟩
theorem atI_nat {α : Type} {xs : List α} {j : Nat} {v : α} (h : xs[j]? = some v) : atI xs (j : Int) = some v := by
  have hj : j < xs.length := (List.getElem?_eq_some_iff.mp h).1
  have e : ixN xs.length (j : Int) = some j := by
    unfold ixN
    rw [if_pos (by omega), if_pos (by omega)]; simp
  unfold atI; rw [e]; exact h
/-! ### what may be subscripted -/
/-- what stands as an index of a plain subscript -/
def PlainIx (b : Expr) : Prop := ∀ o i, subscripted b false o i = operate [o, i] (getItem o i)
/-- a subscript by values -/
def IxR (X : Cx) (r : R2) : Prop :=
  ∀ (value slice : Expr) (pins : List (Addr × Obj)) (s : Shared) (σ : St) (H : Hp) (x y : V) (v u : Value) (Q : VK), Inv X pins σ H s → RelV x v → RelV y u → r x y H Q →
    subscripted slice false v u = operate [v, u] (getItem v u) → wpAny (model X.prog X.w) X.A (subscriptTail value slice v u) (EP X pins σ Q) X.xe s
/-- a call of a builtin's method by values: the receiver, the arguments -/
def MtR (X : Cx) (id : String) (r : V → List V → Hp → VK → Prop) : Prop :=
  ∀ (pins : List (Addr × Obj)) (s : Shared) (σ : St) (H : Hp) (x : V) (xs : List V) (v : Value) (us : List Value) (Q : VK), Inv X pins σ H s → RelV x v → Vals xs us → r x xs H Q →
    wpAny (model X.prog X.w) X.A (call (.builtin id) (v :: us)) (EP X pins σ Q) X.xe s
section
variable {X : Cx} {a b : Expr} {ta tb : TE} {pos : Pos}
theorem IxR.or {r r' : R2} (h : IxR X r) (h' : IxR X r') : IxR X (fun x y H Q => r x y H Q ∨ r' x y H Q) := by
  intro value slice pins s σ H x y v u Q I rx ry q hs
  rcases q with q | q
  · exact h value slice pins s σ H x y v u Q I rx ry q hs
  · exact h' value slice pins s σ H x y v u Q I rx ry q hs
theorem MtR.or {id : String} {r r' : V → List V → Hp → VK → Prop} (h : MtR X id r) (h' : MtR X id r') : MtR X id (fun x xs H Q => r x xs H Q ∨ r' x xs H Q) := by
  intro pins s σ H x xs v us Q I rx rs q
  rcases q with q | q
  · exact h pins s σ H x xs v us Q I rx rs q
  · exact h' pins s σ H x xs v us Q I rx rs q
/-- a[b] -/
theorem pe_ix {r : R2} (hr : IxR X r) (ha : PE X a ta) (hb : PE X b tb) (hs : PlainIx b) : PE X (.Subscript a b pos) (tOp r ta tb) := by
  intro pins s σ H Q I h
  exact Subscript_ (binT ha hb I h fun v u s2 x y H2 I2 rx ry q => hr a b pins s2 σ H2 x y v u Q I2 rx ry q (hs _ _))

def rIxL (K : PySem.W.Frag) : R2 := fun x y H Q => ∃ p xs i v, x = .ref p ∧ y = .int i ∧ SqL K H p xs ∧ atI xs i = some v ∧ Q v H
def rIxT (K : PySem.W.Frag) : R2 := fun x y H Q => ∃ p xs i v, x = .ref p ∧ y = .int i ∧ SqT K H p xs ∧ atI xs i = some v ∧ Q v H
def rIxS : R2 := fun x y H Q => ∃ z i c, x = .str z ∧ y = .int i ∧ z.length ≤ sizeLine ∧ atI z.cps.toList i = some c ∧ Q (.str ⟨#[c]⟩) H
theorem ix_list : IxR X (rIxL X.K) := by
  intro value slice pins s σ H x y v u Q I rx ry h hs
  obtain ⟨p, xs, i, z, rfl, rfl, hq, he, q⟩ := h
  cases rx
  obtain ⟨t, rfl⟩ := ry
  obtain ⟨its, r, pl, hz⟩ := I.list hq
  obtain ⟨j, h1, h2, h3, h4, h5⟩ := atI_get he
  obtain ⟨w, ew, rw'⟩ := r.get h2
  have hl := r.length
  have hn := line63
  have fin : EP X pins σ Q w s := ⟨z, H, I, rw', q⟩
  by_cases h0 : 0 ≤ i
  · have hj : i.toNat = j := by
      rw [seqIndex_of h0 h5] at h1
      exact Option.some.inj h1
    exact item_listR pl.isList h0 (by omega) (by rw [hj]; simpa using ew) fin hs
  · have hj : (i + (its.toArray.size : Int)).toNat = j := by
      rw [seqIndex_neg (by omega) h4] at h1
      rw [List.size_toArray, ← hl]
      exact Option.some.inj h1
    exact subscriptTail_builtinR (x := w) pl.isList.typeIs slot_list_getitem.lookup
      (wpAny_getItem_list_neg (Q := fun r s' => r = w ∧ EP X pins σ Q r s') pl.isList (by omega) (by rw [List.size_toArray] <;> omega) (by omega) (by rw [hj]; simpa using ew) ⟨rfl, fin⟩) hs
theorem ix_tup : IxR X (rIxT X.K) := by
  intro value slice pins s σ H x y v u Q I rx ry h hs
  obtain ⟨p, xs, i, z, rfl, rfl, hq, he, q⟩ := h
  cases rx
  obtain ⟨t, rfl⟩ := ry
  obtain ⟨its, r, pl, hz⟩ := I.tuple hq
  obtain ⟨j, h1, h2, h3, h4, h5⟩ := atI_get he
  obtain ⟨w, ew, rw'⟩ := r.get h2
  have hl := r.length
  have hn := line63
  have fin : EP X pins σ Q w s := ⟨z, H, I, rw', q⟩
  exact subscriptTail_builtinR (x := w) pl.typeIs slot_tuple_getitem.lookup
    (getItem_tuple (j := j) (Q := fun r s' => r = w ∧ EP X pins σ Q r s') pl (by omega) (by omega) (by rw [List.size_toArray, ← hl]; exact h1) (by simpa using ew) ⟨rfl, fin⟩) hs
theorem ix_str : IxR X rIxS := by
  intro value slice pins s σ H x y v u Q I rx ry h hs
  obtain ⟨z, i, c, rfl, rfl, hz, he, q⟩ := h
  obtain ⟨t, rfl⟩ := rx
  obtain ⟨t', rfl⟩ := ry
  obtain ⟨j, h1, h2, h3, h4, h5⟩ := atI_get he
  have hl : z.cps.toList.length = z.length := by simp [Str.length]
  rw [hl] at h1 h4 h5
  have hn := line63
  exact tail_any (typeIs_str s z t) slot_str_getitem.lookup (getItem_str (c := c) (by
    have e1 : decide (i < -(2 ^ 63 : Int)) = false := decide_eq_false (by omega)
    have e2 : decide (i ≥ 2 ^ 63) = false := decide_eq_false (by omega)
    rw [e1, e2, Bool.or_false]) (by rw [h1]; simpa using h2) ⟨.str ⟨#[c]⟩, H, I.tok _, ⟨_, rfl⟩, q⟩) hs
/-! ### xs[i] = v, any sign -/
/-- the list's object behind a store -/
theorem mapSeq_set (its : List Value) (n j : Nat) (u : Value) : Obj.mapSeq (·.setIfInBounds j u) { cls := .type "list", data := .seq its.toArray n } = { cls := .type "list", data := .seq (its.set j u).toArray n } := by
  simp [Obj.mapSeq]
theorem Inv.lst {pins : List (Addr × Obj)} {σ : St} {H : Hp} {s : Shared} {p : Addr} {xs : List V} (I : Inv X pins σ H s) (h : H p = some (.lst xs)) :
    ∃ (its : List Value) (n : Nat), Vals xs its ∧ s.heap.get? p = some { cls := .type "list", data := .seq its.toArray n } ∧ xs.length ≤ sizeLine := by
  obtain ⟨z, its, n, r, e⟩ := I.hok p _ h
  exact ⟨its, n, r, e, z⟩
/-- the list at p is written by an update of its object -/
theorem Inv.lstUpd {pins : List (Addr × Obj)} {σ : St} {H : Hp} {s : Shared} {p : Addr} {xs ys : List V} {its its' : List Value} {n n' : Nat} {f : Obj → Obj} (I : Inv X pins σ H s) (h : H p = some (.lst xs))
    (ho : s.heap.get? p = some { cls := .type "list", data := .seq its.toArray n }) (hf : f { cls := .type "list", data := .seq its.toArray n } = { cls := .type "list", data := .seq its'.toArray n' }) (r : Vals ys its') (hz : ys.length ≤ sizeLine) (t : Nat) :
    Inv X pins σ (upd H p (.lst ys)) { s with heap := s.heap.update p f, toks := t } := by
  have e : (s.heap.update p f).get? p = some { cls := .type "list", data := .seq its'.toArray n' } := by
    rw [Heap.get?_update_self f ho (by rw [hf] <;> rfl), hf]
  refine I.write (x := p) (e := p) (by rw [h]; trivial) (.inl rfl) (fun b u hb q => (Heap.get?_update_other _ _ (Ne.symm hb)).trans q) ⟨_, e⟩ ?_
  exact ⟨hz, its', n', r, e⟩
def rSetL : V → V → V → Hp → (Hp → Prop) → Prop := fun o i v H Q => ∃ p xs k j, o = .ref p ∧ i = .int k ∧ H p = some (.lst xs) ∧ ixN xs.length k = some j ∧ Q (upd H p (.lst (xs.set j v)))
theorem set_list : PSet X rSetL := by
  intro pins s σ H o i v ov iv u Q I ro ri rv h
  obtain ⟨p, xs, k, j, rfl, rfl, hp, hj, q⟩ := h
  cases ro
  obtain ⟨t, rfl⟩ := ri
  obtain ⟨its, n, r, ho, hz⟩ := I.lst hp
  obtain ⟨h1, h2, h3, h4⟩ := ixN_seq hj
  have hl := r.length
  have hn := line63
  have I' : Inv X pins σ (upd H p (.lst (xs.set j v))) { s with heap := s.heap.update p (Obj.mapSeq (·.setIfInBounds j u)) } :=
    I.lstUpd hp ho (mapSeq_set its n j u) (r.set rv j) (by rw [List.length_set]; exact hz) s.toks
  by_cases h0 : 0 ≤ k
  · have hk : k.toNat = j := by
      rw [seqIndex_of h0 h4] at h1
      exact Option.some.inj h1
    exact PySem.W.ki_setAt ho h0 (by omega) (by rw [List.size_toArray, ← hl]; exact h4) (by rw [hk]; exact ⟨_, I', q⟩)
  · have hk : (k + (its.toArray.size : Int)).toNat = j := by
      rw [seqIndex_neg (by omega) h3] at h1
      rw [List.size_toArray, ← hl]
      exact Option.some.inj h1
    exact PySem.W.ki_setBack ho (by omega) (by rw [List.size_toArray, ← hl]; exact h3) (by omega) (by rw [hk]; exact ⟨_, I', q⟩)

/-! ### slices -/
theorem slice_bounds (lo hi : Option Int) (n : Nat) : (sliceBounds lo hi none n).1 = ((HT.sIx n 0 lo : Nat) : Int) ∧ (sliceBounds lo hi none n).2.1 = ((HT.sIx n n hi : Nat) : Int) ∧ (sliceBounds lo hi none n).2.2 = 1 := by
  refine ⟨?_, ?_, rfl⟩
  · cases lo with
    | none => simp [sliceBounds, HT.sIx]
    | some i =>
      simp only [sliceBounds, HT.sIx, Option.getD_none, show (1 : Int) > 0 by decide, if_true]
      by_cases h : i < 0
      · simp only [h, if_true] <;> omega
      · simp only [h, if_false] <;> omega
  · cases hi with
    | none => simp [sliceBounds, HT.sIx]
    | some i =>
      simp only [sliceBounds, HT.sIx, Option.getD_none, show (1 : Int) > 0 by decide, if_true]
      by_cases h : i < 0
      · simp only [h, if_true] <;> omega
      · simp only [h, if_false] <;> omega
theorem slicePick_cut (its : List Value) (lo hi : Option Int) : slicePick its.toArray lo hi none = ((its.drop (HT.sIx its.length 0 lo)).take (HT.sIx its.length its.length hi - HT.sIx its.length 0 lo)).toArray := by
  obtain ⟨h1, h2, h3⟩ := slice_bounds lo hi its.toArray.size
  unfold slicePick
  rw [h1, h2, h3]
  simp only [sliceRange_one, pick_run, List.size_toArray] <;> rfl
/-- xs[lo:hi] of a list: a new list -/
def rSlL (K : PySem.W.Frag) : V → Option Int → Option Int → Hp → VK → Prop := fun x lo hi H Q => ∃ a xs, x = .ref a ∧ SqL K H a xs ∧ ∀ p, H p = none → Q (.ref p) (upd H p (.lst (cutV xs lo hi)))
theorem sl_list : SlR X (rSlL X.K) := by
  intro pins s σ H x v vl vu lo hi sl Q I rx hs pl pu h
  obtain ⟨a, xs, rfl, hx, q⟩ := h
  cases rx
  obtain ⟨its, r, ht, hz⟩ := I.list hx
  have hlen := r.length
  refine ⟨"list", _, slot_list_getitem.lookup, ht.isList.typeIs, ?_⟩
  refine wpAny_getItem_list_slice ht.isList hs pl pu .none (by simp) ?_ (by rw [List.size_toArray] <;> omega)
  rw [slicePick_cut, ← hlen]
  refine ⟨.ref s.heap.objs.size, _, I.laid (t' := s.toks) (o := .lst (cutV xs lo hi)) (fun b ob q => Heap.get?_push_of_some _ q) (Nat.le_refl _) ?_, rfl, q _ (I.hok.fresh (Nat.le_refl _))⟩
  exact ⟨Nat.le_trans (cutV_length xs lo hi) hz, _, 0, (r.drop (HT.sIx xs.length 0 lo)).take (HT.sIx xs.length xs.length hi - HT.sIx xs.length 0 lo), Heap.get?_push_size _ rfl⟩

/-! ### in, not in: flat items -/
def flatV : V → Bool
  | .non => true
  | .bl _ => true
  | .int _ => true
  | .str _ => true
  | _ => false
/-- == of flat values -/
def eqV : V → V → Bool
  | .non, .non => true
  | .bl a, .bl b => a == b
  | .bl a, .int b => (if a then 1 else 0) == b
  | .int a, .bl b => a == (if b then 1 else 0)
  | .int a, .int b => a == b
  | .str a, .str b => a == b
  | _, _ => false
theorem eqAt_V {A : Around} {s : Shared} {y x : V} {u v : Value} (ry : RelV y u) (rx : RelV x v) (fy : flatV y = true) (fx : flatV x = true) : SeqAt.EqAt A s u v (eqV y x) := by
  cases y with
  | non =>
    cases ry
    cases x with
    | non => cases rx; exact SeqAt.EqAt.same _
    | bl b => cases rx; exact SeqAt.EqAt.none_bool b
    | int b => obtain ⟨t, rfl⟩ := rx; exact SeqAt.EqAt.none_int b t
    | str b => obtain ⟨t, rfl⟩ := rx; exact SeqAt.EqAt.none_str b t
    | _ => exact absurd (show false = true from fx) Bool.false_ne_true
  | bl a =>
    cases ry
    cases x with
    | non => cases rx; exact SeqAt.EqAt.bool_none a
    | bl b => cases rx; exact SeqAt.EqAt.bool_bool a b
    | int b => obtain ⟨t, rfl⟩ := rx; exact SeqAt.EqAt.bool_int a b t
    | str b => obtain ⟨t, rfl⟩ := rx; exact SeqAt.EqAt.bool_str a b t
    | _ => exact absurd (show false = true from fx) Bool.false_ne_true
  | int a =>
    obtain ⟨t', rfl⟩ := ry
    cases x with
    | non => cases rx; exact SeqAt.EqAt.int_none a t'
    | bl b => cases rx; exact SeqAt.EqAt.int_bool a t' b
    | int b => obtain ⟨t, rfl⟩ := rx; exact SeqAt.EqAt.int_int a t' b t
    | str b => obtain ⟨t, rfl⟩ := rx; exact SeqAt.EqAt.int_str a t' b t
    | _ => exact absurd (show false = true from fx) Bool.false_ne_true
  | str a =>
    obtain ⟨t', rfl⟩ := ry
    cases x with
    | non => cases rx; exact SeqAt.EqAt.str_none a t'
    | bl b => cases rx; exact SeqAt.EqAt.str_bool a t' b
    | int b => obtain ⟨t, rfl⟩ := rx; exact SeqAt.EqAt.str_int a t' b t
    | str b => obtain ⟨t, rfl⟩ := rx; exact SeqAt.EqAt.str_str a t' b t
    | _ => exact absurd (show false = true from fx) Bool.false_ne_true
  | _ => exact absurd (show false = true from fy) Bool.false_ne_true
/-- the items' answers, read off the values (a value's own answer does not lean on its token) -/
def eqU (x : V) (u : Value) : Bool := match u with
  | .none => eqV .non x
  | .bool b => eqV (.bl b) x
  | .int i _ => eqV (.int i) x
  | .str z _ => eqV (.str z) x
  | _ => false
theorem eqU_of {x y : V} {u : Value} (r : RelV y u) (f : flatV y = true) : eqU x u = eqV y x := by
  cases y with
  | non => cases r; rfl
  | bl b => cases r; rfl
  | int i => obtain ⟨t, rfl⟩ := r; rfl
  | str z => obtain ⟨t, rfl⟩ := r; rfl
  | _ => exact absurd (show false = true from f) Bool.false_ne_true
theorem any_eqU {x : V} : ∀ {xs : List V} {us : List Value}, Vals xs us → xs.all flatV = true → us.any (eqU x) = xs.any fun y => eqV y x
  | _, _, .nil, _ => rfl
  | y :: xs, u :: us, .cons r t, f => by
    rw [List.all_cons, Bool.and_eq_true] at f
    rw [List.any_cons, List.any_cons, eqU_of r f.1, any_eqU t f.2]
theorem mem_eqAt {A : Around} {s : Shared} {x : V} {v : Value} (rx : RelV x v) (fx : flatV x = true) : ∀ {xs : List V} {us : List Value}, Vals xs us → xs.all flatV = true → ∀ u ∈ us, SeqAt.EqAt A s u v (eqU x u)
  | _, _, .nil, _ => fun u hu => by cases hu
  | y :: xs, u :: us, .cons r t, f => fun u' hu => by
    rw [List.all_cons, Bool.and_eq_true] at f
    rcases List.mem_cons.mp hu with rfl | hu
    · rw [eqU_of r f.1]; exact eqAt_V r rx f.1 fx
    · exact mem_eqAt rx fx t f.2 u' hu
def inV (x : V) (xs : List V) : Bool := xs.any fun y => eqV y x
/-- x in a list or tuple of flat items -/
def rIn (K : PySem.W.Frag) (neg : Bool) : R2 := fun x y H Q => ∃ p xs, y = .ref p ∧ (SqL K H p xs ∨ SqT K H p xs) ∧ flatV x = true ∧ xs.all flatV = true ∧ Q (.bl (if neg then !inV x xs else inV x xs)) H
theorem op_in_seq : OpR X (compareOp .In) (rIn X.K false) := by
  intro pins s σ H x y v u Q I rx ry h
  obtain ⟨p, xs, rfl, hq, fx, fs, q⟩ := h
  cases ry
  rcases hq with hq | hq
  · obtain ⟨its, r, pl, hz⟩ := I.list hq
    refine SeqAt.in_listAt (eqU x) pl.isList (fun w hw => mem_eqAt rx fx r fs w (by simpa using hw)) ⟨.bl _, H, I, rfl, ?_⟩
    rw [show its.toArray.any (eqU x) = its.any (eqU x) by simp, any_eqU r fs]
    exact q
  · obtain ⟨its, r, pl, hz⟩ := I.tuple hq
    refine SeqAt.in_tupleAt (eqU x) pl (fun w hw => mem_eqAt rx fx r fs w (by simpa using hw)) ⟨.bl _, H, I, rfl, ?_⟩
    rw [show its.toArray.any (eqU x) = its.any (eqU x) by simp, any_eqU r fs]
    exact q
/-! ### len, list(x), tuple(x) of any list or tuple that is read -/
theorem call_len_seq : CallR X (.builtin "len") (fun xs H Q => ∃ p ys, xs = [.ref p] ∧ (SqL X.K H p ys ∨ SqT X.K H p ys) ∧ Q (.int ys.length) H) := by
  intro pins s σ H xs us Q I r h
  obtain ⟨p, ys, rfl, hq, q⟩ := h
  obtain ⟨u, rfl, rx⟩ := vals1 r
  cases rx
  have hn := line63
  rcases hq with hq | hq
  · obtain ⟨its, r', pl, hz⟩ := I.list hq
    have hlen := r'.length
    exact Calls.call_len_list pl.isList (by simp only [List.size_toArray] <;> omega) ⟨.int ys.length, H, I.tok _, ⟨s.toks + 1, by rw [List.size_toArray, hlen]⟩, q⟩
  · obtain ⟨its, r', pl, hz⟩ := I.tuple hq
    have hlen := r'.length
    exact len_tuple pl (by simp only [List.size_toArray] <;> omega) ⟨.int ys.length, H, I.tok _, ⟨s.toks + 1, by rw [List.size_toArray, hlen]⟩, q⟩
theorem call_len_str : CallR X (.builtin "len") (fun xs H Q => ∃ z, xs = [.str z] ∧ z.length ≤ sizeLine ∧ Q (.int z.length) H) := by
  intro pins s σ H xs us Q I r h
  obtain ⟨z, rfl, hz, q⟩ := h
  obtain ⟨u, rfl, t, rfl⟩ := vals1 r
  have hn := line63
  exact len_str (by omega) ⟨.int z.length, H, I.tok _, ⟨_, rfl⟩, q⟩
theorem CallR.or {f : Value} {r r' : List V → Hp → VK → Prop} (h : CallR X f r) (h' : CallR X f r') : CallR X f (fun xs H Q => r xs H Q ∨ r' xs H Q) := by
  intro pins s σ H xs us Q I rs q
  rcases q with q | q
  · exact h pins s σ H xs us Q I rs q
  · exact h' pins s σ H xs us Q I rs q
theorem call_tuple_of : CallR X (.type "tuple") (fun xs H Q => ∃ p ys, xs = [.ref p] ∧ ((SqL X.K H p ys ∧ ∀ l, H l = none → Q (.ref l) (upd H l (.tup ys))) ∨ (SqT X.K H p ys ∧ Q (.ref p) H))) := by
  intro pins s σ H xs us Q I r h
  obtain ⟨p, ys, rfl, h⟩ := h
  obtain ⟨u, rfl, rx⟩ := vals1 r
  cases rx
  rcases h with ⟨hq, q⟩ | ⟨hq, q⟩
  · obtain ⟨its, r', pl, hz⟩ := I.list hq
    have hlen := r'.length
    refine call_tuple_list pl.isList (fun h' kp => ?_) (by simp only [List.size_toArray] <;> omega)
    have I1 : Inv X pins σ H { s with heap := h' } := I.kept (t' := s.toks) kp
    have I2 : Inv X pins σ (upd H h'.objs.size (.tup ys)) { s with heap := h'.push { cls := .type "tuple", data := .seq its.toArray } } :=
      I1.laid (t' := s.toks) (fun b o e => Heap.get?_push_of_some _ e) (Nat.le_refl _) (show ObjOk X.prog X.w _ _ _ (.tup ys) from ⟨hz, its, r', IsTup.new _ _⟩)
    exact ⟨.ref h'.objs.size, _, I2, rfl, q _ (I1.hok.fresh (Nat.le_refl _))⟩
  · obtain ⟨its, r', pl, hz⟩ := I.tuple hq
    exact call_tuple_same pl ⟨.ref p, H, I, rfl, q⟩

/-! ### the call of a builtin's method: o.m(..) -/
/-- the value is of that builtin type -/
def tyV (K : PySem.W.Frag) (T : String) (x : V) (H : Hp) : Prop := match x with
  | .str _ => T = "str"
  | .int _ => T = "int"
  | .ref p => (T = "list" ∧ ∃ xs, SqL K H p xs) ∨ (T = "tuple" ∧ ∃ o, K.lookup p = some o ∧ o.cls = .type "tuple" ∧ o.dict = none) ∨
      (T = "dict" ∧ ((∃ kvs, H p = some (.dK kvs)) ∨ ∃ kvs, H p = some (.dT kvs))) ∨ (T = "set" ∧ ∃ S n, H p = some (.set S n))
  | _ => False
theorem tyV_is {pins : List (Addr × Obj)} {σ : St} {H : Hp} {s : Shared} {T : String} {x : V} {v : Value} (I : Inv X pins σ H s) (r : RelV x v) (ty : tyV X.K T x H) :
    s.TypeIs v T ∧ ∀ a, v = .ref a → ∃ ob, s.heap.get? a = some ob ∧ ob.dict = none := by
  cases x with
  | str z =>
    obtain ⟨t, rfl⟩ := r
    cases (show T = "str" from ty)
    exact ⟨typeIs_str s z t, fun _ e => nomatch e⟩
  | int i =>
    obtain ⟨t, rfl⟩ := r
    cases (show T = "int" from ty)
    exact ⟨typeIs_int s i t, fun _ e => nomatch e⟩
  | ref p =>
    cases r
    rcases ty with ⟨rfl, xs, hq⟩ | ⟨rfl, o, hk, hc, hd⟩ | ⟨rfl, hk⟩ | ⟨rfl, S, n, hk⟩
    · obtain ⟨its, _, pl, _⟩ := I.list hq
      refine ⟨pl.isList.typeIs, fun a e => ?_⟩
      cases e
      obtain ⟨o, n, e, c, hd, _⟩ := pl
      exact ⟨o, e, hd⟩
    · refine ⟨⟨o, I.kIn p o hk, hc⟩, fun a e => ?_⟩
      cases e
      exact ⟨o, I.kIn _ o hk, hd⟩
    · have z : ∃ o, s.heap.get? p = some o ∧ o.ExactDict := by
        rcases hk with ⟨kvs, hk⟩ | ⟨kvs, hk⟩
        · obtain ⟨_, _, _, _, o, _, _, e, ex, _⟩ := I.hok p _ hk
          exact ⟨o, e, ex⟩
        · obtain ⟨_, _, _, _, o, _, _, e, ex, _⟩ := I.hok p _ hk
          exact ⟨o, e, ex⟩
      obtain ⟨o, e, ex⟩ := z
      refine ⟨⟨o, e, ex.1⟩, fun a e2 => ?_⟩
      cases e2
      exact ⟨o, e, ex.2.1⟩
    · obtain ⟨o, _, _, _, e, ex, _⟩ := I.hok p _ hk
      refine ⟨⟨o, e, ex.1⟩, fun a e2 => ?_⟩
      cases e2
      exact ⟨o, e, ex.2.1⟩
  | _ => exact False.elim ty
def tBM (K : PySem.W.Frag) (T : String) (r : V → List V → Hp → VK → Prop) (to : TE) (t : TA) : TE := fun σ H Q => to σ H fun x H1 => tyV K T x H1 ∧ t σ H1 fun xs H2 => r x xs H2 Q
variable {o e : Expr} {es : List Expr} {to : TE} {t : TA} {name : Str} {apos cpos : Pos} {T id : String} {r : V → List V → Hp → VK → Prop}
theorem pe_bm (pa : PlainAttrs T) (slot : Slot T name id) (hty : typeOf (.builtin id) = pure (.type "method_descriptor")) (hm : MtR X id r) (ho : PE X o to) (ha : PA X (e :: es) t)
    (hbase : attributeBase o name X.env (eval o X.env) = eval o X.env := by rfl)
    (hfew : ((backTo cpos (starEach (e :: es) X.env)).all (fun x => !x.1) && (backToKw cpos (keywordEach [] X.env)).all (fun x => x.1.isSome)
      && decide ((e :: es).length + ([] : List Keyword).length + (if ([] : List Keyword).isEmpty then 0 else 1) < 30)) = true := by rfl)
    (hline : (apos.endLine == cpos.line) = true := by rfl) (hs : starEach (e :: es) X.env = (false, eval e X.env) :: starEach es X.env := by rfl) (hplain : (backTo cpos (starEach es X.env)).any (·.1) = false := by rfl) :
    PE X (.Call (.Attribute o name apos) (e :: es) [] cpos) (tBM X.K T r to t) := by
  intro pins s σ H Q I h
  refine wpAny_Call_method_late hbase hfew hline rfl (thn (ho pins s σ H _ I h) fun v s1 ⟨x, H1, I1, r1, ty, q1⟩ => ?_)
  obtain ⟨h1, h2⟩ := tyV_is I1 r1 ty
  refine ⟨T, id, pa, slot, hty, h1, h2, ?_⟩
  have hA := ha cpos pins s1 σ H1 _ I1 q1
  rw [hs] at hA ⊢
  refine Calls.callWith_builtin (by show (false || (backTo cpos (starEach es X.env)).any (·.1)) = false; rw [hplain] <;> rfl) (Calls.evalArgs_plain ?_)
  exact thn hA fun us s2 ⟨vs, H2, I2, r2, q2⟩ => hm pins s2 σ H2 x vs v us Q I2 r1 r2 q2
/- xs.append(e), list.index on a module's tuple .. are MtR facts of 06m -/
end
end L2

namespace L2
open PySem PySem.Spec PyProof.Rows

def MtM (X : Cx) (id : String) (r : V → List V → Hp → VK → Prop) : Prop :=
  ∀ (pins : List (Addr × Obj)) (s : Shared) (σ : St) (H : Hp) (x : V) (xs : List V) (v : Value) (us : List Value) (Q : VK), Inv X pins σ H s → RelV x v → Vals xs us → r x xs H Q →
    wpAny (model X.prog X.w) X.A (call (.builtin id) (v :: us)) (EP X pins σ Q) X.xe s

/-! ### lists of values -/
theorem Vals.one : ∀ {x : V} {us : List Value}, Vals [x] us → ∃ u, us = [u] ∧ RelV x u
  | _, _, .cons r .nil => ⟨_, rfl, r⟩
theorem Vals.two : ∀ {x y : V} {us : List Value}, Vals [x, y] us → ∃ u v, us = [u, v] ∧ RelV x u ∧ RelV y v
  | _, _, _, .cons r (.cons q .nil) => ⟨_, _, rfl, r, q⟩
theorem Vals.eraseIdx : ∀ {xs : List V} {us : List Value} (i : Nat), Vals xs us → Vals (xs.eraseIdx i) (us.eraseIdx i)
  | _, _, _, .nil => .nil
  | _, _, 0, .cons _ t => t
  | _, _, i + 1, .cons r t => .cons r (Vals.eraseIdx i t)
theorem len_erase {α : Type} : ∀ (l : List α) (i : Nat), (l.eraseIdx i).length ≤ l.length
  | [], _ => Nat.le_refl _
  | _ :: _, 0 => Nat.le_succ _
  | _ :: r, i + 1 => Nat.succ_le_succ (len_erase r i)
section
variable {X : Cx} {pins : List (Addr × Obj)} {σ : St} {H : Hp} {s : Shared} {l b : Addr} {xs ys zs : List V}

/-! ### the two steps: a tracked list is rewritten, a new list is laid -/
theorem Inv.lset {its its' : List Value} {n : Nat} {f : Array Value → Array Value} {t' : Nat} (I : Inv X pins σ H s) (hH : H l = some (.lst xs))
    (e : s.heap.get? l = some { cls := .type "list", data := .seq its.toArray n }) (hf : f its.toArray = its'.toArray) (hv : Vals ys its') (hz : ys.length ≤ sizeLine) :
    Inv X pins σ (upd H l (.lst ys)) { s with heap := s.heap.update l (Obj.mapSeq f), toks := t' } := by
  have q := PySem.IsL.update e f
  rw [hf] at q
  refine I.write (x := l) (e := l) (by rw [hH]; exact trivial) (.inl rfl) (fun b' u hb hu => (Heap.get?_update_other s.heap (Obj.mapSeq f) (Ne.symm hb)).trans hu) ⟨_, q⟩ ?_
  exact ⟨hz, its', _, hv, q⟩
theorem Inv.lnew {its : List Value} {t' : Nat} (I : Inv X pins σ H s) (hv : Vals ys its) (hz : ys.length ≤ sizeLine) :
    Inv X pins σ (upd H s.heap.objs.size (.lst ys)) { s with heap := s.heap.push { cls := .type "list", data := .seq its.toArray }, toks := t' } :=
  I.laid (fun _ _ q => Heap.get?_push_of_some _ q) (Nat.le_refl _) ⟨hz, its, 0, hv, Heap.get?_push_size _ rfl⟩
theorem Inv.fresh (I : Inv X pins σ H s) : H s.heap.objs.size = none := I.hok.fresh (Nat.le_refl _)
theorem Inv.lstM (I : Inv X pins σ H s) (hH : H l = some (.lst xs)) : xs.length ≤ sizeLine ∧ ∃ (its : List Value) (n : Nat), Vals xs its ∧ xs.length = its.length ∧ s.heap.get? l = some { cls := .type "list", data := .seq its.toArray n } := by
  obtain ⟨z, its, n, r, e⟩ := I.hok l _ hH
  exact ⟨z, its, n, r, r.length, e⟩

end

section
variable {X : Cx}

/-! ### methods -/
def rAppend : V → List V → Hp → VK → Prop := fun x vs H Q => ∃ l xs y, x = .ref l ∧ vs = [y] ∧ H l = some (.lst xs) ∧ xs.length < sizeLine ∧ Q .non (upd H l (.lst (xs ++ [y])))
theorem mt_append : MtM X "list.append" rAppend := by
  intro pins s σ H x vs v us Q I rx rv h
  obtain ⟨l, xs, y, rfl, rfl, hH, hz, q⟩ := h
  cases rx
  obtain ⟨u, rfl, ru⟩ := rv.one
  obtain ⟨z, its, n, r, hl, e⟩ := I.lstM hH
  refine call_meets F.slot_list_append ⟨_, e, rfl⟩ F.entry_list_append (F.args_list_append_2 _ _) (PySem.list_append l its.toArray n u (by rw [List.size_toArray]; omega)) ⟨e, ?_⟩
  refine ⟨.non, _, I.lset (its' := its ++ [u]) hH e (by simp) (r.append (.cons ru .nil)) ?_, rfl, q⟩
  rw [List.length_append, List.length_singleton]
  omega

def rPopAt : V → List V → Hp → VK → Prop := fun x vs H Q => ∃ l xs i k y, x = .ref l ∧ vs = [.int i] ∧ H l = some (.lst xs) ∧ -(2 ^ 63) ≤ i ∧ i < 2 ^ 63 ∧ seqIndex? i xs.length = some k ∧ xs[k]? = some y ∧ Q y (upd H l (.lst (xs.eraseIdx k)))
theorem mt_popAt : MtM X "list.pop" rPopAt := by
  intro pins s σ H x vs v us Q I rx rv h
  obtain ⟨l, xs, i, k, y, rfl, rfl, hH, h1, h2, hk, hy, q⟩ := h
  cases rx
  obtain ⟨u, rfl, ru⟩ := rv.one
  obtain ⟨t, rfl⟩ := ru
  obtain ⟨z, its, n, r, hl, e⟩ := I.lstM hH
  obtain ⟨w, hw, rw'⟩ := r.get hy
  refine call_meets F.slot_list_pop ⟨_, e, rfl⟩ F.entry_list_pop (F.args_list_pop_2 _ _)
    (MeetsSeq.list_pop_at l its.toArray n i t k w (fitsIndex_both h1 h2) (by rw [List.size_toArray, ← hl]; exact hk) (by rw [← Array.getElem?_toList]; exact hw) (by rw [List.size_toArray]; omega)) ⟨e, ?_⟩
  refine ⟨y, _, I.lset (its' := its.eraseIdx k) hH e ?_ (r.eraseIdx k) ?_, rw', q⟩
  · show its.toArray.eraseIdxIfInBounds k = (its.eraseIdx k).toArray
    rw [List.eraseIdxIfInBounds_toArray]
  · have := len_erase xs k
    omega

/-! ### list + list, list += list, list * int -/
def rCat : R2 := fun x y H Q => ∃ l b xs zs, x = .ref l ∧ y = .ref b ∧ H l = some (.lst xs) ∧ H b = some (.lst zs) ∧ xs.length + zs.length ≤ sizeLine ∧ ∀ p, H p = none → Q (.ref p) (upd H p (.lst (xs ++ zs)))
theorem op_cat : OpR X (binaryOp .Add) rCat := by
  intro pins s σ H x y v u Q I rx ry h
  obtain ⟨l, b, xs, zs, rfl, rfl, hH, hB, hz, q⟩ := h
  cases rx
  cases ry
  obtain ⟨z, its, n, r, hl, e⟩ := I.lstM hH
  obtain ⟨z2, its2, n2, r2, hl2, e2⟩ := I.lstM hB
  refine PySem.P.add_list e e2 ?_ (by rw [List.size_toArray, List.size_toArray]; omega)
  have ea : its.toArray ++ its2.toArray = (its ++ its2).toArray := by simp
  rw [ea]
  exact ⟨.ref _, _, I.lnew (t' := s.toks) (r.append r2) (by rw [List.length_append]; omega), rfl, q _ I.fresh⟩
/-! ### del xs[i] -/
end

/-! ### xs[a:b] = ys -/
section
variable {prog : Program} {w : World} {A : Around} {E : Value → Shared → Prop} {s : Shared}
end

section
variable {X : Cx}
end
end L2

namespace Att
open PySem PySem.W PySem.Calls PyProof.Rows

/-! ### the script -/
theorem ints_of_wellAll {P : Params} {h : Heap} : ∀ (ns : List Int) (vs : List Value), WellAll P h vs (ns.map WData.int) → IntsAre vs ns := by
  intro ns
  induction ns with
  | nil =>
    intro vs w
    rw [List.map_nil] at w
    cases w
    exact .nil
  | cons n ns ih =>
    intro vs w
    rw [List.map_cons] at w
    cases w with
    | cons a b =>
      cases a
      exact .cons _ _ (ih _ b)

theorem script_of {l : OpenLaw} {n : Nat} (hn : l.most = some n) {P : Params} {h : Heap} {args : List WData} {vals : List Value}
    (hpre : l.row.toRowW.claim.pre args = true) (hwl : WellAll P h vals args) :
    ∃ a vs ns, vals = [Value.ref a] ∧ args = [WData.list (ns.map WData.int)] ∧ h.get? a = some { cls := .type "list", data := .seq vs.toArray } ∧ IntsAre vs ns ∧ ns.length ≤ n := by
  have hsh : WShape.hasAll [] args [.list .int] = true := (pre_splitW hpre).1
  have hc : l.pre.holds [] { args := args } = true := (pre_splitW hpre).2
  obtain ⟨d, r, rfl, h1, h2⟩ := hasAllW_cons hsh
  obtain rfl := hasAllW_nil h2
  obtain ⟨xs, rfl, h3⟩ := hasW_list h1
  obtain ⟨ns, rfl⟩ := items_int h3
  have hlen : ns.length ≤ n := by
    unfold OpenLaw.pre at hc
    have h4 : (WTm.not (.lt (.lit (.int (n : Int))) (.len (.arg 0)))).holds [] { args := [.list (ns.map .int)] } = true := by
      have h4 := (holds_andW hc).1
      rw [hn] at h4
      exact h4
    have h5 := condW_of h4 (w_not (w_lt w_lit (w_len_list (w_arg rfl))))
    rw [List.length_map] at h5
    refine Nat.le_of_not_lt fun q => ?_
    have q' : (n : Int) < ((ns.length : Nat) : Int) := by omega
    first
      | (rw [decide_eq_true q'] at h5; exact absurd h5 (by decide))
      | (simp at h5; omega)
  cases hwl with
  | cons w1 w2 =>
    cases w2
    cases w1 with
    | list ho hall => exact ⟨_, _, ns, rfl, rfl, ho, ints_of_wellAll ns _ hall, hlen⟩

theorem post_true (l : OpenLaw) (args : List WData) : l.row.toRowW.claim.post args (.bool true) args = true :=
  postW_of (r := l.row.toRowW) (X := (true == true))
    (show WShape.has [] (.bool true) .bool = true by first | rfl | decide | simp [WShape.has, WShape.arms, WShape.armsAll])
    (show (WTm.eq .res (.lit (.bool true))).value [] { args := args, res := some (.bool true), after := args } = some (.bool (true == true)) from w_eq_bool (w_res rfl) w_lit) rfl

/-! ### the attachment: holds_open's last premise (the goal 'hc' behind k_head) from a wpAny of the law's body -/
/-- the same from a codeAny of the CALL (for a layer whose function contracts speak of calls) -/
theorem attach_call {l : OpenLaw} {n : Nat} {q : Program} {loose : List Str} {XP : (Str → Option Value) → Heap → Prop} {YP : World → Heap → Prop} {d : DefRec}
    (hn : l.most = some n) (hdf : d.params.defaults = [])
    (call : ∀ (w : World) (s₀ s₁ : Shared) (mg mb : Str → Option Value) (fa : Addr) (o : Obj) (pm cd doc : Value) (a : Addr) (vs : List Value) (ns : List Int),
      Ground q loose [] XP w s₀ mg mb s₁.heap → YP w s₁.heap →
      s₁.heap.get? fa = some o → o.data = .func (docDef d.name d.params d.body d.scope pm cd doc) → s₁.heap.CodeRec cd d.name → mg d.name = some (.ref fa) →
      s₁.heap.get? a = some { cls := .type "list", data := .seq vs.toArray } → IntsAre vs ns → ns.length ≤ n → s₁.gens = #[] →
      codeAny (model l.prog w) callerA (.call (.ref fa) ⟨[.ref a], []⟩) (fun r s' => r = .ok (.ret (.bool true)) ∧ OldK s₁.heap s'.heap ∧ s'.os = s₁.os ∧ AllBare s'.gens) s₁) :
    WalkO q loose XP YP l.row.toRowW d [] (fun f vs => PySem.call f vs) := by
  intro w s₀ s₁ mg mb G Y fa o pm cd doc dV kV ho hd hcd hD hmg hg args vals as hpre hlay hrd hwl hlo
  obtain rfl : dV = .none := Dflts.none hD hdf
  obtain rfl : kV = .none := Dflts.noKw hD
  obtain ⟨a, vs, ns, rfl, rfl, hobj, hints, hlen⟩ := script_of hn hpre hwl
  refine enter_call (codeAny_mono (call w s₀ s₁ mg mb fa o pm cd doc a vs ns G Y ho (fd_plain hd) hcd hmg hobj hints hlen hg) fun r s' hq => ?_)
  obtain ⟨rfl, h2, h3, h4⟩ := hq
  exact ⟨.inl ⟨.bool true, .bool true, [], rfl, fun _ => rfl, .bool true, post_true l _, fun _ => ⟨List.Pairwise.nil, fun _ hm => (nomatch hm)⟩⟩, h2, h3, h4⟩

/-! ### rules over ANY heap (no ledger) from facts about the written part K: the library's own take a ledger (News) for what they write -/
section
variable {prog : Program} {w : World} {A : Around} {E : Value → Shared → Prop} {s : Shared} {K : Frag}

/-! the whole heap as the ledger: makes every rule that writes through a ledger a rule over any heap -/
end
end Att

namespace L2
open PySem PySem.Spec PyProof.Rows

theorem vals_ints : ∀ {vs : List Value} {ns : List Int}, IntsAre vs ns → Vals (ns.map V.int) vs
  | _, _, .nil => .nil
  | _, _, .cons n t h => .cons ⟨t, rfl⟩ (vals_ints h)

/-- nothing is tracked but the script, known to the object (or it is an object of the module) -/
def Only (H : Hp) : Prop := ∀ b, H b = none ∨ ∃ o xs, H b = some (.frz o (.lst xs))

/-- THE HEAD: the law's promise, at the heap behind the top. F, the promise of the law's def, may use that base is part of the heap (so K.In base, base.Ns mainGlobals mg stand in Mod) -/
theorem law_call {P : Program} {w : World} {K : PySem.W.Frag} {mg mb : Str → Option Value} {CX : CXT} {k : Nat} {fa a : Addr} {fd : FuncData} {x : Str} {sp : Sp} {s₁ : Shared} {vs : List Value} {ns : List Int}
    (KX : K.In s₁.heap) (hns : s₁.heap.Ns mainGlobals mg) (hb : s₁.heap.Ns builtinsNs mb) (hbb : ∀ x : Str, x ≠ "__name__" → mb x = bootBuiltins x) (hlim : s₁.heap.NoLimit) (hg : s₁.gens = #[])
    (ha : s₁.heap.get? a = some { cls := .type "list", data := .seq vs.toArray }) (hi : IntsAre vs ns) (hl : ns.length ≤ sizeLine) (hr : Room k callerA)
    (F : ∀ base : Heap, K.In base → base.Ns mainGlobals mg → FnOk P w K mg base CX k fa fd [x] sp) (hbind : ∀ (s : Shared) (u : Value), BindsTo s fd ⟨[u], []⟩ [(x, u)])
    (hsp : ∀ H : Hp, Only H → SqL K H a (ns.map V.int) → sp [.ref a] H (fun v _ => v = .bl true) fun _ _ _ => False)
    (hCX : ∀ H e s', CX [] H s₁ (fun _ _ _ => False) e s' → False) :
    codeAny (model P w) callerA (.call (.ref fa) ⟨[.ref a], []⟩) (fun r s' => r = .ok (.ret (.bool true)) ∧ OldK s₁.heap s'.heap ∧ s'.os = s₁.os ∧ AllBare s'.gens) s₁ := by
  have rv := vals_ints hi
  have lenV := hi.length
  -- from an abstract heap in which nothing but the script may be tracked
  have core : ∀ H : Hp, Only H → SqL K H a (ns.map V.int) → HOk P w H s₁.heap → (∀ b, H b ≠ none → b = a) → (H a ≠ none → K.lookup a = none) →
      codeAny (model P w) callerA (.call (.ref fa) ⟨[.ref a], []⟩) (fun r s' => r = .ok (.ret (.bool true)) ∧ OldK s₁.heap s'.heap ∧ s'.os = s₁.os ∧ AllBare s'.gens) s₁ := by
    intro H hO hS hok hA hK
    have base_of : ∀ {b : Addr} {o : Obj}, s₁.heap.get? b = some o → H b = none → (hidT s₁.heap H).get? b = some o := fun e n => hidT_get e n
    have noA : ∀ {b : Addr} {o : Obj} {es : Array DictEntry} {ep : Nat}, s₁.heap.get? b = some o → o.data = .dict es ep → H b = none := fun {b o es ep} e d => by
      cases q : H b with
      | none => rfl
      | some u =>
        have e' : b = a := hA b (by rw [q]; simp)
        subst e'
        rw [ha] at e; cases e
        have d' : Data.seq vs.toArray _ = Data.dict es ep := d
        cases d'
    have nsK : ∀ {b : Addr} {m : Str → Option Value}, s₁.heap.Ns b m → (hidT s₁.heap H).Ns b m := fun {b m} ⟨o, es, ep, e, d, r⟩ => ⟨o, es, ep, base_of e (noA e d), d, r⟩
    have hKb : K.In (hidT s₁.heap H) := fun b o e => base_of (KX b o e) (by
      cases q : H b with
      | none => rfl
      | some u =>
        have e' : b = a := hA b (by rw [q]; simp)
        subst e'
        rw [hK (by rw [q]; simp)] at e; cases e)
    have hM : Mod K mg (hidT s₁.heap H) := ⟨hKb, nsK hns, ⟨mb, nsK hb, hbb⟩, let ⟨mc, h1, h2⟩ := hlim; ⟨mc, nsK h1, h2⟩⟩
    have e0 : Env0 P w K mg (hidT s₁.heap H) callerA [] s₁ H := ⟨rfl, hM, fun b o e => of_hidT e, Nat.le_of_eq (hidT_size _ _), trivial, fun b hb => absurd (show b ∈ ([] : List Addr) from hb) (by simp), hok, .of_eq hg⟩
    refine codeAny_mono ((F _ hKb (nsK hns)).run callerA [] s₁ H ⟨[.ref a], []⟩ [.ref a] [.ref a] _ _ hr e0 (hbind s₁ (.ref a)) (.cons rfl .nil) (hsp H hO hS)) fun r s' h => ?_
    cases r with
    | error e => exact (hCX H e s' h).elim
    | ok fl =>
      cases fl with
      | next => exact False.elim h
      | brk => exact False.elim h
      | cont => exact False.elim h
      | ret u =>
        obtain ⟨v, H', os, bare, un, hok', r', q⟩ := h
        have q' : v = .bl true := q
        subst q'
        obtain rfl : u = Value.bool true := r'
        refine ⟨rfl, OldK.of_keep fun b o e => ?_, os, bare⟩
        cases q : H b with
        | none => exact un.keep b o e q (by intro z; exact absurd (show b ∈ ([] : List Addr) from z) (by simp)) (by simp)
        | some u =>
          rcases hO b with z | ⟨ob, xs, z⟩
          · rw [q] at z; cases z
          · have z2 := un.frzs b ob _ z
            obtain ⟨e1, _⟩ := hok b _ z
            obtain ⟨e2, _⟩ := hok' b _ z2
            rw [e] at e1; cases e1
            exact e2
  cases hk : K.lookup a with
  | some o =>
    -- the script is one of the module's own objects
    have e := KX a o hk
    rw [ha] at e
    cases e
    refine core (fun _ => none) (fun _ => .inl rfl) (.inr ⟨_, vs.toArray, _, hk, rfl, rfl, rfl, by rw [List.size_toArray, lenV]; exact hl, by simpa using rv⟩) (fun b u z => by have z' : (none : Option HO) = some u := z; cases z') (fun b z => absurd rfl z) fun z => absurd rfl z
  | none =>
    refine core (fun b => if b = a then some (.frz { cls := .type "list", data := .seq vs.toArray } (.lst (ns.map V.int))) else none) (fun b => ?_) (.inl (.inr ⟨{ cls := .type "list", data := .seq vs.toArray }, if_pos rfl⟩)) (fun b u z => ?_) (fun b z => ?_) fun _ => hk
    · by_cases hb : b = a
      · exact .inr ⟨_, _, if_pos hb⟩
      · exact .inl (if_neg hb)
    · by_cases hb : b = a
      · have z' := (if_pos hb).symm.trans z
        cases z'
        subst hb
        exact ⟨ha, by rw [List.length_map]; exact hl, vs, _, rv, ha⟩
      · have z' := (if_neg hb).symm.trans z
        cases z'
    · by_cases hb : b = a
      · exact hb
      · exact absurd (if_neg hb) z
end L2

namespace L2
open PySem PySem.Spec PyProof.Rows

/-- the goal that k_head leaves (case hc), from the law's promise. F gives the function object fd (K's own) once, then the promise over every base -/
theorem walk_of {l : PySem.W.OpenLaw} {n k : Nat} {q : Program} {loose : List Str} {XP : (Str → Option Value) → Heap → Prop} {YP : World → Heap → Prop} {d : DefRec} {K : Params → PySem.W.Frag} {CX : World → CXT} {sp : World → Sp} {x : Str}
    (hn : l.most = some n) (hn2 : n ≤ sizeLine) (hdf : d.params.defaults = []) (hr : Room k callerA)
    (hY : ∀ (w : World) (h : Heap), YP w h → (K w.params).In h)
    (F : ∀ (w : World) (mg : Str → Option Value) (fa : Addr) (h : Heap), (K w.params).In h → h.Ns mainGlobals mg → mg d.name = some (.ref fa) →
      ∃ fd : FuncData, (∀ (s : Shared) (u : Value), BindsTo s fd ⟨[u], []⟩ [(x, u)]) ∧
        ∀ base : Heap, (K w.params).In base → base.Ns mainGlobals mg → FnOk l.prog w (K w.params) mg base (CX w) k fa fd [x] (sp w))
    (hsp : ∀ (w : World) (H : Hp) (a : Addr) (ns : List Int), ns.length ≤ n → Only H → SqL (K w.params) H a (ns.map V.int) → sp w [.ref a] H (fun v _ => v = .bl true) fun _ _ _ => False)
    (hCX : ∀ (w : World) (H : Hp) (s : Shared) (e : Value) (s' : Shared), CX w [] H s (fun _ _ _ => False) e s' → False) :
    PySem.W.WalkO q loose XP YP l.row.toRowW d [] (fun f vs => PySem.call f vs) := by
  refine Att.attach_call hn hdf fun w s₀ s₁ mg mb fa o pm cd doc a vs ns G Y ho hd hcd hmg hobj hints hlen hg => ?_
  have KX := hY w _ Y
  obtain ⟨fd, hb, hF⟩ := F w mg fa _ KX G.T.g hmg
  exact law_call KX G.T.g G.T.b G.T.builtins G.T.nolimit hg hobj hints (Nat.le_trans hlen hn2) hr hF hb (fun H hO hS => hsp w H a ns hlen hO hS) fun H e s' => hCX w H s₁ e s'
end L2

/-! SHORT WORDS over the layer: a def of the text, its body, what a loop and a test want. -/
namespace L2
open PySem PySem.Spec PyProof.Rows

/-! ### the text by places -/
def defArgs (s : Stmt) : Arguments := match s with
  | .FunctionDef _ a _ _ _ _ _ _ _ _ => a
  | _ => { posonlyargs := [], args := [], vararg := none, kwonlyargs := [], kw_defaults := [], kwarg := none, defaults := [] }
def defBody (s : Stmt) : List Stmt := match s with
  | .FunctionDef _ _ b _ _ _ _ _ _ _ => b
  | _ => []
def defScope (s : Stmt) : Scope := match s with
  | .FunctionDef _ _ _ _ _ _ sc _ _ _ => sc
  | _ => { kind := .function, names := [], isGenerator := false, isCoroutine := false }

/-! ### no exception leaves a def -/
abbrev CX0 : CXT := fun _ _ _ _ _ _ => False
abbrev E0 : XK := fun _ _ _ => False
theorem pass0 {X : Cx} : Passes CX0 X E0 := fun _ _ _ _ _ _ _ h => h.elim

/-! ### a def (or method) of the text as it stands behind the top -/
structure Fun (K : PySem.W.Frag) (x qual : Str) (st : Stmt) (f : Addr) (fd : FuncData) : Prop where
  ex : ∃ (oc : Value) (od : Option Addr) (kV doc pm : Value) (an : Option Addr) (cdv ct : Value) (osl : Array (Option Value)),
    fd = PySem.W.fnOf x qual (defArgs st) (defBody st) (defScope st) .none kV doc pm an cdv ct ∧ K.lookup f = some ⟨oc, od, .func fd, osl⟩ ∧ PySem.W.codeIn K cdv qual = true
  kp : PySem.W.keepIn K (.ref f) = true
section
variable {P : Program} {w : World} {K : PySem.W.Frag} {mg : Str → Option Value} {base : Heap}
/-- THE RULE for a def: its body as a term of rules, and the reading of that term -/
theorem Fun.ok {x qual : Str} {st : Stmt} {f : Addr} {fd : FuncData} {N ps : List Str} {k : Nat} {sp : Sp} (F : Fun K x qual st f fd) (S : FnScope N ps (defScope st)) (len : ∀ vs H Q E, sp vs H Q E → vs.length = ps.length)
    (hbody : ∀ (cdv : Value) (A : Around) (outer : List Env) (s : Shared) (H : Hp) (vs : List V) (Q : VK) (E : XK), Room k (A.deeper (envOfC qual (defScope st) s.heap.objs.size f cdv)) → sp vs H Q E →
      ∃ t, PSs (cxOf CX0 P w K mg base N qual (defScope st) f cdv A outer s H E).nox (defBody st) t ∧ t { nx := fun _ H' => Q .non H', rt := Q } (start N vs) H) : FnOk P w K mg base CX0 (k + 1) f fd ps sp := by
  obtain ⟨oc, od, kV, doc, pm, an, cdv, ct, osl, rfl, lk, hcd⟩ := F.ex
  refine fn_of lk hcd S len fun A outer s H vs Q E hr hsp => ?_
  obtain ⟨t, h, q⟩ := hbody cdv A outer s H vs Q E hr hsp
  exact ⟨t, h.nox, q⟩
/-- how its arguments bind (no defaults): h is «fun _ _ _ _ _ _ us hl => match us, hl with | [_, _], _ => rfl», one _ a parameter -/
theorem Fun.binds {x qual : Str} {st : Stmt} {f : Addr} {fd : FuncData} {ps : List Str} (F : Fun K x qual st f fd)
    (h : ∀ (kV doc pm : Value) (an : Option Addr) (cdv ct : Value) (us : List Value), us.length = ps.length → bindArgs (PySem.W.fnOf x qual (defArgs st) (defBody st) (defScope st) .none kV doc pm an cdv ct) ⟨us, []⟩ = pure (ps.zip us)) : Binds K fd ps [] := by
  obtain ⟨oc, od, kV, doc, pm, an, cdv, ct, osl, rfl, lk, hcd⟩ := F.ex
  exact .all (h kV doc pm an cdv ct)
theorem fun_mk {x qual : Str} {st : Stmt} {f : Addr} {oc : Value} {od an : Option Addr} {osl : Array (Option Value)} {kV doc pm cdv ct : Value} (l : K.lookup f = some ⟨oc, od, .func (PySem.W.fnOf x qual (defArgs st) (defBody st) (defScope st) .none kV doc pm an cdv ct), osl⟩)
    (c : PySem.W.codeIn K cdv qual = true) (k : PySem.W.keepIn K (.ref f) = true) : Fun K x qual st f (PySem.W.fnOf x qual (defArgs st) (defBody st) (defScope st) .none kV doc pm an cdv ct) := ⟨⟨oc, od, kV, doc, pm, an, cdv, ct, osl, rfl, l, c⟩, k⟩
end
/-! ### expressions in short: the name that stands in the i-th slot -/
section
variable {X : Cx}
theorem pv (i : Nat) {x : Str} {pos : Pos} (hN : X.N[i]? = some x := by rfl) (hv : Vis X.env.scope x := by first | exact Or.inl rfl | exact Or.inr (Or.inl rfl) | exact Or.inr (Or.inr rfl)) (hd : (x == ("__debug__" : Str)) = false := by decide)
    (hcd : (x == ("__classdict__" : Str)) = false := by decide) : PE X (.Name x pos) (tVar i) := pe_var hN hv hd hcd
end

/-! ### tests -/
theorem iteF {A B : Prop} (h : B) : if false = true then A else B := by
  rw [if_neg Bool.false_ne_true]
  exact h
theorem iteT {A B : Prop} (h : A) : if true = true then A else B := by
  rw [if_pos rfl]
  exact h
theorem ite2 {c A B : Prop} [Decidable c] (h1 : c → A) (h2 : ¬ c → B) : if c then A else B := by
  by_cases h : c
  · rw [if_pos h]
    exact h1 h
  · rw [if_neg h]
    exact h2 h
theorem iteNS {c A B : Prop} [Decidable c] (hc : c) (h : B) : if (!decide c) = true then A else B := by
  rw [decide_eq_true hc]
  exact iteF h

/-! ### heaps -/
/-- all that was tracked is as it was -/
def Same (H H' : Hp) : Prop := ∀ b o, H b = some o → H' b = some o
theorem Same.refl (H : Hp) : Same H H := fun _ _ h => h
theorem Same.trans {H H1 H2 : Hp} (a : Same H H1) (b : Same H1 H2) : Same H H2 := fun c o h => b c o (a c o h)
theorem Same.free {H H' : Hp} (e : Same H H') {l : Addr} (h : H' l = Option.none) : H l = Option.none := by
  cases q : H l with
  | none => rfl
  | some o =>
    rw [e l o q] at h
    cases h
theorem Same.seq {K : PySem.W.Frag} {H H' : Hp} {a : Addr} {xs : List V} (e : Same H H') (h : SqL K H a xs) : SqL K H' a xs := by
  rcases h with (h | ⟨o, h⟩) | h
  · exact .inl (.inl (e _ _ h))
  · exact .inl (.inr ⟨o, e _ _ h⟩)
  · exact .inr h

end L2

namespace L2
open PySem PySem.Spec PyProof.Rows

/-! ### comprehensions: a clause's body, the clauses, the block -/
/-- the body of a comprehension from some place on; N: what stands behind it -/
abbrev TB := St → Hp → (St → Hp → Prop) → Prop
/-- the tests of a clause -/
def PTs (X : Cx) (ifs : List Expr) (t : TT) : Prop :=
  ∀ (pins : List (Addr × Obj)) (s : Shared) (σ : St) (H : Hp) (Q : Bool → Hp → Prop), Inv X pins σ H s → t σ H Q →
    wpAny (model X.prog X.w) X.A (forIn ifs true fun c r => if r = true then do let ok ← isTrue c X.env (eval c X.env); pure (ForInStep.yield ok) else pure (ForInStep.yield r)) (TP X pins σ Q) X.xe s
def tYes : TT := fun _ H Q => Q true H
theorem pts_nil {X : Cx} : PTs X [] tYes := fun _ _ _ H _ I h => wpAny_tests_nil ⟨H, I, h⟩
theorem pts_one {X : Cx} {c : Expr} {t : TT} (h : PT X c t) : PTs X [c] t := fun pins s σ H Q I hq => wpAny_tests_one (h pins s σ H Q I hq)

def compAfter (elt : Expr) (gens : List Comprehension) (scope : Scope) (pos : Pos) (d : Nat) (it acc : Value) (env : Env) : Sem Fin :=
  match gens[d + 1]? with
  | some g' => do
    let x ← eval g'.iter env
    standAt g'.iter.pos
    let x ← if g'.is_async != 0 then foldedIterable g'.iter x else foldedSetIterable g'.iter env x
    let _ ← runOwn (.compStart (.ListComp elt gens scope pos) (d + 1) (← holding [x] (if g'.is_async != 0 then asyncIter x else pyIter x)) acc env) env
    again (.compLoop (.ListComp elt gens scope pos) d it acc env)
  | none => do
    (do let _ ← call (.builtin "list.append") [acc, ← eval elt env])
    again (.compLoop (.ListComp elt gens scope pos) d it acc env)

theorem compTurn_at (elt : Expr) (gens : List Comprehension) (scope : Scope) (pos : Pos) (d : Nat) (it acc : Value) (env : Env) (target iter : Expr) (ifs : List Expr) (hg : gens[d]? = some ⟨target, iter, ifs, 0⟩) :
    compTurn (.ListComp elt gens scope pos) d it acc env = (do
      standAt iter.pos
      match ← pyNext it with
      | none => pure (.done .next)
      | some v => do
        letOwnedTupleGo target it v
        assign target env v
        let ok ← forIn ifs true fun c r => if r = true then do let ok ← isTrue c env (eval c env); pure (ForInStep.yield ok) else pure (ForInStep.yield r)
        if ok then compAfter elt gens scope pos d it acc env
        else again (.compLoop (.ListComp elt gens scope pos) d it acc env)) := by
  unfold compTurn compAfter
  simp only [hg]
  rfl

def bWalk (J : It) (g : TG) (t : TT) (b : TB) (N : St → Hp → Prop) (σ : St) (H : Hp) : Prop :=
  ∃ W : Nat → Nat → St → Hp → Prop, (∃ m, W 0 m σ H) ∧ ∀ i m σ H, W i m σ H →
    (J.stop i H ∧ N σ H) ∨ (J.go i H ∧ ∃ N' : St → Hp → Prop, (∀ σ' H', N' σ' H' → ∃ m', m' < m ∧ W (i + 1) m' σ' H') ∧ ∀ x H', J.yld i H x H' → g x σ H' fun σ2 H2 => t σ2 H2 fun k H3 => if k = true then b σ2 H3 N' else N' σ2 H3)
/-- what stands behind the tests of a clause -/
def PAf (X : Cx) (elt : Expr) (gens : List Comprehension) (scope : Scope) (pos : Pos) (d : Nat) (it acc : Value) (b : TB) : Prop :=
  ∀ (pins : List (Addr × Obj)) (s : Shared) (σ : St) (H : Hp) (N : St → Hp → Prop), Inv X pins σ H s → b σ H N →
    wpAny (model X.prog X.w) X.A (compAfter elt gens scope pos d it acc X.env) (fun fin s' => fin = .again (.compLoop (.ListComp elt gens scope pos) d it acc X.env) ∧ ∃ σ' H', Inv X pins σ' H' s' ∧ N σ' H') X.xe s
section
variable {X : Cx} {elt tg iter : Expr} {ifs : List Expr} {gens : List Comprehension} {scope : Scope} {pos : Pos} {d : Nat} {acc : Value}
theorem comp_loop {g : TG} {t : TT} {b : TB} {N : St → Hp → Prop} {J : It} {fp : List Addr} {it : Addr} {tn : Nat → Heap → Prop} {pins : List (Addr × Obj)} {s : Shared} {σ : St} {H : Hp}
    (hx : X.xe = fun _ _ => False) (hc : X.calm = true) (hg : gens[d]? = some ⟨tg, iter, ifs, 0⟩) (hgt : PG X tg g) (ht : PTs X ifs t) (hb : PAf X elt gens scope pos d (.ref it) acc b)
    (T : Turn X.prog X.w X.K tg J fp it tn) (I : Inv X pins σ H s) (st : tn 0 s.heap) (f2 : ∀ b ∈ fp, FpOk X pins H b) (w : bWalk J g t b N σ H) :
    codeAny (model X.prog X.w) X.A (.compLoop (.ListComp elt gens scope pos) d (.ref it) acc X.env) (fun r s' => match r with | .ok _ => ∃ σ' H', Inv X pins σ' H' s' ∧ N σ' H' | .error _ => False) s := by
  obtain ⟨W, ⟨m0, w0⟩, turn⟩ := w
  have stat : ∀ {H' : Hp}, (∀ b ∈ fp, H' b = none) → ∀ b ∈ fp, FpOk X pins H' b := fun hn b hb => ⟨hn b hb, (f2 b hb).2⟩
  refine codeAny_loop rfl (fun n s' => ∃ i σ' H', Inv X pins σ' H' s' ∧ tn i s'.heap ∧ (∀ b ∈ fp, H' b = none) ∧ W i n σ' H') ?_ m0 ⟨0, σ, H, I, st, fun b hb => (f2 b hb).1, w0⟩
  rintro n s3 ⟨i, σ3, H3, I3, st3, fr3, w3⟩
  show wpAny _ X.A ((compTurn (.ListComp elt gens scope pos) d (.ref it) acc X.env).onRaise (fun x => do noteFrame x X.env; theTreesLotGoes x)) _ _ s3
  refine wpAny_noted ?_
  rw [compTurn_at _ _ _ _ _ _ _ _ _ _ _ hg]
  have weak : ∀ {α : Type} {m : Sem α} {Q Q' : α → Shared → Prop} {E' : Value → Shared → Prop} {s : Shared}, wpAny (model X.prog X.w) X.A m Q X.xe s → (∀ a s, Q a s → Q' a s) → wpAny (model X.prog X.w) X.A m Q' E' s := fun h hQ => by
    rw [hx] at h
    exact wpAny_mono h hQ fun _ _ z => False.elim z
  refine wpAny_bind (wpAny_standAt (wpAny_bind ?_))
  rcases turn i n σ3 H3 w3 with ⟨stop, qn⟩ | ⟨go, N', hN, step⟩
  · refine weak (T.done X rfl rfl rfl hc i pins s3 σ3 H3 X.xe I3 (stat fr3) st3 stop) fun r s4 ⟨hr, I4⟩ => ?_
    subst hr
    exact wpAny_pure ⟨σ3, H3, I4, qn⟩
  · refine weak (T.item X rfl rfl rfl hc i pins s3 σ3 H3 X.xe I3 (stat fr3) st3 go) fun r s4 ⟨u, hr, h4⟩ => ?_
    subst hr
    refine wpAny_bind (weak h4 fun _ s5 ⟨x, H5, I5, r5, y5, st5, fr5⟩ => ?_)
    have I5' := I5.pinned (stat fr5) (T.obj _ _ st5)
    refine wpAny_bind (weak (hgt _ s5 σ3 H5 x u _ I5' r5 (step x H5 y5)) fun _ s6 ⟨σ6, H6, I6, q6⟩ => ?_)
    refine wpAny_bind (weak (ht _ s6 σ6 H6 _ I6 q6) fun k s7 ⟨H7, I7, q7⟩ => ?_)
    have again : ∀ {s8 : Shared} {σ8 : St} {H8 : Hp}, Inv X (pins ++ pinsAt fp s5.heap) σ8 H8 s8 → N' σ8 H8 → ∃ m, m < n ∧ ∃ i σ' H', Inv X pins σ' H' s8 ∧ tn i s8.heap ∧ (∀ b ∈ fp, H' b = none) ∧ W i m σ' H' := fun {s8 σ8 H8} I8 n8 => by
      obtain ⟨m', hm, w8⟩ := hN σ8 H8 n8
      refine ⟨m', hm, i + 1, σ8, H8, I8.unpinned, T.keep _ _ _ st5 fun b hb o e => (I8.pin (b, o) (List.mem_append_right _ (List.mem_append_right _ (mem_pinsAt hb e)))).1, fun b hb => ?_, w8⟩
      obtain ⟨o, e, d⟩ := T.obj _ _ st5 b hb
      exact (I8.pin (b, o) (List.mem_append_right _ (List.mem_append_right _ (mem_pinsAt hb e)))).2.1
    cases k with
    | false => exact wpAny_pure ⟨rfl, again I7 q7⟩
    | true =>
      refine weak (hb _ s7 σ6 H7 N' I7 q7) fun fin s8 ⟨e, σ8, H8, I8, q8⟩ => ?_
      subst e
      exact ⟨rfl, again I8 q8⟩
/-- the start of a clause: it is asked for its iterator again -/
theorem comp_start {R : Result → Shared → Prop} {it : Value} {s : Shared} {env : Env} {P : Program} {w : World} {A : Around} (hg : gens[d]? = some ⟨tg, iter, ifs, 0⟩)
    (h0 : codeAny (model P w) A (.compLoop (.ListComp elt gens scope pos) d it acc env) R s)
    (h : wpAny (model P w) A (pyIter it) (fun it' s' => codeAny (model P w) A (.compLoop (.ListComp elt gens scope pos) d it' acc env) R s') (notedBy (model P w) A env fun x s' => R (.error x) s') s) :
    codeAny (model P w) A (.compStart (.ListComp elt gens scope pos) d it acc env) R s := by
  refine codeAny_of_tree ?_
  show wpAny _ _ ((compStart (.ListComp elt gens scope pos) d it acc env).onRaise (fun x => do noteFrame x env; standAt theWindowsPlace)) _ _ s
  refine wpAny_notedAt ?_
  unfold compStart
  show wpAny _ _ (if (gens[d]?).elim false (·.is_async != 0) = true then _ else _) _ _ s
  rw [hg]
  show wpAny _ _ (ask >>= _) _ _ s
  refine wpAny_bind (wpAny_askSetting (wpAny_ite ?_))
  split
  · first
      | exact wpAny_bind (wpAny_pure (wpAny_pure (And.intro rfl h0)))
      | exact wpAny_pure (And.intro rfl h0)
  · refine wpAny_bind (wpAny_rule ?_)
    dsimp only [clausesOf]
    rw [hg]
    exact wpAny_bind (wpAny_standAt (wpAny_bind (wpAny_mono h (fun it' s' h' => wpAny_pure (And.intro rfl h')) fun _ _ x => x)))
/-- the last clause: the element is put behind the list -/
def bEmit (acc : Addr) (te : TE) : TB := fun σ H N => te σ H fun x H1 => ∃ xs, H1 acc = some (.lst xs) ∧ xs.length < sizeLine ∧ N σ (upd H1 acc (.lst (xs ++ [x])))
theorem paf_emit {it : Value} {a : Addr} {te : TE} (h1 : gens[d + 1]? = none) (he : PE X elt te) : PAf X elt gens scope pos d it (.ref a) (bEmit a te) := by
  intro pins s σ H N I h
  unfold compAfter
  rw [h1]
  refine wpAny_bind (wpAny_bind (thn (he pins s σ H _ I h) fun v s1 ⟨x, H1, I1, r1, xs, e, z, q⟩ => ?_))
  refine wpAny_bind (thn (mt_append pins s1 σ H1 (.ref a) [x] (.ref a) [v] (fun _ H2 => N σ H2) I1 rfl (.cons r1 .nil) ⟨a, xs, x, rfl, rfl, e, z, q⟩) fun _ s2 ⟨_, H2, I2, _, q2⟩ => ?_)
  exact wpAny_pure (wpAny_pure ⟨rfl, σ, H2, I2, q2⟩)
end
end L2

namespace L2
open PySem PySem.Spec PyProof.Rows

theorem closure_of {env : Env} {scope : Scope} (h : ∀ x ∈ scope.names, x.2 = .free → ∃ c, env.cells.lookup x.1 = some c) :
    ∃ cl, closureFor scope env = pure cl ∧ (∀ x c, cl.lookup x = some c → env.cells.lookup x = some c) ∧ ∀ x ∈ scope.names, x.2 = .free → ∃ c, cl.lookup x.1 = some c := by
  have key : ∀ (names : List (Str × NameKind)) (acc : List (Str × Addr)), (∀ x ∈ names, x.2 = .free → ∃ c, env.cells.lookup x.1 = some c) → (∀ x c, acc.lookup x = some c → env.cells.lookup x = some c) →
      ∃ cl : List (Str × Addr), (forIn names acc fun (x : Str × NameKind) (r : List (Str × Addr)) => if (x.2 == NameKind.free) = true then do let a ← cellOf env x.1; pure (ForInStep.yield ((x.1, a) :: r)) else pure (ForInStep.yield r) : Sem (List (Str × Addr))) = pure cl ∧
        (∀ x c, cl.lookup x = some c → env.cells.lookup x = some c) ∧ (∀ x c, acc.lookup x = some c → ∃ c', cl.lookup x = some c') ∧ ∀ x ∈ names, x.2 = .free → ∃ c, cl.lookup x.1 = some c := by
    intro names
    induction names with
    | nil => intro acc _ ha; exact ⟨acc, rfl, ha, fun x c e => ⟨c, e⟩, fun _ z => nomatch z⟩
    | cons x r ih =>
      intro acc hn ha
      by_cases hk : (x.2 == NameKind.free) = true
      · obtain ⟨c, hc⟩ := hn x List.mem_cons_self (by simpa using hk)
        have ha' : ∀ y d, List.lookup y ((x.1, c) :: acc) = some d → env.cells.lookup y = some d := by
          intro y d e
          rw [List.lookup_cons] at e
          cases hy : y == x.1 with
          | true => rw [hy] at e; cases e; rw [beq_iff_eq.mp hy]; exact hc
          | false => rw [hy] at e; exact ha y d e
        obtain ⟨cl, e1, e2, e3, e4⟩ := ih ((x.1, c) :: acc) (fun y hy => hn y (List.mem_cons_of_mem _ hy)) ha'
        refine ⟨cl, ?_, e2, fun y d e => ?_, fun y hy hf => ?_⟩
        · rw [List.forIn_cons]
          simp only [hk, if_true, cellOf, hc]
          exact e1
        · cases hy : y == x.1 with
          | true => exact e3 y c (by rw [List.lookup_cons, hy])
          | false => exact e3 y d (by rw [List.lookup_cons, hy]; exact e)
        · rcases List.mem_cons.mp hy with rfl | hy
          · exact e3 y.1 c (by rw [List.lookup_cons, beq_self_eq_true])
          · exact e4 y hy hf
      · obtain ⟨cl, e1, e2, e3, e4⟩ := ih acc (fun y hy => hn y (List.mem_cons_of_mem _ hy)) ha
        refine ⟨cl, ?_, e2, e3, fun y hy hf => ?_⟩
        · rw [List.forIn_cons]
          simp only [hk, if_false]
          exact e1
        · rcases List.mem_cons.mp hy with rfl | hy
          · exact absurd (by simpa using hf) hk
          · exact e4 y hy hf
  obtain ⟨cl, e1, e2, _, e4⟩ := key scope.names [] h (fun _ _ z => by simp at z)
  refine ⟨cl, ?_, e2, e4⟩
  unfold closureFor
  show (forIn scope.names [] _ >>= fun cs => pure cs) = _
  exact (congrArg (fun m => m >>= fun cs => (pure cs : Sem _)) e1)
theorem relabel_free {env : Env} : ∀ {names : List (Str × NameKind)} {x : Str}, names.lookup x = some .free →
    ∃ k, (k = NameKind.cell ∨ k = NameKind.free) ∧ (names.map fun (n, k) => if (k == NameKind.free && env.scope.kind == .function && env.kindOf n == some .cell) then (n, NameKind.cell) else (n, k)).lookup x = some k
  | [], _, h => by simp at h
  | (n, k) :: r, x, h => by
    have ih := @relabel_free env r x
    show ∃ k', _ ∧ List.lookup x ((if (k == NameKind.free && env.scope.kind == .function && env.kindOf n == some .cell) = true then (n, NameKind.cell) else (n, k)) :: _) = _
    cases hx : x == n with
    | true =>
      simp only [List.lookup_cons, hx] at h
      cases h
      by_cases hc : (NameKind.free == NameKind.free && env.scope.kind == .function && env.kindOf n == some .cell) = true
      · rw [if_pos hc]; exact ⟨.cell, .inl rfl, by simp only [List.lookup_cons, hx]⟩
      · rw [if_neg hc]; exact ⟨.free, .inr rfl, by simp only [List.lookup_cons, hx]⟩
    | false =>
      simp only [List.lookup_cons, hx] at h
      obtain ⟨k', hk', e⟩ := ih h
      refine ⟨k', hk', ?_⟩
      by_cases hc : (k == NameKind.free && env.scope.kind == .function && env.kindOf n == some .cell) = true
      · rw [if_pos hc]; simp only [List.lookup_cons, hx]; exact e
      · rw [if_neg hc]; simp only [List.lookup_cons, hx]; exact e
theorem of_relabel {env : Env} : ∀ {names : List (Str × NameKind)} {x : Str} {k' : NameKind}, (k' = .cell ∨ k' = .free) → (∀ y ∈ names, y.2 ≠ .cell) →
    (names.map fun (n, k) => if (k == NameKind.free && env.scope.kind == .function && env.kindOf n == some .cell) then (n, NameKind.cell) else (n, k)).lookup x = some k' → (x, NameKind.free) ∈ names
  | [], _, _, _, _, h => by simp at h
  | (n, k) :: r, x, k', hk', hc, h => by
    have h2 : List.lookup x ((if (k == NameKind.free && env.scope.kind == .function && env.kindOf n == some .cell) = true then (n, NameKind.cell) else (n, k)) :: (r.map fun (n, k) => if (k == NameKind.free && env.scope.kind == .function && env.kindOf n == some .cell) then (n, NameKind.cell) else (n, k))) = some k' := h
    have ih := @of_relabel env r x k' hk' (fun y hy => hc y (List.mem_cons_of_mem _ hy))
    cases hx : x == n with
    | true =>
      have e : x = n := beq_iff_eq.mp hx
      subst e
      by_cases hk : k = .free
      · subst hk; exact List.mem_cons_self
      · have hkf : (k == NameKind.free) = false := by simpa using hk
        simp only [hkf, Bool.false_and, Bool.false_eq_true, if_false, List.lookup_cons, beq_self_eq_true, Option.some.injEq] at h2
        subst h2
        rcases hk' with z | z
        · exact absurd z (hc (x, k) List.mem_cons_self)
        · exact absurd z hk
    | false =>
      refine List.mem_cons_of_mem _ (ih ?_)
      by_cases hcc : (k == NameKind.free && env.scope.kind == .function && env.kindOf n == some .cell) = true
      · rw [if_pos hcc] at h2; simp only [List.lookup_cons, hx] at h2; exact h2
      · rw [if_neg hcc] at h2; simp only [List.lookup_cons, hx] at h2; exact h2
end L2

namespace L2
open PySem PySem.Spec PyProof.Rows

/-- the slots of a comprehension's block: for each of its names the outer slot that it is caught from, or none (its own) -/
def capt (cap : List (Option Nat)) (σ : St) : St := cap.map fun o => match o with | some i => (σ[i]?).join | none => none
def blkOk (No : List Str) (sc : Scope) (N : List Str) (cap : List (Option Nat)) (scope : Scope) : Bool :=
  scope.kind == .function && cap.length == N.length
    && scope.names.all (fun y => y.2 != .cell && (y.2 != .local || scope.names.lookup y.1 == some .local) && (y.2 != .free || (sc.names.lookup y.1 == some .cell || sc.names.lookup y.1 == some .free)))
    && (cap.zip N).all (fun p => match p.1 with | none => true | some i => No[i]? == some p.2 && scope.names.lookup p.2 == some .free)
structure BlkOk (No : List Str) (sc : Scope) (N : List Str) (cap : List (Option Nat)) (scope : Scope) : Prop where
  kind : scope.kind = .function
  len : cap.length = N.length
  cell : ∀ y ∈ scope.names, y.2 ≠ .cell
  names : ∀ y ∈ scope.names, y.2 = .local → scope.names.lookup y.1 = some .local
  free : ∀ y ∈ scope.names, y.2 = .free → sc.names.lookup y.1 = some .cell ∨ sc.names.lookup y.1 = some .free
  cap : ∀ (j i : Nat) (x : Str), cap[j]? = some (some i) → N[j]? = some x → No[i]? = some x ∧ scope.names.lookup x = some .free
theorem blk_of {No : List Str} {sc : Scope} {N : List Str} {cap : List (Option Nat)} {scope : Scope} (h : blkOk No sc N cap scope = true) : BlkOk No sc N cap scope := by
  unfold blkOk at h
  simp only [Bool.and_eq_true, List.all_eq_true, beq_iff_eq, bne_iff_ne, Bool.or_eq_true] at h
  obtain ⟨⟨⟨h1, h2⟩, h3⟩, h4⟩ := h
  refine ⟨h1, h2, fun y hy => (h3 y hy).1.1, fun y hy hl => ?_, fun y hy hf => ?_, fun j i x e1 e2 => ?_⟩
  · rcases (h3 y hy).1.2 with z | z
    · exact absurd hl z
    · exact z
  · rcases (h3 y hy).2 with z | z
    · exact absurd hf z
    · exact z
  · have hm : (some i, x) ∈ cap.zip N := by
      refine List.mem_of_getElem? (i := j) ?_
      rw [List.getElem?_zip_eq_some]
      exact ⟨e1, e2⟩
    have := h4 _ hm
    simpa using this
abbrev Cx.blk (X : Cx) (N : List Str) (scope : Scope) (cl : List (Str × Addr)) (C : Addr) (s3 : Shared) (H3 : Hp) (fp : List Addr) : Cx :=
  { X with N := N, s₀ := s3, H₀ := H3, env := compEnvC scope cl C X.env, outer := X.stack, ex := fp, fn := fun _ => false, pn := [], xe := fun _ _ => False }
section
variable {X : Cx} {N : List Str} {cap : List (Option Nat)} {scope : Scope} {cl : List (Str × Addr)} {C : Addr} {s3 : Shared} {H3 : Hp} {fp : List Addr} {pins : List (Addr × Obj)} {σ : St}
theorem blk_in {h4 : Heap} {m : Str → Option Value} {tk : Nat} (I : Inv X pins σ H3 s3) (ok : BlkOk X.N X.env.scope N cap scope)
    (cl1 : ∀ x c, cl.lookup x = some c → X.env.cells.lookup x = some c) (cl2 : ∀ x ∈ scope.names, x.2 = .free → ∃ c, cl.lookup x.1 = some c)
    (hf : ∀ b ∈ fp, FpOk X pins H3 b ∧ b < s3.heap.objs.size) (hC : s3.heap.objs.size = C) (hn : h4.Ns C m) (hk : ∀ b o, s3.heap.get? b = some o → h4.get? b = some o) :
    Inv (X.blk N scope cl C s3 H3 fp) [] (capt cap σ) H3 { s3 with heap := h4, toks := tk } := by
  have ltC : ∀ b o, s3.heap.get? b = some o → b ≠ C := fun b o e => Nat.ne_of_lt (hC ▸ Heap.lt_size e)
  have cellK : ∀ x c, cl.lookup x = some c → ∃ v, h4.IsCell c v := fun x c e => by
    obtain ⟨v, o, ho, hd⟩ := I.cell x c (cl1 x c e)
    exact ⟨v, o, hk c o ho, hd⟩
  have fr : H3 C = none := I.hok.fresh (Nat.le_of_eq hC)
  refine ⟨⟨I.ok.mod, ?_, I.ok.glob, I.ok.blt, ?_, fun x y c e1 e2 => I.ok.inj x y c (cl1 _ _ e1) (cl1 _ _ e2), fun x hx => ?_, (fun x c z => nomatch z), I.ok.hd, I.ok.frames, .inl rfl, fun b hb => ⟨?_, fun x c e => ?_⟩,
    I.bs, Nat.le_trans I.ok.bsz I.sz, fun b o e hb => ?_, fun b hb hb2 => ?_, I.stack, I.stkFree⟩, rfl, I.bare, Un.kept hk, ⟨m, hn, fun j x v e1 e2 e3 => ?_⟩, cellK, fr, fun x c e => I.freeC x c (cl1 x c e), fun p hp => ?_, I.hok.kept hk, ?_⟩
  · exact ok.kind
  · exact Nat.le_of_eq hC
  · have hx' : ∃ k', (k' = NameKind.cell ∨ k' = NameKind.free) ∧ (relabel scope X.env).names.lookup x = some k' := by
      rcases hx with z | z
      · exact ⟨_, .inl rfl, z⟩
      · exact ⟨_, .inr rfl, z⟩
    obtain ⟨k', hk', z⟩ := hx'
    exact cl2 (x, .free) (of_relabel hk' ok.cell z) rfl
  · exact Nat.ne_of_lt (hC ▸ (hf b hb).2)
  · exact (hf b hb).1.2.2.2.2.1 x c (cl1 x c e)
  · rcases (hf b hb).1.2.2.2.1 with z | z
    · exact I.ok.noex b o e z
    · exact absurd (Nat.lt_of_lt_of_le (Heap.lt_size e) (Nat.le_trans I.ok.bsz z)) (Nat.lt_irrefl _)
  · rcases List.mem_cons.mp (I.stkSub b hb2) with z | z
    · exact (hf b hb).1.2.1 z
    · exact (hf b hb).1.2.2.1 z
  · unfold capt at e2
    rw [List.getElem?_map] at e2
    cases hj : cap[j]? with
    | none => rw [hj] at e2; cases e2
    | some o =>
      rw [hj] at e2
      cases o with
      | none => cases e2
      | some i =>
        obtain ⟨h1, h2⟩ := ok.cap j i x hj e1
        have e2' : (σ[i]?).join = some v := Option.some.inj e2
        have e4 : σ[i]? = some (some v) := by
          cases hs : σ[i]? with
          | none => rw [hs] at e2'; cases e2'
          | some o => rw [hs] at e2'; exact congrArg some e2'
        have hmem : (x, NameKind.free) ∈ scope.names := by
          have key : ∀ (l : List (Str × NameKind)), l.lookup x = some NameKind.free → (x, NameKind.free) ∈ l := by
            intro l
            induction l with
            | nil => intro z; simp at z
            | cons y r ih =>
              intro z
              rw [List.lookup_cons] at z
              cases hxy : x == y.1 with
              | true => rw [hxy] at z; have := beq_iff_eq.mp hxy; have z2 : y.2 = .free := Option.some.inj z; rw [this, ← z2]; exact List.mem_cons_self
              | false => rw [hxy] at z; exact List.mem_cons_of_mem _ (ih z)
          exact key _ h2
        have hout := ok.free _ hmem rfl
        obtain ⟨m', hn', hl'⟩ := I.loc
        obtain ⟨u, r, l⟩ := hl' i x v h1 e4 (.inr hout)
        refine ⟨u, r, .inr ⟨?_, ?_⟩⟩
        · obtain ⟨k', hk', e⟩ := relabel_free (env := X.env) h2
          rcases hk' with rfl | rfl
          · exact .inl e
          · exact .inr e
        · rcases l with ⟨kl, _⟩ | ⟨_, c, hc, o, ho, hd⟩
          · rcases hout with z | z
            · rw [show X.env.kindOf x = some .cell from z] at kl; cases kl
            · rw [show X.env.kindOf x = some .free from z] at kl; cases kl
          · obtain ⟨c', hc'⟩ := cl2 _ hmem rfl
            have e := cl1 _ _ hc'
            have e' : X.env.cells.lookup x = some c' := e
            rw [hc] at e'
            cases e'
            exact ⟨c, hc', o, hk c o ho, hd⟩
  · exact nomatch hp
  · unfold capt; rw [List.length_map]; exact ok.len
theorem blk_out {σ' : St} {H' : Hp} {s' : Shared} {h' : Heap} (I : Inv X pins σ H3 s3) (I' : Inv (X.blk N scope cl C s3 H3 fp) [] σ' H' s') (hf : ∀ b ∈ fp, FpOk X pins H3 b) (hs : Heap.SameBut C s'.heap h') (hC : s3.heap.objs.size = C) :
    Inv X pins σ H' { s' with heap := h' } := by
  have hb := I'.base
  have neC : ∀ b o, s3.heap.get? b = some o → b ≠ C := fun b o e => Nat.ne_of_lt (hC ▸ Heap.lt_size e)
  have ext : ∀ b o, b ≠ C → s'.heap.get? b = some o → h'.get? b = some o := fun b o n e => hs.extBut b o n e
  refine I.call' (ch := fp) I'.os ⟨fun b o e n h1 h2 => ext b o (neC b o e) (hb.keep b o e n h1 h2), fun b o e n h1 h2 => ?_, fun b o e n h2 => hb.free b o e n h2, fun b o e h2 => ?_, hb.tups, hb.frzs, hb.tbls⟩ (fun b u e => ?_) I'.bare fun b hb => ?_
  · obtain ⟨sl, q⟩ := hb.slot b o e n h1 h2
    exact ⟨sl, ext b _ (neC b o e) q⟩
  · obtain ⟨o', q⟩ := hb.there b o e h2
    exact ⟨o', ext b o' (neC b o e) q⟩
  · have fr : H' C = none := I'.free
    refine (I'.hok b u e).stay (fun c v hc q => ext c v ?_ q) (fun _ q => q) fun _ _ q => q
    rintro rfl
    rcases hc with z | z
    · rw [← z, fr] at e; cases e
    · rw [fr] at z; cases z
  · obtain ⟨f0, f1, f2, f3, f4, f5⟩ := hf b hb
    exact ⟨f3, f1, f4, f5⟩
end
end L2

namespace L2
open PySem PySem.Spec PyProof.Rows

def tComp (wi : TI) (cap : List (Option Nat)) (g : TG) (t : TT) (b : Addr → TB) : TE := fun σ H Q =>
  wi σ H fun J H1 => ∀ acc, H1 acc = none → bWalk J g t (b acc) (fun _ H2 => Q (.ref acc) H2) (capt cap σ) (upd H1 acc (.lst []))
section
variable {X : Cx} {elt tg iter : Expr} {ifs : List Expr} {rest : List Comprehension} {scope : Scope} {pos : Pos} {N : List Str} {cap : List (Option Nat)} {wi : TI} {g : TG} {t : TT} {b : Addr → TB}
/-- the block, from its iterator on; RR: what is wanted behind it -/
theorem comp_block {pins : List (Addr × Obj)} {σ : St} {Q : VK} {s2 : Shared} {itv : Value} {cl : List (Str × Addr)} {RR : Value → Addr → Result → Shared → Prop} (hc : X.calm = true) (ok : BlkOk X.N X.env.scope N cap scope)
    (cl1 : ∀ x c, cl.lookup x = some c → X.env.cells.lookup x = some c) (cl2 : ∀ x ∈ scope.names, x.2 = .free → ∃ c, cl.lookup x.1 = some c)
    (hb : ∀ cl C s3 H3 fp, PG (X.blk N scope cl C s3 H3 fp) tg g ∧ PTs (X.blk N scope cl C s3 H3 fp) ifs t ∧ ∀ it acc, PAf (X.blk N scope cl C s3 H3 fp) elt (⟨tg, iter, ifs, 0⟩ :: rest) scope pos 0 (.ref it) (.ref acc) (b acc))
    (h : PIE X pins σ tg (fun J H1 => ∀ acc, H1 acc = none → bWalk J g t (b acc) (fun _ H2 => Q (.ref acc) H2) (capt cap σ) (upd H1 acc (.lst []))) itv s2)
    (hR : ∀ (acc C : Addr) (H' : Hp) (s' : Shared) (m : Str → Option Value), s'.heap.Ns C m → H' C = none → X.s₀.heap.objs.size ≤ C → C ≠ X.env.locals → (∀ x c, X.env.cells.lookup x = some c → c ≠ C) → (∀ p ∈ X.pn ++ pins, p.1 ≠ C) → (∀ h', Heap.SameBut C s'.heap h' → Inv X pins σ H' { s' with heap := h' }) → Q (.ref acc) H' → RR (.ref acc) C (.ok .next) s') :
    wpAny (model X.prog X.w) X.A (newList []) (fun acc s₃ => wpAny (model X.prog X.w) X.A (newFunctionEnv scope X.env.globals cl [] X.env.qual none .none (some X.env)) (fun cenv s₄ =>
      codeAny (model X.prog X.w) X.A (.compStart (.ListComp elt (⟨tg, iter, ifs, 0⟩ :: rest) scope pos) 0 itv acc { cenv with scope := relabel scope X.env }) (fun r s' => match r with | .ok _ => RR acc cenv.locals (.ok .next) s' | .error _ => False) s₄) X.xe s₃) X.xe s2 := by
  obtain ⟨it, fp, tn, J, H2, e, I2, T, st2, f2, q⟩ := h
  subst e
  refine wpAny_newObj_type (wpAny_newFunctionEnv ok.cell (by intro y hy; simp at hy) (fun h₁ hns₁ hsb₁ => ?_) ok.kind)
  dsimp only at hns₁ hsb₁ ⊢
  have I3 := I2.lnew (its := []) (ys := []) (t' := s2.toks) .nil (Nat.zero_le _)
  have fr : H2 s2.heap.objs.size = none := I2.hok.fresh (Nat.le_refl _)
  have hlt : ∀ b ∈ fp, b < s2.heap.objs.size := fun b hb => by
    obtain ⟨o, e, _⟩ := T.obj 0 _ st2 b hb
    exact Heap.lt_size e
  generalize hS3 : ({ s2 with heap := s2.heap.push { cls := .type "list", dict := none, data := .seq ([] : List Value).toArray } } : Shared) = s3 at *
  have hS : s3.heap = s2.heap.push { cls := .type "list", dict := none, data := .seq ([] : List Value).toArray } := by rw [← hS3]
  have hsz : s3.heap.objs.size = s2.heap.objs.size + 1 := by rw [hS, Heap.size_push]
  have I3' : Inv X pins σ (upd H2 s2.heap.objs.size (.lst [])) s3 := I3
  have hf3 : ∀ b ∈ fp, FpOk X pins (upd H2 s2.heap.objs.size (.lst [])) b ∧ b < s3.heap.objs.size := fun b hb => by
    have hl := hlt b hb
    refine ⟨⟨?_, (f2 b hb).2⟩, ?_⟩
    · rw [upd_ne (Nat.ne_of_lt hl)]; exact (f2 b hb).1
    · rw [hsz]; exact Nat.lt_succ_of_lt hl
  rw [← hS] at hns₁ hsb₁
  have kp : ∀ b o, s3.heap.get? b = some o → h₁.get? b = some o := fun b o e => hsb₁.extBut b o (Nat.ne_of_lt (Heap.lt_size e)) (Heap.get?_push_of_some _ e)
  have kp2 : ∀ b o, s2.heap.get? b = some o → h₁.get? b = some o := fun b o e => kp b o (by rw [hS]; exact Heap.get?_push_of_some _ e)
  rw [← hS]
  obtain ⟨hb1, hb2, hb3⟩ := hb cl s3.heap.objs.size s3 (upd H2 s2.heap.objs.size (.lst [])) fp
  have e4 : ∀ tk, ({ s2 with heap := h₁, toks := tk } : Shared) = { s3 with heap := h₁, toks := tk } := fun tk => by rw [← hS3]
  show codeAny _ _ (.compStart _ 0 (.ref it) (.ref s2.heap.objs.size) (compEnvC scope cl s3.heap.objs.size X.env)) _ _
  have I4 : Inv (X.blk N scope cl s3.heap.objs.size s3 (upd H2 s2.heap.objs.size (.lst [])) fp) [] (capt cap σ) (upd H2 s2.heap.objs.size (.lst [])) { s3 with heap := h₁, toks := s3.toks } :=
    blk_in (tk := s3.toks) I3' ok cl1 cl2 hf3 rfl hns₁ kp
  have f4 : ∀ b ∈ fp, FpOk (X.blk N scope cl s3.heap.objs.size s3 (upd H2 s2.heap.objs.size (.lst [])) fp) [] (upd H2 s2.heap.objs.size (.lst [])) b := fun b hb => by
    obtain ⟨⟨g0, g1, g2, g3, g4, g5⟩, g6⟩ := hf3 b hb
    refine ⟨g0, Nat.ne_of_lt g6, fun z => ?_, .inl hb, fun x c e => g4 x c (cl1 x c e), fun p hp => nomatch hp⟩
    rcases List.mem_cons.mp (I3'.stkSub b z) with z | z
    · exact g1 z
    · exact g2 z
  have st4 : tn 0 h₁ := T.keep 0 _ _ st2 fun b hb o e => kp2 b o e
  have lp : ∀ s4 : Shared, s4 = { s3 with heap := h₁, toks := s3.toks } → codeAny (model X.prog X.w) X.A (.compLoop (.ListComp elt (⟨tg, iter, ifs, 0⟩ :: rest) scope pos) 0 (.ref it) (.ref s2.heap.objs.size) (compEnvC scope cl s3.heap.objs.size X.env)) (fun r s' => match r with | .ok _ => RR (.ref s2.heap.objs.size) s3.heap.objs.size (.ok .next) s' | .error _ => False) s4 := by
    intro s4 e4
    rw [e4]
    have lp := comp_loop (X := X.blk N scope cl s3.heap.objs.size s3 (upd H2 s2.heap.objs.size (.lst [])) fp) (d := 0) (N := fun _ H2' => Q (.ref s2.heap.objs.size) H2') rfl hc rfl hb1 hb2 (hb3 it s2.heap.objs.size) T I4 st4 f4 (q _ fr)
    refine codeAny_mono lp fun r s' hr => ?_
    cases r with
    | error e => exact hr
    | ok f =>
      obtain ⟨σ', H', I', q'⟩ := hr
      obtain ⟨m, hn, _⟩ := I'.loc
      exact hR _ _ H' s' m hn I'.free I3'.sz (Nat.ne_of_gt I3'.lt) (fun x c e => by
        obtain ⟨v, z⟩ := I3'.cell x c e
        exact Nat.ne_of_lt z.lt) (fun p hp => Nat.ne_of_lt (Heap.lt_size (I3'.pin p hp).1)) (fun h' hs => blk_out I3' I' (fun b hb => (hf3 b hb).1) hs rfl) q'
  refine comp_start rfl (lp _ ?_) (T.self _ 0 _ _ _ st4 (lp _ ?_))
  · rw [← hS3]; rfl
  · rw [← hS3]; rfl

theorem clos_of {pins : List (Addr × Obj)} {σ : St} {H : Hp} {s : Shared} (I : Inv X pins σ H s) (ok : BlkOk X.N X.env.scope N cap scope) :
    ∃ cl, closureFor scope X.env = pure cl ∧ (∀ x c, cl.lookup x = some c → X.env.cells.lookup x = some c) ∧ ∀ x ∈ scope.names, x.2 = .free → ∃ c, cl.lookup x.1 = some c :=
  closure_of fun x hx hf => I.ok.has x.1 (ok.free x hx hf)

/-- [elt for tg in iter if .. for ..] -/
theorem pe_comp (hc : X.calm = true) (hok : blkOk X.N X.env.scope N cap scope = true) (hi : PI X tg iter wi)
    (hb : ∀ cl C s3 H3 fp, PG (X.blk N scope cl C s3 H3 fp) tg g ∧ PTs (X.blk N scope cl C s3 H3 fp) ifs t ∧ ∀ it acc, PAf (X.blk N scope cl C s3 H3 fp) elt (⟨tg, iter, ifs, 0⟩ :: rest) scope pos 0 (.ref it) (.ref acc) (b acc))
    (hs : ∀ x, foldedSetIterable iter X.env x = pure x := by intro _; rfl) : PE X (.ListComp elt (⟨tg, iter, ifs, 0⟩ :: rest) scope pos) (tComp wi cap g t b) := by
  intro pins s σ H Q I h
  have ok := blk_of hok
  obtain ⟨cl, e0, cl1, cl2⟩ := clos_of I ok
  rw [eval_ListComp]
  refine wpAny_comprehension_free (use := none) rfl hs e0 ok.kind ok.names (thn (hi pins s σ H _ I h) fun v s1 h1 => thn h1 fun itv s2 h2 => ?_)
  refine thn (comp_block (RR := fun acc C => compPost (model X.prog X.w) X.A X.xe none (EP X pins σ Q) acc C) hc ok cl1 cl2 hb h2 ?_) fun acc s3 h3 => thn h3 fun cenv s4 h4 => codeAny_mono h4 fun r s' hr => ?_
  · intro acc C H' s' m hn _ _ _ _ _ hI q
    exact ⟨m, hn, fun h' hs' => ⟨.ref acc, H', hI h' hs', rfl, q⟩⟩
  · cases r with
    | ok f => exact hr
    | error e => exact False.elim hr
/-- x = [elt for ..] where the store stands ahead of the block's end -/
theorem ps_setComp {i : Nat} {y : Str} {py spos : Pos} (hc : X.calm = true) (hok : blkOk X.N X.env.scope N cap scope = true) (hN : X.N.Nodup) (hy : X.N[i]? = some y) (hx : X.env.scope.names.lookup y = some .local) (hi : PI X tg iter wi)
    (hb : ∀ cl C s3 H3 fp, PG (X.blk N scope cl C s3 H3 fp) tg g ∧ PTs (X.blk N scope cl C s3 H3 fp) ifs t ∧ ∀ it acc, PAf (X.blk N scope cl C s3 H3 fp) elt (⟨tg, iter, ifs, 0⟩ :: rest) scope pos 0 (.ref it) (.ref acc) (b acc))
    (hs : ∀ x, foldedSetIterable iter X.env x = pure x := by intro _; rfl)
    (hsw : swapsWith (.ListComp elt (⟨tg, iter, ifs, 0⟩ :: rest) scope pos) (some (.Name y py)) spos.line X.env = pure true := by rfl) :
    PS X (.Assign [.Name y py] (.ListComp elt (⟨tg, iter, ifs, 0⟩ :: rest) scope pos) spos) (tAsg (tComp wi cap g t b) (gName i)) := by
  intro pins s σ H D I h
  have ok := blk_of hok
  obtain ⟨cl, e0, cl1, cl2⟩ := clos_of I ok
  rw [exec_Assign_Name_used _ _ _ _ hsw]
  refine wpAny_bind (wpAny_standAt (wpAny_bind ?_))
  show wpAny _ X.A (do let _ ← comprehension (.ListComp elt (⟨tg, iter, ifs, 0⟩ :: rest) scope pos) scope X.env _ (newList []) false (eval iter X.env) (some (assign (.Name y py) X.env))) _ _ s
  refine wpAny_bind (wpAny_mono (wpAny_comprehension_free (use := some (assign (.Name y py) X.env)) (Q := fun _ s' => SP X pins D .next s') rfl hs e0 ok.kind ok.names
    (thn (hi pins s σ H _ I h) fun v s1 h1 => thn h1 fun itv s2 h2 => ?_)) (fun _ s' hq => wpAny_pure (wpAny_pure hq)) fun _ _ e => e)
  refine thn (comp_block (RR := fun acc C => compPost (model X.prog X.w) X.A X.xe (some (assign (.Name y py) X.env)) (fun _ s' => SP X pins D .next s') acc C) (Q := fun v H2 => D.nx (σ.set i (some v)) H2) hc ok cl1 cl2 hb h2 ?_) fun acc s3 h3 => thn h3 fun cenv s4 h4 => codeAny_mono h4 fun r s' hr => ?_
  · intro acc C H' s' m hn hfr hC1 hC2 hC3 hC4 hI q
    have I' : Inv X pins σ H' s' := hI s'.heap (.refl ..)
    show wpAny _ _ (assign (.Name y py) X.env (.ref acc)) _ _ s'
    refine wpAny_assign_Name (store_ok2 I' hN hy (.inl hx) (v := .ref acc) rfl (fun s2 I2 ⟨a, hsa, ha⟩ => ?_) (.inr hx))
    have haC : C ≠ a := by
      rcases ha with z | z
      · rw [z]; exact hC2
      · exact Ne.symm (hC3 y a z)
    refine ⟨m, hn.sameBut hsa haC, fun h' hs' => ?_⟩
    exact ⟨_, H', I2.turned (it := C) (t' := s2.toks) (fun b o hb e => hs'.extBut b o hb e) hfr hC2 (.inr hC1) hC3 hC4, q⟩
  · cases r with
    | ok f => exact hr
    | error e => exact False.elim hr
end
end L2

namespace L2
open PySem PySem.Spec PyProof.Rows

/-! ### zip of two lists or tuples -/
/-- the iterator at it over the sequence at l, k items taken: of a tuple (b), of a list -/
def ZI (b : Bool) (h : Heap) (it l : Addr) (k : Nat) : Prop := ∃ o, h.get? it = some o ∧ o.cls = .type (if b then "tuple_iterator" else "list_iterator") ∧ o.data = .fields #[.ref l, .int k 0]
def ZS (b : Bool) (h : Heap) (l : Addr) (xs : Array Value) : Prop := ∃ o, h.get? l = some o ∧ o.cls = .type (if b then "tuple" else "list") ∧ ∃ n, o.data = .seq xs n
theorem ZI.at {b : Bool} {h h' : Heap} {it l : Addr} {k : Nat} (z : ZI b h it l k) (e : ∀ o, h.get? it = some o → h'.get? it = some o) : ZI b h' it l k := let ⟨o, ho, r⟩ := z; ⟨o, e o ho, r⟩
theorem ZS.at {b : Bool} {h h' : Heap} {l : Addr} {xs : Array Value} (z : ZS b h l xs) (e : ∀ o, h.get? l = some o → h'.get? l = some o) : ZS b h' l xs := let ⟨o, ho, r⟩ := z; ⟨o, e o ho, r⟩
section
variable {P : Program} {w : World} {A : Around} {E : Value → Shared → Prop} {s : Shared}
theorem nextOf_tup_item {it t : Addr} {i : Nat} {items : Array Value} {x : Value} {Q : Value → Shared → Prop} (hit : s.heap.IsTupleIter it t i) (ht : s.heap.IsTuple t items) (hx : items[i]? = some x)
    (hQ : ∀ h', h'.IsTupleIter it t (i + 1) → Heap.SameBut it s.heap h' → Q x { s with heap := h' }) : wpAny (model P w) A (Builtin.SmallTypes.nextOf (.ref it)) Q E s := by
  obtain ⟨o, ho, hc, hd⟩ := id hit
  obtain ⟨ol, hol, _, nl, hdl⟩ := ht
  unfold Builtin.SmallTypes.nextOf
  refine wpAny_bind (wpAny_callSpecial?_slot (name := Str.ofString "__next__") hit.typeIs F.slot_tuple_iterator_next (wpAny_call_entry F.slot_tuple_iterator_next hit.typeIs F.entry_tuple_iterator_next ?_ (F.args_tuple_iterator_next_1 _)))
  show wpAny _ _ (field (.ref it) 0 >>= _) _ _ s
  refine wpAny_bind (wpAny_field ho hd (x := .ref t) rfl ?_)
  show wpAny _ _ (if (Value.ref t == Value.none) = true then _ else _) _ _ s
  rw [if_neg (show ¬ ((Value.ref t == Value.none) = true) from Bool.false_ne_true)]
  show wpAny _ _ (field (.ref it) 1 >>= _) _ _ s
  refine wpAny_bind (wpAny_field ho hd (x := .int i 0) rfl ?_)
  show wpAny _ _ (seqItems? (.ref t) >>= _) _ _ s
  refine wpAny_bind (wpAny_seqItems hol hdl ?_)
  simp only [Int.toNat_natCast, hx]
  refine wpAny_bind (wpAny_setField ho hd (by simp) (wpAny_pure ⟨x, rfl, wpAny_pure (hQ _ ?_ (Heap.SameBut.update ..))⟩))
  exact ⟨_, Heap.get?_update_self _ ho (Obj.isFreed_of_fields (Obj.data_mapFields hd _)), (Obj.cls_mapFields ..).trans hc, by rw [Obj.data_mapFields hd]; simp [rawInt]⟩
theorem nextOf_tup_end {it t : Addr} {i : Nat} {items : Array Value} {Q : Value → Shared → Prop} (hh : A.handled = none) (hit : s.heap.IsTupleIter it t i) (ht : s.heap.IsTuple t items) (hx : items[i]? = none)
    (hE : ∀ h' e, Heap.ExtBut it s.heap h' → (∃ o, h'.get? e = some o ∧ o.cls = .type "StopIteration") → E (.ref e) { s with heap := h' }) : wpAny (model P w) A (Builtin.SmallTypes.nextOf (.ref it)) Q E s := by
  obtain ⟨o, ho, hc, hd⟩ := id hit
  obtain ⟨ol, hol, _, nl, hdl⟩ := ht
  unfold Builtin.SmallTypes.nextOf
  refine wpAny_bind (wpAny_callSpecial?_slot (name := Str.ofString "__next__") hit.typeIs F.slot_tuple_iterator_next (wpAny_call_entry F.slot_tuple_iterator_next hit.typeIs F.entry_tuple_iterator_next ?_ (F.args_tuple_iterator_next_1 _)))
  show wpAny _ _ (field (.ref it) 0 >>= _) _ _ s
  refine wpAny_bind (wpAny_field ho hd (x := .ref t) rfl ?_)
  show wpAny _ _ (if (Value.ref t == Value.none) = true then _ else _) _ _ s
  rw [if_neg (show ¬ ((Value.ref t == Value.none) = true) from Bool.false_ne_true)]
  show wpAny _ _ (field (.ref it) 1 >>= _) _ _ s
  refine wpAny_bind (wpAny_field ho hd (x := .int i 0) rfl ?_)
  show wpAny _ _ (seqItems? (.ref t) >>= _) _ _ s
  refine wpAny_bind (wpAny_seqItems hol hdl ?_)
  simp only [Int.toNat_natCast, hx]
  refine wpAny_bind (wpAny_rule (wpAny_bind (wpAny_setField ho hd (by simp) ?_)))
  show wpAny _ _ (newExc (.type "StopIteration") [] >>= _) _ _ _
  refine wpAny_bind ?_
  simp only [newExc, newTuple]
  refine wpAny_bind (wpAny_newObj_type ?_ (by size_fits))
  refine wpAny_bind (m := firstArgMember _ _) (wpAny_of_eq (a := Value.none) (by first | rfl | (simp only [firstArgMember]; rfl)) ?_)
  refine wpAny_newObj_type ?_ (by size_fits)
  simp only [raiseNew]
  refine wpAny_bind (wpAny_handled ?_)
  first | rw [show A.in1.handled = none from hh] | rw [hh]
  refine wpAny_bind (wpAny_pure (wpAny_throw ?_))
  exact hE _ _ (((Heap.SameBut.update ..).extBut.push _).push _) ⟨_, Heap.get?_push_size _ rfl, rfl⟩
theorem nextOf_item {b : Bool} {it l : Addr} {k : Nat} {xs : Array Value} {x : Value} {Q : Value → Shared → Prop} (hi : ZI b s.heap it l k) (hs : ZS b s.heap l xs) (hx : xs[k]? = some x)
    (hQ : ∀ h', ZI b h' it l (k + 1) → Heap.SameBut it s.heap h' → Q x { s with heap := h' }) : wpAny (model P w) A (Builtin.SmallTypes.nextOf (.ref it)) Q E s := by
  cases b with
  | true => exact nextOf_tup_item hi hs hx hQ
  | false => exact wpAny_nextOf_list_item hi hs hx hQ
theorem nextOf_end {b : Bool} {it l : Addr} {k : Nat} {xs : Array Value} {Q : Value → Shared → Prop} (hh : A.handled = none) (hi : ZI b s.heap it l k) (hs : ZS b s.heap l xs) (hx : xs[k]? = none)
    (hE : ∀ h' e, Heap.ExtBut it s.heap h' → (∃ o, h'.get? e = some o ∧ o.cls = .type "StopIteration") → E (.ref e) { s with heap := h' }) : wpAny (model P w) A (Builtin.SmallTypes.nextOf (.ref it)) Q E s := by
  cases b with
  | true => exact nextOf_tup_end hh hi hs hx hE
  | false => exact wpAny_nextOf_list_end hh hi hs hx hE
theorem iter_of {b : Bool} {l : Addr} {xs : Array Value} {Q : Value → Shared → Prop} (hs : ZS b s.heap l xs)
    (hQ : Q (.ref s.heap.objs.size) { s with heap := s.heap.push { cls := .type (if b then "tuple_iterator" else "list_iterator"), data := .fields #[.ref l, .int 0 0] } }) : wpAny (model P w) A (pyIter (.ref l)) Q E s := by
  cases b with
  | true => exact wpAny_pyIter_tuple hs hQ
  | false => exact wpAny_pyIter_list hs hQ
end
end L2

namespace L2
open PySem PySem.Spec PyProof.Rows
section
variable {P : Program} {w : World} {A : Around} {E : Value → Shared → Prop} {s : Shared}
structure ZApart (z TI TO i1 i2 l1 l2 : Addr) : Prop where
  a1 : TI ≠ z
  a2 : TO ≠ z
  a3 : i1 ≠ z
  a4 : i2 ≠ z
  a5 : TI ≠ TO
  a6 : TI ≠ i1
  a7 : TI ≠ i2
  a8 : TO ≠ i1
  a9 : TO ≠ i2
  a10 : i1 ≠ i2
  b1 : l1 ≠ z
  b2 : l1 ≠ TO
  b3 : l1 ≠ i1
  b4 : l1 ≠ i2
  c1 : l2 ≠ z
  c2 : l2 ≠ TO
  c3 : l2 ≠ i1
  c4 : l2 ≠ i2
/-- the state of a zip: k pairs handed out, the last one let go -/
structure ZSt (b1 b2 : Bool) (z TI TO i1 i2 l1 l2 : Addr) (f0 : Value) (k : Nat) (h : Heap) : Prop where
  zz : IsZip h z TI TO f0
  ti : IsPair h TI (.ref i1) (.ref i2)
  to : ∃ a b, IsPair h TO a b
  h1 : ZI b1 h i1 l1 k
  h2 : ZI b2 h i2 l2 k
theorem zip_item {b1 b2 : Bool} {z TI TO i1 i2 l1 l2 : Addr} {k : Nat} {xs ys : Array Value} {x y : Value} {Q : Value → Shared → Prop} (D : ZApart z TI TO i1 i2 l1 l2) (S : ZSt b1 b2 z TI TO i1 i2 l1 l2 .none k s.heap)
    (g1 : ZS b1 s.heap l1 xs) (g2 : ZS b2 s.heap l2 ys) (hx : xs[k]? = some x) (hy : ys[k]? = some y)
    (hQ : ∀ h', ZSt b1 b2 z TI TO i1 i2 l1 l2 (rawInt s.heap.objs.size) (k + 1) h' → IsPair h' s.heap.objs.size x y →
      (∀ c o, c ≠ z → c ≠ TO → c ≠ i1 → c ≠ i2 → s.heap.get? c = some o → h'.get? c = some o) → Q (.ref s.heap.objs.size) { s with heap := h' }) :
    wpAny (model P w) A (Builtin.«zip.__next__» ⟨[.ref z], []⟩) (fun fin s' => ∃ v, fin = .done (.ret v) ∧ Q v s') E s := by
  obtain ⟨zz, ti, ⟨a, b, to⟩, h1, h2⟩ := S
  show wpAny _ _ (field (.ref z) 2 >>= _) _ _ _
  refine wpAny_bind (wpAny_field zz rfl (x := .bool false) rfl ?_)
  show wpAny _ _ (field (.ref z) 3 >>= _) _ _ _
  refine wpAny_bind (wpAny_field zz rfl (x := .ref TI) rfl (wpAny_bind (wpAny_seqItems ti rfl ?_)))
  show wpAny _ _ (Builtin.SmallTypes.ownedTupleIsFree (.ref z) >>= _) _ _ _
  refine wpAny_bind ?_
  unfold Builtin.SmallTypes.ownedTupleIsFree
  refine wpAny_bind (wpAny_field zz rfl (x := .none) rfl (wpAny_pure ?_))
  simp only [if_true]
  refine wpAny_bind (wpAny_rule (wpAny_bind (wpAny_field zz rfl (x := .ref TO) rfl (wpAny_bind (wpAny_setField_rec zz (by simp) fun H1 z1 k1 => ?_)))))
  replace z1 : IsZip H1 z TI TO .ellipsis := z1
  refine wpAny_bind ?_
  simp only [List.zipIdx_cons, List.zipIdx_nil, List.forIn_cons, List.forIn_nil]
  -- the first one
  refine wpAny_bind (wpAny_bind (wpAny_onRaise ?_))
  show wpAny _ _ (Builtin.SmallTypes.nextOf (.ref i1) >>= _) _ _ _
  refine wpAny_bind (nextOf_item (h1.at fun o e => k1.extBut _ o D.a3 e) (g1.at fun o e => k1.extBut _ o D.b1 e) hx fun H2 j1 k2 => wpAny_pure ?_)
  have t2 : IsPair H2 TO a b := k2.extBut _ _ D.a8 (k1.extBut _ _ D.a2 to)
  refine wpAny_bind (wpAny_seqItems t2 rfl (wpAny_bind (wpAny_updateSeq_pair t2 fun H3 t3 k3 => ?_)))
  replace t3 : IsPair H3 TO x b := t3
  refine wpAny_bind (wpAny_letGo (wpAny_pure ?_))
  -- the second one
  refine wpAny_bind (wpAny_bind (wpAny_onRaise ?_))
  show wpAny _ _ (Builtin.SmallTypes.nextOf (.ref i2) >>= _) _ _ _
  have u3 : ∀ c o, c ≠ z → c ≠ TO → c ≠ i1 → s.heap.get? c = some o → H3.get? c = some o := fun c o c1 c2 c3 e => k3.extBut _ _ c2 (k2.extBut _ _ c3 (k1.extBut _ _ c1 e))
  refine wpAny_bind (nextOf_item (h2.at fun o e => u3 _ o D.a4 (Ne.symm D.a9) (Ne.symm D.a10) e) (g2.at fun o e => u3 _ o D.c1 D.c2 D.c3 e) hy fun H4 j2 k4 => wpAny_pure ?_)
  have t4 : IsPair H4 TO x b := k4.extBut _ _ D.a9 t3
  refine wpAny_bind (wpAny_seqItems t4 rfl (wpAny_bind (wpAny_updateSeq_pair t4 fun H5 t5 k5 => ?_)))
  replace t5 : IsPair H5 TO x y := t5
  refine wpAny_bind (wpAny_letGo (wpAny_pure (wpAny_pure (wpAny_bind (wpAny_seqItems t5 rfl (wpAny_bind (wpAny_newTuple ?_)))))))
  have sz : H5.objs.size = s.heap.objs.size := by rw [k5.1, k4.1, k3.1, k2.1, k1.1]
  have z5 : IsZip H5 z TI TO .ellipsis := k5.extBut _ _ (Ne.symm D.a2) (k4.extBut _ _ (Ne.symm D.a4) (k3.extBut _ _ (Ne.symm D.a2) (k2.extBut _ _ (Ne.symm D.a3) z1)))
  have u5 : ∀ c o, c ≠ z → c ≠ TO → c ≠ i1 → c ≠ i2 → s.heap.get? c = some o → H5.get? c = some o := fun c o c1 c2 c3 c4 e => k5.extBut _ _ c2 (k4.extBut _ _ c4 (u3 c o c1 c2 c3 e))
  have j1' : ZI b1 H5 i1 l1 (k + 1) := j1.at fun o e => k5.extBut _ _ (Ne.symm D.a8) (k4.extBut _ _ D.a10 (k3.extBut _ _ (Ne.symm D.a8) e))
  have j2' : ZI b2 H5 i2 l2 (k + 1) := j2.at fun o e => k5.extBut _ _ (Ne.symm D.a9) e
  have ltz : z < H5.objs.size := Heap.lt_size z5
  show wpAny _ _ (Builtin.SmallTypes.ownedTupleHandOut (.ref z) (.ref H5.objs.size) >>= _) _ _ _
  refine wpAny_bind ?_
  unfold Builtin.SmallTypes.ownedTupleHandOut
  have z6 : IsZip (H5.push { cls := .type "tuple", data := .seq #[x, y] }) z TI TO .ellipsis := Heap.get?_push_of_some _ z5
  refine wpAny_bind (wpAny_setField_rec z6 (by simp) fun H7 z7 k7 => ?_)
  replace z7 : IsZip H7 z TI TO (rawInt H5.objs.size) := z7
  refine wpAny_setField_rec z7 (by simp) fun H8 z8 k8 => ?_
  replace z8 : IsZip H8 z TI TO (rawInt H5.objs.size) := z8
  have up : ∀ c o, c ≠ z → H5.get? c = some o → H8.get? c = some o := fun c o c1 e => k8.extBut _ _ c1 (k7.extBut _ _ c1 (Heap.get?_push_of_some _ e))
  have t8 : IsPair H8 H5.objs.size x y := k8.extBut _ _ (Nat.ne_of_gt ltz) (k7.extBut _ _ (Nat.ne_of_gt ltz) (Heap.get?_push_size _ rfl))
  rw [sz] at z8 t8
  refine wpAny_pure ⟨_, rfl, ?_⟩
  show Q (.ref H5.objs.size) _
  rw [sz]
  exact hQ H8 ⟨z8, up _ _ D.a1 (u5 _ _ D.a1 D.a5 D.a6 D.a7 ti), ⟨_, _, up _ _ D.a2 t5⟩, j1'.at fun o e => up _ o D.a3 e, j2'.at fun o e => up _ o D.a4 e⟩ t8 fun c o c1 c2 c3 c4 e => up c o c1 (u5 c o c1 c2 c3 c4 e)
theorem zip_stop {b1 b2 : Bool} {z TI TO i1 i2 l1 l2 : Addr} {k : Nat} {xs ys : Array Value} {Q : Fin → Shared → Prop} (hh : A.handled = none) (D : ZApart z TI TO i1 i2 l1 l2) (S : ZSt b1 b2 z TI TO i1 i2 l1 l2 .none k s.heap)
    (g1 : ZS b1 s.heap l1 xs) (g2 : ZS b2 s.heap l2 ys) (hend : xs[k]? = none ∨ ys[k]? = none)
    (hE : ∀ h' e, (∀ c o, c ≠ z → c ≠ TO → c ≠ i1 → c ≠ i2 → s.heap.get? c = some o → h'.get? c = some o) → (∃ o, h'.get? e = some o ∧ o.cls = .type "StopIteration") → E (.ref e) { s with heap := h' }) :
    wpAny (model P w) A (Builtin.«zip.__next__» ⟨[.ref z], []⟩) Q E s := by
  obtain ⟨zz, ti, ⟨a, b, to⟩, h1, h2⟩ := S
  show wpAny _ _ (field (.ref z) 2 >>= _) _ _ _
  refine wpAny_bind (wpAny_field zz rfl (x := .bool false) rfl ?_)
  show wpAny _ _ (field (.ref z) 3 >>= _) _ _ _
  refine wpAny_bind (wpAny_field zz rfl (x := .ref TI) rfl (wpAny_bind (wpAny_seqItems ti rfl ?_)))
  show wpAny _ _ (Builtin.SmallTypes.ownedTupleIsFree (.ref z) >>= _) _ _ _
  refine wpAny_bind ?_
  unfold Builtin.SmallTypes.ownedTupleIsFree
  refine wpAny_bind (wpAny_field zz rfl (x := .none) rfl (wpAny_pure ?_))
  simp only [if_true]
  refine wpAny_bind (wpAny_rule (wpAny_bind (wpAny_field zz rfl (x := .ref TO) rfl (wpAny_bind (wpAny_setField_rec zz (by simp) fun H1 z1 k1 => ?_)))))
  replace z1 : IsZip H1 z TI TO .ellipsis := z1
  refine wpAny_bind ?_
  simp only [List.zipIdx_cons, List.zipIdx_nil, List.forIn_cons, List.forIn_nil]
  refine wpAny_bind (wpAny_bind (wpAny_onRaise ?_))
  show wpAny _ _ (Builtin.SmallTypes.nextOf (.ref i1) >>= _) _ _ _
  have q1 := h1.at fun o e => k1.extBut _ o D.a3 e
  have q2 := g1.at fun o e => k1.extBut _ o D.b1 e
  cases hx : xs[k]? with
  | none =>
    refine wpAny_bind (nextOf_end hh q1 q2 hx fun H2 e k2 he => ?_)
    obtain ⟨oe, hoe, hce⟩ := he
    have z2 : IsZip H2 z TI TO .ellipsis := k2 _ _ (Ne.symm D.a3) z1
    have hez : e ≠ z := fun q => by subst q; rw [z2] at hoe; cases hoe; simp at hce
    exact wpAny_setField_rec z2 (by simp) fun H3 _ k3 => hE H3 e (fun c o c1 _ c3 _ q => k3.extBut _ _ c1 (k2 _ _ c3 (k1.extBut _ _ c1 q))) ⟨oe, k3.extBut _ _ hez hoe, hce⟩
  | some x =>
    have hy : ys[k]? = none := by
      rcases hend with q | q
      · rw [hx] at q; cases q
      · exact q
    refine wpAny_bind (nextOf_item q1 q2 hx fun H2 j1 k2 => wpAny_pure ?_)
    have t2 : IsPair H2 TO a b := k2.extBut _ _ D.a8 (k1.extBut _ _ D.a2 to)
    refine wpAny_bind (wpAny_seqItems t2 rfl (wpAny_bind (wpAny_updateSeq_pair t2 fun H3 t3 k3 => ?_)))
    refine wpAny_bind (wpAny_letGo (wpAny_pure (wpAny_bind (wpAny_bind (wpAny_onRaise ?_)))))
    show wpAny _ _ (Builtin.SmallTypes.nextOf (.ref i2) >>= _) _ _ _
    have u3 : ∀ c o, c ≠ z → c ≠ TO → c ≠ i1 → s.heap.get? c = some o → H3.get? c = some o := fun c o c1 c2 c3 e => k3.extBut _ _ c2 (k2.extBut _ _ c3 (k1.extBut _ _ c1 e))
    refine wpAny_bind (nextOf_end hh (h2.at fun o e => u3 _ o D.a4 (Ne.symm D.a9) (Ne.symm D.a10) e) (g2.at fun o e => u3 _ o D.c1 D.c2 D.c3 e) hy fun H4 e k4 he => ?_)
    obtain ⟨oe, hoe, hce⟩ := he
    have z4 : IsZip H4 z TI TO .ellipsis := k4 _ _ (Ne.symm D.a4) (k3.extBut _ _ (Ne.symm D.a2) (k2.extBut _ _ (Ne.symm D.a3) z1))
    have hez : e ≠ z := fun q => by subst q; rw [z4] at hoe; cases hoe; simp at hce
    exact wpAny_setField_rec z4 (by simp) fun H5 _ k5 => hE H5 e (fun c o c1 c2 c3 c4 q => k5.extBut _ _ c1 (k4 _ _ c4 (u3 c o c1 c2 c3 q))) ⟨oe, k5.extBut _ _ hez hoe, hce⟩
theorem next_zip_item {b1 b2 : Bool} {z TI TO i1 i2 l1 l2 : Addr} {k : Nat} {xs ys : Array Value} {x y : Value} {Q : Option Value → Shared → Prop} (D : ZApart z TI TO i1 i2 l1 l2) (S : ZSt b1 b2 z TI TO i1 i2 l1 l2 .none k s.heap)
    (g1 : ZS b1 s.heap l1 xs) (g2 : ZS b2 s.heap l2 ys) (hx : xs[k]? = some x) (hy : ys[k]? = some y)
    (hQ : ∀ h', ZSt b1 b2 z TI TO i1 i2 l1 l2 (rawInt s.heap.objs.size) (k + 1) h' → IsPair h' s.heap.objs.size x y →
      (∀ c o, c ≠ z → c ≠ TO → c ≠ i1 → c ≠ i2 → s.heap.get? c = some o → h'.get? c = some o) → Q (some (.ref s.heap.objs.size)) { s with heap := h' }) :
    wpAny (model P w) A (pyNext (.ref z)) Q E s := by
  have hT : s.TypeIs (.ref z) "zip" := ⟨_, S.zz, rfl⟩
  unfold pyNext
  exact wpAny_bind (wpAny_attempt (wpAny_callSpecial?_slot (name := Str.ofString "__next__") hT F.slot_zip_next (wpAny_call_entry F.slot_zip_next hT F.entry_zip_next (zip_item D S g1 g2 hx hy fun h' q1 q2 q3 => wpAny_pure (hQ h' q1 q2 q3)) (F.args_zip_next_1 _))))
theorem next_zip_end {b1 b2 : Bool} {z TI TO i1 i2 l1 l2 : Addr} {k : Nat} {xs ys : Array Value} {Q : Option Value → Shared → Prop} (hh : A.handled = none) (D : ZApart z TI TO i1 i2 l1 l2) (S : ZSt b1 b2 z TI TO i1 i2 l1 l2 .none k s.heap)
    (g1 : ZS b1 s.heap l1 xs) (g2 : ZS b2 s.heap l2 ys) (hend : xs[k]? = none ∨ ys[k]? = none)
    (hQ : ∀ h', (∀ c o, c ≠ z → c ≠ TO → c ≠ i1 → c ≠ i2 → s.heap.get? c = some o → h'.get? c = some o) → Q none { s with heap := h' }) : wpAny (model P w) A (pyNext (.ref z)) Q E s := by
  have hT : s.TypeIs (.ref z) "zip" := ⟨_, S.zz, rfl⟩
  unfold pyNext
  refine wpAny_bind (wpAny_attempt (wpAny_callSpecial?_slot (name := Str.ofString "__next__") hT F.slot_zip_next (wpAny_call_entry F.slot_zip_next hT F.entry_zip_next (zip_stop hh D S g1 g2 hend fun h' e hk he => ?_) (F.args_zip_next_1 _))))
  obtain ⟨o, ho, hc⟩ := he
  exact wpAny_bind (wpAny_isInstance (T := "StopIteration") (b := true) ⟨o, ho, hc⟩ isSubtype_stop (wpAny_pure (hQ _ hk)))
end
end L2

namespace L2
open PySem PySem.Spec PyProof.Rows
abbrev itOb (b : Bool) (l : Addr) : Obj := { cls := .type (if b then "tuple_iterator" else "list_iterator"), data := .fields #[.ref l, .int 0 0] }
abbrev zh1 (h : Heap) (b1 : Bool) (l1 : Addr) : Heap := h.push (itOb b1 l1)
abbrev zh2 (h : Heap) (b1 b2 : Bool) (l1 l2 : Addr) : Heap := (zh1 h b1 l1).push (itOb b2 l2)
abbrev zh3 (h : Heap) (b1 b2 : Bool) (l1 l2 : Addr) : Heap := (zh2 h b1 b2 l1 l2).push { cls := .type "tuple", data := .seq #[.ref h.objs.size, .ref (zh1 h b1 l1).objs.size] }
abbrev zh4 (h : Heap) (b1 b2 : Bool) (l1 l2 : Addr) : Heap := (zh3 h b1 b2 l1 l2).push { cls := .type "tuple", data := .seq #[.none, .none] }
abbrev zh5 (h : Heap) (b1 b2 : Bool) (l1 l2 : Addr) : Heap := (zh4 h b1 b2 l1 l2).push { cls := .type "zip", data := .fields #[.none, .bool false, .bool false, .ref (zh2 h b1 b2 l1 l2).objs.size, .ref (zh3 h b1 b2 l1 l2).objs.size] }
theorem meets_zip (b1 b2 : Bool) (l1 l2 : Addr) (xs ys : Array Value) :
    Meets (Builtin.«zip.__new__» ⟨[.type "zip", .ref l1, .ref l2], []⟩) (fun _ R s => ZS b1 s.heap l1 xs ∧ ZS b2 s.heap l2 ys ∧ R (.ok (.ret (.ref (zh4 s.heap b1 b2 l1 l2).objs.size))) { s with heap := zh5 s.heap b1 b2 l1 l2 }) :=
  .of_wp fun prog w A R s h => by
    obtain ⟨hp, g, d, tk, os⟩ := s
    obtain ⟨hl1, hl2, h⟩ := h
    have hsub := sub_zip
    have q1 : ZS b1 (Shared.heap ⟨hp, g, d, tk, os⟩) l1 xs := hl1
    have q2 : ZS b2 (Shared.heap ⟨hp.push (itOb b1 l1), g, d, tk, os⟩) l2 ys := hl2.at fun o e => Heap.get?_push_of_some _ e
    wp_walk using iter_of q1, iter_of q2
    exact ⟨_, rfl, h⟩
section
variable {P : Program} {w : World} {A : Around} {E : Value → Shared → Prop} {s : Shared}
theorem call_zip {b1 b2 : Bool} {l1 l2 : Addr} {xs ys : Array Value} {Q : Value → Shared → Prop} (g1 : ZS b1 s.heap l1 xs) (g2 : ZS b2 s.heap l2 ys)
    (h : ∀ h', ZSt b1 b2 (s.heap.objs.size + 4) (s.heap.objs.size + 2) (s.heap.objs.size + 3) s.heap.objs.size (s.heap.objs.size + 1) l1 l2 .none 0 h' → (∀ c o, s.heap.get? c = some o → h'.get? c = some o) → Q (.ref (s.heap.objs.size + 4)) { s with heap := h' }) :
    wpAny (model P w) A (call (.type "zip") [.ref l1, .ref l2]) Q E s := by
  refine callType_new F.called_zip (by decide) (F.typeCall_zip_2 _ _) (F.newCall_zip_2 _ _) (fun obj => F.args_object_init_3 obj _ _) F.entry_zip_new (meets_zip b1 b2 l1 l2 xs ys) ⟨g1, g2, ?_⟩
  have z1 : (zh1 s.heap b1 l1).objs.size = s.heap.objs.size + 1 := Heap.size_push ..
  have z2 : (zh2 s.heap b1 b2 l1 l2).objs.size = s.heap.objs.size + 2 := by rw [Heap.size_push, z1]
  have z3 : (zh3 s.heap b1 b2 l1 l2).objs.size = s.heap.objs.size + 3 := by rw [Heap.size_push, z2]
  have z4 : (zh4 s.heap b1 b2 l1 l2).objs.size = s.heap.objs.size + 4 := by rw [Heap.size_push, z3]
  have e5 : (zh5 s.heap b1 b2 l1 l2).get? (zh4 s.heap b1 b2 l1 l2).objs.size = some _ := Heap.get?_push_size _ rfl
  have e4 : (zh5 s.heap b1 b2 l1 l2).get? (zh3 s.heap b1 b2 l1 l2).objs.size = some _ := Heap.get?_push_of_some _ (Heap.get?_push_size _ rfl)
  have e3 : (zh5 s.heap b1 b2 l1 l2).get? (zh2 s.heap b1 b2 l1 l2).objs.size = some _ := Heap.get?_push_of_some _ (Heap.get?_push_of_some _ (Heap.get?_push_size _ rfl))
  have e2 : (zh5 s.heap b1 b2 l1 l2).get? (zh1 s.heap b1 l1).objs.size = some _ := Heap.get?_push_of_some _ (Heap.get?_push_of_some _ (Heap.get?_push_of_some _ (Heap.get?_push_size _ rfl)))
  have e1 : (zh5 s.heap b1 b2 l1 l2).get? s.heap.objs.size = some _ := Heap.get?_push_of_some _ (Heap.get?_push_of_some _ (Heap.get?_push_of_some _ (Heap.get?_push_of_some _ (Heap.get?_push_size _ rfl))))
  show _ ∧ _
  rw [z2, z3, z4] at e5
  rw [z1, z2] at e3
  rw [z3] at e4
  rw [z1] at e2
  rw [z4]
  exact ⟨⟨_, e5, rfl⟩, h _ ⟨e5, e3, ⟨_, _, e4⟩, ⟨_, e1, rfl, rfl⟩, ⟨_, e2, rfl, rfl⟩⟩ fun c o q => Heap.get?_push_of_some _ (Heap.get?_push_of_some _ (Heap.get?_push_of_some _ (Heap.get?_push_of_some _ (Heap.get?_push_of_some _ q))))⟩
theorem zapart_new {n l1 l2 : Addr} (h1 : l1 < n) (h2 : l2 < n) : ZApart (n + 4) (n + 2) (n + 3) n (n + 1) l1 l2 := by
  have e : ∀ (a b : Nat), a ≠ b → n + a ≠ n + b := fun a b h q => h (Nat.add_left_cancel q)
  have f : ∀ (l : Addr) (a : Nat), l < n → l ≠ n + a := fun l a h => Nat.ne_of_lt (Nat.lt_of_lt_of_le h (Nat.le_add_right n a))
  exact ⟨e 2 4 (by decide), e 3 4 (by decide), e 0 4 (by decide), e 1 4 (by decide), e 2 3 (by decide), e 2 0 (by decide), e 2 1 (by decide), e 3 0 (by decide), e 3 1 (by decide), e 0 1 (by decide),
    f l1 4 h1, f l1 3 h1, f l1 0 h1, f l1 1 h1, f l2 4 h2, f l2 3 h2, f l2 0 h2, f l2 1 h2⟩
end
/-! ### the iterator's records have turned, a thing may have been laid -/
section
variable {X : Cx} {pins : List (Addr × Obj)} {σ : St} {H : Hp} {s : Shared} {h' : Heap} {fp : List Addr}
theorem Inv.turnedAll {t' : Nat} (I : Inv X pins σ H s) (hf : ∀ b ∈ fp, FpOk X pins H b) (k : ∀ c o, c ∉ fp → s.heap.get? c = some o → h'.get? c = some o) : Inv X pins σ H { s with heap := h', toks := t' } := by
  have nfp : ∀ b u, H b = some u → b ∉ fp := fun b u e z => by rw [(hf b z).1] at e; cases e
  refine I.step (g' := s.gens) (d' := s.drawn) (ch := fp) (fun b hb => ?_) (fun b o _ _ hc e _ => k b o hc e) (fun b o _ _ hc e _ => ⟨o.slots, k b o hc e⟩) (fun _ _ _ _ n => n) (fun b o hc e => ⟨o, k b o hc e⟩)
    (fun _ _ e => e) (fun _ _ _ e => e) (fun b ps e => ⟨#[], by rw [e]; simp⟩) (fun m hm => ?_) (fun b u e => ?_) I.bare
  · obtain ⟨f0, f1, f2, f3, f4, f5⟩ := hf b hb
    exact ⟨f3, f1, f4, f5⟩
  · obtain ⟨o, es, ep, ho, r⟩ := hm
    exact ⟨o, es, ep, k _ o (fun z => (hf _ z).2.1 rfl) ho, r⟩
  · refine (I.hok b u e).stay (fun c v hc q => k c v ?_ q) (fun _ q => q) fun _ _ q => q
    rcases hc with z | z
    · rw [z]; exact nfp b u e
    · exact nfp c _ z
theorem Inv.turnedLaid {t' : Nat} {p : Addr} {o' : HO} (I : Inv X pins σ H s) (hf : ∀ b ∈ fp, FpOk X pins H b) (k : ∀ c o, c ∉ fp → s.heap.get? c = some o → h'.get? c = some o) (hp : s.heap.objs.size ≤ p) (new : ObjOk X.prog X.w (upd H p o') h' p o') :
    Inv X pins σ (upd H p o') { s with heap := h', toks := t' } := by
  have nfp : ∀ b u, H b = some u → b ∉ fp := fun b u e z => by rw [(hf b z).1] at e; cases e
  have hn : H p = none := I.hok.fresh hp
  have np : ∀ b u, H b = some u → b ≠ p := fun b u e => ne_of_none e hn
  have lt : ∀ b o, s.heap.get? b = some o → b ≠ p := fun b o e => Nat.ne_of_lt (Nat.lt_of_lt_of_le (Heap.lt_size e) hp)
  refine I.step (g' := s.gens) (d' := s.drawn) (ch := fp) (fun b hb => ?_) (fun b o _ _ hc e _ => k b o hc e) (fun b o _ _ hc e _ => ⟨o.slots, k b o hc e⟩) (fun b o _ e n => by rw [upd_ne (lt b o e)]; exact n) (fun b o hc e => ⟨o, k b o hc e⟩)
    (fun b _ e => by rw [upd_ne (np _ _ e)]; exact e) (fun b _ _ e => by rw [upd_ne (np _ _ e)]; exact e) (fun b ps e => ⟨#[], by rw [upd_ne (np _ _ e), e]; simp⟩) (fun m hm => ?_) (fun b u e => ?_) I.bare
  · obtain ⟨f0, f1, f2, f3, f4, f5⟩ := hf b hb
    exact ⟨f3, f1, f4, f5⟩
  · obtain ⟨o, es, ep, ho, r⟩ := hm
    exact ⟨o, es, ep, k _ o (fun z => (hf _ z).2.1 rfl) ho, r⟩
  · by_cases hb : b = p
    · subst hb; rw [upd_same] at e; cases e; exact new
    · rw [upd_ne hb] at e
      refine (I.hok b u e).stay (fun c v hc q => k c v ?_ q) (fun c q => by rw [upd_ne (np _ _ q)]; exact q) fun c ys q => by rw [upd_ne (np _ _ q)]; exact q
      rcases hc with z | z
      · rw [z]; exact nfp b u e
      · exact nfp c _ z
end
/-- a list or a tuple that is read -/
def SqB (K : PySem.W.Frag) (b : Bool) (H : Hp) (a : Addr) (xs : List V) : Prop := if b then SqT K H a xs else SqL K H a xs
theorem Inv.seqB {X : Cx} {pins : List (Addr × Obj)} {σ : St} {H : Hp} {s : Shared} {b : Bool} {a : Addr} {xs : List V} (I : Inv X pins σ H s) (h : SqB X.K b H a xs) : ∃ its : List Value, Vals xs its ∧ ZS b s.heap a its.toArray ∧ xs.length ≤ sizeLine := by
  cases b with
  | true =>
    obtain ⟨its, r, p, z⟩ := I.tuple h
    exact ⟨its, r, p, z⟩
  | false =>
    obtain ⟨its, r, p, z⟩ := I.list h
    exact ⟨its, r, p.isList, z⟩
theorem Inv.seqB_inj {X : Cx} {pins : List (Addr × Obj)} {σ : St} {H : Hp} {s : Shared} {b : Bool} {a : Addr} {xs ys : List V} (I : Inv X pins σ H s) (h : SqB X.K b H a xs) (h' : SqB X.K b H a ys) : xs = ys := by
  cases b with
  | true => exact I.tuple_inj h h'
  | false => exact I.list_inj h h'
def Itz (K : PySem.W.Frag) (b1 b2 : Bool) (a1 a2 : Addr) : It :=
  ⟨fun i H => ∃ xs ys x y, SqB K b1 H a1 xs ∧ SqB K b2 H a2 ys ∧ xs[i]? = some x ∧ ys[i]? = some y,
   fun i H v H' => ∃ p x y, v = .ref p ∧ H p = none ∧ H' = upd H p (.tup [x, y]) ∧ (∀ xs, SqB K b1 H a1 xs → xs[i]? = some x) ∧ ∀ ys, SqB K b2 H a2 ys → ys[i]? = some y,
   fun i H => ∃ xs ys, SqB K b1 H a1 xs ∧ SqB K b2 H a2 ys ∧ (xs.length ≤ i ∨ ys.length ≤ i)⟩
theorem turn_zip {P : Program} {w : World} {K : PySem.W.Frag} {es : List Expr} {n : Nat} {pos : Pos} {b1 b2 : Bool} {z TI TO i1 i2 l1 l2 : Addr} (D : ZApart z TI TO i1 i2 l1 l2) :
    Turn P w K (.Tuple es n pos) (Itz K b1 b2 l1 l2) [z, TI, TO, i1, i2] z (fun i h => ZSt b1 b2 z TI TO i1 i2 l1 l2 .none i h) where
  mem := by simp
  obj := fun i h st b hb => by
    simp only [List.mem_cons, List.not_mem_nil, or_false] at hb
    obtain ⟨z1, z2, ⟨a, c, z3⟩, ⟨o1, y1, _, d1⟩, ⟨o2, y2, _, d2⟩⟩ := st
    rcases hb with rfl | rfl | rfl | rfl | rfl
    · exact ⟨_, z1, fun v q => by cases q⟩
    · exact ⟨_, z2, fun v q => by cases q⟩
    · exact ⟨_, z3, fun v q => by cases q⟩
    · exact ⟨_, y1, fun v q => by rw [d1] at q; cases q⟩
    · exact ⟨_, y2, fun v q => by rw [d2] at q; cases q⟩
  keep := fun i h h' st k => by
    obtain ⟨z1, z2, ⟨a, c, z3⟩, y1, y2⟩ := st
    exact ⟨k _ (by simp) _ z1, k _ (by simp) _ z2, ⟨a, c, k _ (by simp) _ z3⟩, y1.at fun o e => k _ (by simp) _ e, y2.at fun o e => k _ (by simp) _ e⟩
  item := by
    intro X hP hw hK hc i pins s σ H E I hf st hg
    subst hP hw hK
    obtain ⟨xs, ys, x, y, q1, q2, hx, hy⟩ := hg
    obtain ⟨its, r1, p1, _⟩ := I.seqB q1
    obtain ⟨its2, r2, p2, _⟩ := I.seqB q2
    obtain ⟨u1, hu1, ru1⟩ := r1.get hx
    obtain ⟨u2, hu2, ru2⟩ := r2.get hy
    refine next_zip_item D st p1 p2 (by simpa using hu1) (by simpa using hu2) fun h1 s1 t1 k1 => ⟨_, rfl, ?_⟩
    refine wpAny_letOwnedTupleGo_zip s1.zz fun h2 z2 k2 => ?_
    have nz : s.heap.objs.size ≠ z := Nat.ne_of_gt (Heap.lt_size st.zz)
    have kk : ∀ c o, c ∉ [z, TI, TO, i1, i2] → s.heap.get? c = some o → h2.get? c = some o := fun c o hc e => by
      simp only [List.mem_cons, List.not_mem_nil, or_false, not_or] at hc
      exact k2.extBut _ _ hc.1 (k1 c o hc.1 hc.2.2.1 hc.2.2.2.1 hc.2.2.2.2 e)
    have hn : H s.heap.objs.size = none := I.hok.fresh (Nat.le_refl _)
    obtain ⟨w1, w2, ⟨a, c, w3⟩, w4, w5⟩ := s1
    refine ⟨.ref s.heap.objs.size, _, I.turnedLaid (t' := s.toks) (o' := .tup [x, y]) hf kk (Nat.le_refl _) ?_, rfl, ⟨_, x, y, rfl, hn, rfl, fun xs' h => ?_, fun ys' h => ?_⟩, ⟨z2, k2.extBut _ _ D.a1 w2, ⟨a, c, k2.extBut _ _ D.a2 w3⟩, w4.at fun o e => k2.extBut _ _ D.a3 e, w5.at fun o e => k2.extBut _ _ D.a4 e⟩, fun b hb => ?_⟩
    · exact ⟨by show 2 ≤ sizeLine; decide, [u1, u2], .cons ru1 (.cons ru2 .nil), ⟨_, k2.extBut _ _ nz t1, rfl, _, rfl⟩⟩
    · rw [I.seqB_inj h q1]; exact hx
    · rw [I.seqB_inj h q2]; exact hy
    · obtain ⟨o, e, _⟩ : ∃ o, s.heap.get? b = some o ∧ True := by
        simp only [List.mem_cons, List.not_mem_nil, or_false] at hb
        obtain ⟨z1, z2, ⟨a, c, z3⟩, ⟨o1, y1, _⟩, ⟨o2, y2, _⟩⟩ := st
        rcases hb with rfl | rfl | rfl | rfl | rfl
        · exact ⟨_, z1, trivial⟩
        · exact ⟨_, z2, trivial⟩
        · exact ⟨_, z3, trivial⟩
        · exact ⟨_, y1, trivial⟩
        · exact ⟨_, y2, trivial⟩
      rw [upd_ne (Nat.ne_of_lt (Heap.lt_size e))]
      exact (hf b hb).1
  done := by
    intro X hP hw hK hc i pins s σ H E I hf st hg
    subst hP hw hK
    obtain ⟨xs, ys, q1, q2, hl⟩ := hg
    obtain ⟨its, r1, p1, _⟩ := I.seqB q1
    obtain ⟨its2, r2, p2, _⟩ := I.seqB q2
    have e1 := r1.length
    have e2 := r2.length
    refine next_zip_end (I.ok.hd hc) D st p1 p2 (by rcases hl with q | q; exact .inl (by simp; omega); exact .inr (by simp; omega)) fun h1 k1 => ⟨rfl, I.turnedAll (t' := s.toks) hf fun c o hc e => ?_⟩
    simp only [List.mem_cons, List.not_mem_nil, or_false, not_or] at hc
    exact k1 c o hc.1 hc.2.2.1 hc.2.2.2.1 hc.2.2.2.2 e
  self := fun _ _ _ _ _ st h => wpAny_pyIter_zip st.zz h
section
variable {X : Cx}
def iZip (K : PySem.W.Frag) (b1 b2 : Bool) (ta : TA) : TI := fun σ H R => ta σ H fun vs H1 => ∃ a1 a2 xs ys, vs = [.ref a1, .ref a2] ∧ SqB K b1 H1 a1 xs ∧ SqB K b2 H1 a2 ys ∧ R (Itz K b1 b2 a1 a2) H1
theorem pi_zip {a b : Expr} {ta : TA} {p pos tpos : Pos} {tes : List Expr} {tn : Nat} (b1 b2 : Bool) (hg : Gl X "zip") (hm : X.mg "zip" = none) (ha : PA X [a, b] ta) (hs : starEach [a, b] X.env = [(false, eval a X.env), (false, eval b X.env)] := by rfl) (hs2 : starEach [b] X.env = [(false, eval b X.env)] := by rfl) :
    PI X (.Tuple tes tn tpos) (.Call (.Name "zip" p) [a, b] [] pos) (iZip X.K b1 b2 ta) := by
  intro pins s σ H R I h
  refine Call_ (ld_blt I hg hm boot_zip (PyProof.Rows.callWith_type1 (thn (ha pos pins s σ H _ I h) fun us s1 ⟨vs, H1, I1, r1, q1⟩ => ?_) (by rw [hs, hs2]) (by rw [hs2]; rfl)))
  obtain ⟨a1, a2, xs, ys, e, q1, q2, q⟩ := q1
  subst e
  obtain ⟨u, v, rfl, ru, rv⟩ := vals2 r1
  cases ru
  cases rv
  obtain ⟨its, w1, p1, _⟩ := I1.seqB q1
  obtain ⟨its2, w2, p2, _⟩ := I1.seqB q2
  have l1 : a1 < s1.heap.objs.size := by obtain ⟨o, e, _⟩ := p1; exact Heap.lt_size e
  have l2 : a2 < s1.heap.objs.size := by obtain ⟨o, e, _⟩ := p2; exact Heap.lt_size e
  refine call_zip p1 p2 fun h' st k => ?_
  refine wpAny_pyIter_zip st.zz ⟨_, _, _, _, H1, rfl, I1.kept (t' := s1.toks) k, turn_zip (zapart_new l1 l2), st, fun c hc => ?_, q⟩
  have hle : s1.heap.objs.size ≤ c := by
    simp only [List.mem_cons, List.not_mem_nil, or_false] at hc
    rcases hc with rfl | rfl | rfl | rfl | rfl
    · exact Nat.le_add_right _ 4
    · exact Nat.le_add_right _ 2
    · exact Nat.le_add_right _ 3
    · exact Nat.le_refl _
    · exact Nat.le_add_right _ 1
  exact I1.fpOk hle (I1.hok.fresh hle)
end
end L2

namespace L2
open PySem PySem.Spec PyProof.Rows
/-! ### sum of ints -/
theorem preSum_list (ns : List Int) : ∀ k, k ≤ ns.length → preSum (fun i => ns.getD i 0) k = (ns.take k).sum
  | 0, _ => by simp [preSum]
  | k + 1, h => by
    have e : ns.take (k + 1) = ns.take k ++ [ns.getD k 0] := by
      rw [List.take_add_one, List.getElem?_eq_getElem (by omega)]
      simp [List.getD, List.getElem?_eq_getElem (show k < ns.length by omega)]
    rw [preSum, preSum_list ns k (by omega), e, List.sum_append]
    simp
theorem ints_get {ns : List Int} {its : List Value} (r : Vals (ns.map V.int) its) {i : Nat} {v : Value} (e : its.toArray[i]? = some v) : ∃ t, v = .int (ns.getD i 0) t := by
  have e' : its[i]? = some v := by simpa using e
  have hi : i < its.length := (List.getElem?_eq_some_iff.mp e').1
  have hl := r.length
  rw [List.length_map] at hl
  have hx : (ns.map V.int)[i]? = some (V.int (ns.getD i 0)) := by
    rw [List.getElem?_map, List.getElem?_eq_getElem (show i < ns.length by omega)]
    simp [List.getD, List.getElem?_eq_getElem (show i < ns.length by omega)]
  obtain ⟨u, hu, ru⟩ := r.get hx
  rw [e'] at hu
  cases hu
  exact ru
section
variable {X : Cx}
def rSum (K : PySem.W.Frag) (b : Bool) : List V → Hp → VK → Prop := fun xs H Q => ∃ (p : Addr) (ns : List Int), xs = [.ref p] ∧ SqB K b H p (ns.map V.int) ∧ Q (.int ns.sum) H
theorem call_sum (hc : X.calm = true) (b : Bool) : CallR X (.builtin "sum") (rSum X.K b) := by
  intro pins s σ H xs us Q I r h
  obtain ⟨p, ns, rfl, hq, q⟩ := h
  obtain ⟨u, rfl, ru⟩ := vals1 r
  cases ru
  obtain ⟨its, rv, zs, hz⟩ := I.seqB hq
  have hlen := rv.length
  rw [List.length_map] at hlen
  have hlt : p < s.heap.objs.size := by obtain ⟨o, e, _⟩ := zs; exact Heap.lt_size e
  refine call_sum_walkG (iter_of zs ?_)
  have sum_eq : preSum (fun i => ns.getD i 0) its.toArray.size = ns.sum := by
    rw [List.size_toArray, ← hlen, preSum_list ns _ (Nat.le_refl _), List.take_length]
  have fin : ∀ (h' : Heap) (tk : Nat) (t' : Tok), (∀ c o, c ∉ [s.heap.objs.size] → (s.heap.push (itOb b p)).get? c = some o → h'.get? c = some o) → EP X pins σ Q (.int (preSum (fun i => ns.getD i 0) its.toArray.size) t') { s with heap := h', toks := tk } := by
    intro h' tk t' k
    rw [sum_eq]
    exact ⟨.int ns.sum, H, I.kept fun c o e => k c o (by simp only [List.mem_singleton]; exact Nat.ne_of_lt (Heap.lt_size e)) (Heap.get?_push_of_some _ e), ⟨_, rfl⟩, q⟩
  have hfp : ∀ c ∈ [s.heap.objs.size, p], c < (s.heap.push (itOb b p)).objs.size := fun c hc => by
    rw [Heap.size_push]
    simp only [List.mem_cons, List.not_mem_nil, or_false] at hc
    rcases hc with rfl | rfl
    · exact Nat.lt_succ_self _
    · exact Nat.lt_succ_of_lt hlt
  cases b with
  | true => exact ⟨_, _, _, _, _, _, fun i => ns.getD i 0, rfl, Walks.tuple (A := X.A.in1) (I.ok.hd hc) _ p (Nat.ne_of_lt hlt) its.toArray, ⟨⟨_, Heap.get?_push_size _ rfl, rfl, rfl⟩, zs.at fun o e => Heap.get?_push_of_some _ e⟩, hfp, fun i v e => ints_get rv e, fin⟩
  | false => exact ⟨_, _, _, _, _, _, fun i => ns.getD i 0, rfl, Walks.list (A := X.A.in1) (I.ok.hd hc) _ p (Nat.ne_of_lt hlt) its.toArray, ⟨⟨_, Heap.get?_push_size _ rfl, rfl, rfl⟩, zs.at fun o e => Heap.get?_push_of_some _ e⟩, hfp, fun i v e => ints_get rv e, fin⟩

/-! ### isinstance -/
def rIsi (K : PySem.W.Frag) : List V → Hp → VK → Prop := fun xs H Q => ∃ (x c : V) (t : Value) (b : Bool), xs = [x, c] ∧ TyOf K H x t ∧
  ((∃ n, c = .ty n ∧ PySem.W.kitOne K t (.type n) = some b) ∨ ∃ (p : Addr) (ns : List String), c = .ref p ∧ H p = some (.tup (ns.map V.ty)) ∧ PySem.W.kitAny K t (ns.map Value.type) = some b) ∧ Q (.bl b) H
theorem vals_ty : ∀ {ns : List String} {us : List Value}, Vals (ns.map V.ty) us → us = ns.map Value.type
  | [], _, r => by cases r; rfl
  | n :: ns, _, r => by
    rw [List.map_cons] at r
    cases r with
    | cons r1 r2 => rw [vals_ty r2, (show _ = Value.type n from r1)]; rfl
theorem isinst_tup {pins : List (Addr × Obj)} {σ : St} {H : Hp} {s : Shared} {A : Around} {E : Value → Shared → Prop} {Q : Value → Shared → Prop} {x : V} {u t : Value} {p : Addr} {ns : List String} {b : Bool} (I : Inv X pins σ H s) (rx : RelV x u) (ty : TyOf X.K H x t)
    (hp : H p = some (.tup (ns.map V.ty))) (e : PySem.W.kitAny X.K t (ns.map Value.type) = some b) (h : ∀ tk, Q (.bool b) { s with toks := tk }) : wpAny (model X.prog X.w) A (call (.builtin "isinstance") [u, .ref p]) Q E s := by
  obtain ⟨_, its, rv, o, ho, hc, n, hd⟩ := I.hok p _ hp
  have ei := vals_ty rv
  subst ei
  obtain ⟨oc, od, odt, osl⟩ := o
  simp only at hc hd
  subst hc hd
  cases ty with
  | non => cases (show u = Value.none from rx); exact PySem.W.kia_tup PySem.W.kitx_none I.kIn True.intro ho e (fun z => nomatch z) h
  | bl y => cases (show u = Value.bool y from rx); exact PySem.W.kia_tup PySem.W.kitx_bool I.kIn True.intro ho e (fun z => nomatch z) h
  | int i => obtain ⟨t, q⟩ := (show ∃ t, u = Value.int i t from rx); cases q; exact PySem.W.kia_tup PySem.W.kitx_int I.kIn True.intro ho e (fun z => nomatch z) h
  | str y => obtain ⟨t, q⟩ := (show ∃ t, u = Value.str y t from rx); cases q; exact PySem.W.kia_tup PySem.W.kitx_str I.kIn True.intro ho e (fun z => nomatch z) h
  | flt y => obtain ⟨t, q⟩ := (show ∃ t, u = Value.float y t from rx); cases q; exact PySem.W.kia_tup PySem.W.kitx_float I.kIn True.intro ho e (fun z => nomatch z) h
  | @lst a xs ea =>
    cases (show u = Value.ref a from rx)
    obtain ⟨_, _, n, _, h1⟩ := (show ObjOk X.prog X.w H s.heap a (.lst xs) from I.hok a _ ea)
    exact PySem.W.kia_tup PySem.W.kitx_list I.kIn ⟨_, h1, rfl⟩ ho e (fun z => nomatch z) h
  | @frz a ob xs ea =>
    cases (show u = Value.ref a from rx)
    obtain ⟨_, _, _, n, _, h1⟩ := (show ObjOk X.prog X.w H s.heap a (.frz ob (.lst xs)) from I.hok a _ ea)
    exact PySem.W.kia_tup PySem.W.kitx_list I.kIn ⟨_, h1, rfl⟩ ho e (fun z => nomatch z) h
  | @tup a xs ea =>
    cases (show u = Value.ref a from rx)
    obtain ⟨_, _, _, p⟩ := (show ObjOk X.prog X.w H s.heap a (.tup xs) from I.hok a _ ea)
    obtain ⟨o, h1, h2, _⟩ := p
    exact PySem.W.kia_tup PySem.W.kitx_tuple I.kIn ⟨o, h1, h2⟩ ho e (fun z => nomatch z) h
  | @dK a kvs ea =>
    cases (show u = Value.ref a from rx)
    obtain ⟨_, _, vs, _, p⟩ := (show ObjOk X.prog X.w H s.heap a (.dK kvs) from I.hok a _ ea)
    obtain ⟨o, es, ep, h1, h2, _⟩ := p
    exact PySem.W.kia_tup PySem.W.kitx_dict I.kIn ⟨o, h1, h2.1⟩ ho e (fun z => nomatch z) h
  | @dT a kvs ea =>
    cases (show u = Value.ref a from rx)
    obtain ⟨_, _, xs, _, o, es, ep, h1, h2, _⟩ := (show ObjOk X.prog X.w H s.heap a (.dT kvs) from I.hok a _ ea)
    exact PySem.W.kia_tup PySem.W.kitx_dict I.kIn ⟨o, h1, h2.1⟩ ho e (fun z => nomatch z) h
  | @ins a C dx fs ea cl ha hn htk hm =>
    cases (show u = Value.ref a from rx)
    obtain ⟨mA, O, _⟩ := ins_get I.hok ea
    obtain ⟨od, J, _⟩ := O.look
    exact PySem.W.kia_tup (PySem.W.kitx_own (cl.get _) cl.hd ha hn htk hm) I.kIn J ho e (fun z => nomatch z) h
theorem call_isi : CallR X (.builtin "isinstance") (rIsi X.K) := by
  intro pins s σ H xs us Q I r h
  obtain ⟨x, c, t, b, rfl, ty, hc, q⟩ := h
  obtain ⟨u, w', rfl, ru, rw'⟩ := vals2 r
  have fin : ∀ tk, EP X pins σ Q (.bool b) { s with toks := tk } := fun tk => ⟨.bl b, H, I.tok tk, rfl, q⟩
  rcases hc with ⟨n, rfl, e⟩ | ⟨p, ns, rfl, hp, e⟩
  · cases (show w' = Value.type n from rw')
    exact isinst_ok I ru ty e fin
  · cases (show w' = Value.ref p from rw')
    exact isinst_tup I ru ty hp e fin
/-- a type's name as a value -/
theorem pe_ty {x : Str} {n : String} {pos : Pos} (hg : Gl X x) (hm : X.mg x = none) (hv : bootBuiltins x = some (.type n)) (hn : x ≠ "__name__" := by decide) (hd : (x == ("__debug__" : Str)) = false := by decide) : PE X (.Name x pos) (tC (.ty n)) :=
  pe_bltn hg hm hv rfl hn hd
end
end L2

namespace L2
open PySem PySem.Spec PyProof.Rows
/-! ### == and != of lists, of tuples, whose items are flat -/
def eqVs (xs ys : List V) : Bool := xs.length == ys.length && (List.range xs.length).all fun j => eqV (xs.getD j .non) (ys.getD j .non)
theorem eqV_refl {x : V} (f : flatV x = true) : eqV x x = true := by
  cases x <;> simp [eqV] <;> exact absurd (show false = true from f) Bool.false_ne_true
theorem eqVs_refl {xs : List V} (f : xs.all flatV = true) : eqVs xs xs = true := by
  unfold eqVs
  rw [beq_self_eq_true, Bool.true_and, List.all_eq_true]
  intro j hj
  have hj' : j < xs.length := List.mem_range.mp hj
  refine eqV_refl ?_
  rw [List.all_eq_true] at f
  simp only [List.getD, List.getElem?_eq_getElem hj', Option.getD_some]
  exact f _ (List.getElem_mem hj')
theorem eqVs_len {xs ys : List V} (h : xs.length ≠ ys.length) : eqVs xs ys = false := by
  unfold eqVs
  rw [beq_eq_false_iff_ne.mpr h, Bool.false_and]
section
variable {X : Cx}
def rEqS (K : PySem.W.Frag) (b neg : Bool) : R2 := fun x y H Q => ∃ p q xs ys, x = .ref p ∧ y = .ref q ∧ SqB K b H p xs ∧ SqB K b H q ys ∧ xs.all flatV = true ∧ ys.all flatV = true ∧ Q (.bl (if neg then !eqVs xs ys else eqVs xs ys)) H
theorem eqs_items {A : Around} {s : Shared} {xs ys : List V} {its its2 : List Value} (r1 : Vals xs its) (r2 : Vals ys its2) (f1 : xs.all flatV = true) (f2 : ys.all flatV = true) :
    ∀ (j : Nat) (h1 : j < its.toArray.size) (h2 : j < its2.toArray.size), SeqAt.EqAt A s its.toArray[j] its2.toArray[j] (eqV (xs.getD j .non) (ys.getD j .non)) := by
  intro j h1 h2
  have l1 := r1.length
  have l2 := r2.length
  rw [List.size_toArray] at h1 h2
  have g1 : xs[j]? = some (xs.getD j .non) := by simp [List.getD, List.getElem?_eq_getElem (show j < xs.length by omega)]
  have g2 : ys[j]? = some (ys.getD j .non) := by simp [List.getD, List.getElem?_eq_getElem (show j < ys.length by omega)]
  obtain ⟨u1, e1, q1⟩ := r1.get g1
  obtain ⟨u2, e2, q2⟩ := r2.get g2
  have z1 : its.toArray[j] = u1 := by
    have := List.getElem?_eq_some_iff.mp e1
    simpa using this.2
  have z2 : its2.toArray[j] = u2 := by
    have := List.getElem?_eq_some_iff.mp e2
    simpa using this.2
  rw [z1, z2]
  rw [List.all_eq_true] at f1 f2
  exact eqAt_V q1 q2 (f1 _ (List.mem_of_getElem? g1)) (f2 _ (List.mem_of_getElem? g2))
theorem op_eq_seq (b : Bool) (hu : X.A.units < cLine) : OpR X (compareOp .Eq) (rEqS X.K b false) := by
  intro pins s σ H x y v u Q I rx ry h
  obtain ⟨p, q, xs, ys, rfl, rfl, hp, hq, f1, f2, k⟩ := h
  cases rx
  cases ry
  obtain ⟨its, r1, z1, _⟩ := I.seqB hp
  obtain ⟨its2, r2, z2, _⟩ := I.seqB hq
  have l1 := r1.length
  have l2 := r2.length
  have fin : ∀ c : Bool, c = eqVs xs ys → EP X pins σ Q (.bool c) s := fun c e => ⟨.bl c, H, I, rfl, by rw [e]; exact k⟩
  cases b with
  | false =>
    by_cases hl : xs.length = ys.length
    · refine SeqAt.eq_listAt z1 z2 (by rw [List.size_toArray, List.size_toArray]; omega) hu (eqs_items r1 r2 f1 f2) (fin _ ?_)
      unfold eqVs
      rw [hl, beq_self_eq_true, Bool.true_and, List.size_toArray, ← l1, hl]
    · refine SeqAt.eq_list_lengthsAt z1 z2 (by rw [List.size_toArray, List.size_toArray, bne_iff_ne]; omega) hu (fin _ ?_)
      rw [eqVs_len hl]
  | true =>
    refine SeqAt.eq_tupleAt z1 z2 hu (eqs_items r1 r2 f1 f2) (fin _ ?_)
    rw [List.size_toArray, List.size_toArray, ← l1, ← l2]
    by_cases hl : xs.length = ys.length
    · unfold eqVs
      rw [hl, beq_self_eq_true, Bool.true_and, Bool.and_true, Nat.min_self]
    · rw [eqVs_len hl, beq_eq_false_iff_ne.mpr hl, Bool.and_false]
end
end L2

namespace L2
open PySem PySem.Spec PyProof.Rows
/-! ### the same rules over a named K: for a comprehension's block, whose reading may not lean on the block -/
section
variable {X : Cx} {K : PySem.W.Frag}
theorem ixL (h : X.K = K) : IxR X (rIxL K) := h ▸ ix_list
theorem ixT (h : X.K = K) : IxR X (rIxT K) := h ▸ ix_tup
theorem slL (h : X.K = K) : SlR X (rSlL K) := h ▸ sl_list
def rLen (K : PySem.W.Frag) : List V → Hp → VK → Prop := fun xs H Q => ∃ p ys, xs = [.ref p] ∧ (SqL K H p ys ∨ SqT K H p ys) ∧ Q (.int ys.length) H
theorem cLen (h : X.K = K) : CallR X (.builtin "len") (rLen K) := h ▸ call_len_seq
theorem cSum (h : X.K = K) (hc : X.calm = true) (b : Bool) : CallR X (.builtin "sum") (rSum K b) := h ▸ call_sum hc b
theorem cIsi (h : X.K = K) : CallR X (.builtin "isinstance") (rIsi K) := h ▸ call_isi
def rTuple (K : PySem.W.Frag) : List V → Hp → VK → Prop := fun xs H Q => ∃ p ys, xs = [.ref p] ∧ ((SqL K H p ys ∧ ∀ l, H l = none → Q (.ref l) (upd H l (.tup ys))) ∨ (SqT K H p ys ∧ Q (.ref p) H))
theorem cTuple (h : X.K = K) : CallR X (.type "tuple") (rTuple K) := h ▸ call_tuple_of
theorem oEq (h : X.K = K) (b : Bool) (hu : X.A.units < cLine) : OpR X (compareOp .Eq) (rEqS K b false) := h ▸ op_eq_seq b hu
theorem oIn (h : X.K = K) : OpR X (compareOp .In) (rIn K false) := h ▸ op_in_seq
theorem piL {tg l : Expr} {tl : TE} (h : X.K = K) (hl : PE X l tl) : PI X tg l (iList K tl) := h ▸ pi_list hl
theorem piT {tg l : Expr} {tl : TE} (h : X.K = K) (hl : PE X l tl) : PI X tg l (iTup K tl) := h ▸ pi_tup hl
theorem piZ {a b : Expr} {ta : TA} {p pos tpos : Pos} {tes : List Expr} {tn : Nat} (h : X.K = K) (b1 b2 : Bool) (hg : Gl X "zip") (hm : X.mg "zip" = none) (ha : PA X [a, b] ta) (hs : starEach [a, b] X.env = [(false, eval a X.env), (false, eval b X.env)] := by rfl) (hs2 : starEach [b] X.env = [(false, eval b X.env)] := by rfl) :
    PI X (.Tuple tes tn tpos) (.Call (.Name "zip" p) [a, b] [] pos) (iZip K b1 b2 ta) := h ▸ pi_zip b1 b2 hg hm ha hs hs2
theorem pgT {es : List Expr} {k : Nat} {t : TGs} {n : Nat} {pos : Pos} (h : X.K = K) (hc : X.calm = true) (hh : PGs X es t) (hn : (assignEach es X.env).length = n := by rfl) (hst : (assignEach es X.env).findIdx? (·.1) = none := by rfl) :
    PG X (.Tuple es k pos) (gTup K n t) := h ▸ pg_tup hc hh hn hst
end
end L2

namespace HT
open PySem PyProof.Rows
section
variable {prog : Program} {w : World} {A : Around} {E : Value → Shared → Prop} {s : Shared}
end
end HT
namespace L2
open PySem PySem.Spec PyProof.Rows
section
variable {X : Cx} {K : PySem.W.Frag}
/-- cutting a list of any items -/
def cutL {α : Type} (xs : List α) (lo hi : Option Int) : List α := (xs.drop (HT.sIx xs.length 0 lo)).take (HT.sIx xs.length xs.length hi - HT.sIx xs.length 0 lo)
theorem cutV_map (ns : List Int) (lo hi : Option Int) : cutV (ns.map V.int) lo hi = (cutL ns lo hi).map V.int := by
  unfold cutV cutL
  rw [List.length_map, List.map_take, List.map_drop]
theorem cutL_len {α : Type} (xs : List α) (lo hi : Option Int) : (cutL xs lo hi).length ≤ xs.length := by
  unfold cutL
  rw [List.length_take, List.length_drop]
  omega
theorem Same.tup {K : PySem.W.Frag} {H H' : Hp} {a : Addr} {xs : List V} (e : Same H H') (h : SqT K H a xs) : SqT K H' a xs := by
  rcases h with (h | ⟨o, h⟩) | h
  · exact .inl (.inl (e _ _ h))
  · exact .inl (.inr ⟨o, e _ _ h⟩)
  · exact .inr h
theorem Same.lay {H : Hp} {p : Addr} {o : HO} (h : H p = none) : Same H (upd H p o) := fun b o' e => by rw [upd_ne (ne_of_none e h)]; exact e
end
end L2

namespace L2
open PySem PySem.Spec PyProof.Rows
/-! ### min, max of a list, by a key or plain, with a default -/
def mmL (b : Bool) : String := if b then "min.loop" else "max.loop"
def mmI (b : Bool) : String := if b then "min" else "max"
def mmOp (b : Bool) : CmpOp := if b then .Lt else .Gt
/-- the place of the best of the first i: bt i j: i is better than j -/
def pick (bt : Nat → Nat → Bool) : Nat → Option Nat
  | 0 => none
  | i + 1 => match pick bt i with
    | none => some i
    | some j => if bt i j then some i else some j
theorem pick_lt {bt : Nat → Nat → Bool} : ∀ {n j : Nat}, pick bt n = some j → j < n
  | 0, _, h => by cases h
  | n + 1, j, h => by
    unfold pick at h
    cases e : pick bt n with
    | none => rw [e] at h; cases h; exact Nat.lt_succ_self _
    | some k =>
      rw [e] at h
      have := pick_lt e
      simp only at h
      split at h
      · cases h; exact Nat.lt_succ_self _
      · cases h; omega
theorem pick_none {bt : Nat → Nat → Bool} : ∀ {n : Nat}, pick bt n = none → n = 0
  | 0, _ => rfl
  | n + 1, h => by
    unfold pick at h
    cases e : pick bt n with
    | none => rw [e] at h; cases h
    | some k => rw [e] at h; simp only at h; split at h <;> cases h
theorem den_builtin {P : Program} {w : World} {id : String} {args : Args} {b : Builtin} (hb : entryFor table id = some b) : (model P w).den (.builtin id args) = b args := by
  show (match entryFor table id with | some b => b args | none => unsupported ((withoutEnding? id "#data").getD id)) = _
  rw [hb]
abbrev bestOb (its : Array Value) (c : Nat) : Obj := { cls := .type "list", data := .seq its c }
/-- what the loop keeps: nothing yet, or the best item with its key's value -/
def Kept (xs : List V) (KV : Nat → V → Prop) (jb : Option Nat) (its : Array Value) : Prop := match jb with
  | none => its = #[]
  | some j => ∃ x y u v, xs[j]? = some x ∧ RelV x u ∧ KV j y ∧ RelV y v ∧ its = #[u, v]
section
variable {X : Cx} {pins : List (Addr × Obj)} {σ : St} {H0 : Hp} {a I S : Addr} {xs : List V} {KV : Nat → V → Prop} {bt : Nat → Nat → Bool} {key : Value} {kw : List (Str × Value)} {R : Result → Shared → Prop}
theorem mm_loop (b : Bool) (hc : X.calm = true) (hSI : S ≠ I)
    (hl : SqL X.K H0 a xs)
    (hkey : (key = .none ∧ ∀ i x, xs[i]? = some x → KV i x) ∨ ∃ q, key = .ref q ∧ ∀ i x u (pins : List (Addr × Obj)) s H, xs[i]? = some x → Inv X pins σ H s → RelV x u → Same H0 H →
      wpAny (model X.prog X.w) X.A.in1 (call (.ref q) [u]) (fun v s' => ∃ y H', Inv X pins σ H' s' ∧ RelV y v ∧ KV i y ∧ Same H H') (fun _ _ => False) s)
    (hcmp : ∀ i j y z v u s H (pins : List (Addr × Obj)) (Q : Value → Shared → Prop) (E : Value → Shared → Prop), KV i y → KV j z → Inv X pins σ H s → Same H0 H → RelV y v → RelV z u → Q (.bool (bt i j)) s → wpAny (model X.prog X.w) X.A.in1 (richCompare (mmOp b) v u) Q E s)
    (hR : ∀ s' H', Inv X pins σ H' s' → Same H0 H' → match pick bt xs.length with
      | none => ∀ d dn r, kw = (dn, d) :: r → R (.ok (.ret d)) s'
      | some j => ∀ x u, xs[j]? = some x → RelV x u → R (.ok (.ret u)) s')
    (hkw : kw = [] → 0 < xs.length) {s : Shared} (I0 : Inv X pins σ H0 s) (it0 : s.heap.IsListIter I a 0) (fI : FpOk X pins H0 I) (fS : FpOk X pins H0 S) {c0 : Nat} (s0 : s.heap.get? S = some (bestOb #[] c0)) :
    codeAny (model X.prog X.w) X.A (.builtin (mmL b) ⟨[.ref I, key, .ref S], kw⟩) R s := by
  have hn1 : (toString "min" ++ toString ".loop" : String) = "min.loop" := by decide
  have hn2 : (toString "max" ++ toString ".loop" : String) = "max.loop" := by decide
  have stI : ∀ {H' : Hp}, H' I = none → FpOk X pins H' I := fun h => ⟨h, fI.2⟩
  have stS : ∀ {H' : Hp}, H' S = none → FpOk X pins H' S := fun h => ⟨h, fS.2⟩
  have quiet : (Code.builtin (mmL b) ⟨[.ref I, key, .ref S], kw⟩).quiet = true := by
    cases b
    · exact plainId_quiet PySem.F.plain_max_loop _
    · exact plainId_quiet PySem.F.plain_min_loop _
  refine codeAny_loop quiet (fun n s' => ∃ i H its c, Inv X pins σ H s' ∧ Same H0 H ∧ s'.heap.IsListIter I a i ∧ H I = none ∧ H S = none ∧ s'.heap.get? S = some (bestOb its c) ∧ Kept xs KV (pick bt i) its ∧ i ≤ xs.length ∧ n = xs.length - i) ?_ xs.length
    ⟨0, H0, #[], c0, I0, Same.refl _, it0, fI.1, fS.1, s0, rfl, Nat.zero_le _, rfl⟩
  rintro n s1 ⟨i, H, its, c, I1, S1, hit, hI, hS, hob, hk, hi, rfl⟩
  obtain ⟨vs, rv, pl, hz⟩ := I1.list (S1.seq hl)
  have hlen := rv.length
  have isz : its.size ≤ 2 := by
    cases e : pick bt i with
    | none => rw [e] at hk; rw [show its = #[] from hk]; decide
    | some j => rw [e] at hk; obtain ⟨_, _, _, _, _, _, _, _, rfl⟩ := hk; exact Nat.le_refl 2
  have hh : X.A.in1.handled = none := I1.ok.hd hc
  cases hv : vs[i]? with
  | none =>
    have hil : i = xs.length := by
      have := List.getElem?_eq_none_iff.mp hv
      omega
    cases b
    all_goals
      first | rw [show mmL false = "max.loop" from rfl] | rw [show mmL true = "min.loop" from rfl]
      first | rw [Around.under_plainId PySem.F.plain_max_loop _] | rw [Around.under_plainId PySem.F.plain_min_loop _]
      first | rw [den_builtin PySem.F.entry_max_loop] | rw [den_builtin PySem.F.entry_min_loop]
      show wpAny _ X.A.in1 (seqItems? (.ref S) >>= _) _ _ _
      refine wpAny_bind (wpAny_seqItems hob rfl ?_)
      show wpAny _ X.A.in1 (tryCatch (pyNext (.ref I)) _ >>= _) _ _ _
      refine wpAny_bind (wpAny_tryCatch (wpAny_pyNext_list_end hh hit pl.isList (by simpa using hv) fun h' k' => ?_))
      have I2 : Inv X pins σ H { s1 with heap := h' } := I1.turned (t' := s1.toks) (fun b' o hb e => k' b' o hb e) hI fI.2.1 fI.2.2.2.1 fI.2.2.2.2.1 fI.2.2.2.2.2
      have hob2 := k' S _ hSI hob
      cases e : pick bt i with
      | none =>
        rw [e] at hk
        have hk : its = #[] := hk
        subst hk
        cases kw with
        | nil => exact absurd (pick_none e) (by have := hkw rfl; omega)
        | cons p r =>
          refine wpAny_bind (wpAny_rule (wpAny_pure ?_))
          have := hR _ H I2 S1
          rw [← hil, e] at this
          exact this p.2 p.1 r rfl
      | some j =>
        rw [e] at hk
        obtain ⟨x, y, u, v, g1, g2, g3, g4, rfl⟩ := hk
        show wpAny _ X.A.in1 (updateSeq S (fun _ => #[]) >>= _) _ _ _
        refine wpAny_bind (wpAny_updateSeq hob2 rfl (wpAny_bind (wpAny_letGo (wpAny_pure ?_))))
        have := hR _ H (I2.turned (it := S) (h' := h'.update S (Obj.mapSeq fun _ => #[])) (t' := s1.toks) (fun b' o hb e => (Heap.get?_update_other _ _ (Ne.symm hb)).trans e) hS fS.2.1 fS.2.2.2.1 fS.2.2.2.2.1 fS.2.2.2.2.2) S1
        rw [← hil, e] at this
        exact this x u g1 g2
  | some u =>
    have hil : i < vs.length := (List.getElem?_eq_some_iff.mp hv).1
    obtain ⟨x, hx⟩ : ∃ x, xs[i]? = some x := ⟨xs[i]'(by omega), List.getElem?_eq_getElem (by omega)⟩
    obtain ⟨u', hu', ru⟩ := rv.get hx
    rw [hv] at hu'
    cases hu'
    -- behind the key: the comparison, the store
    have tail : ∀ (s2 : Shared) (H2 : Hp) (y : V) (v : Value) (o2 : Obj), Inv X (pins ++ [(I, o2), (S, bestOb its c)]) σ H2 s2 → Same H H2 → RelV y v → KV i y → (o2.cls = .type "list_iterator" ∧ o2.data = .fields #[.ref a, .int ((i + 1 : Nat) : Int) 0]) →
        ∀ jn, jn = pick bt (i + 1) → ∀ its', Kept xs KV jn its' → its'.size = 2 → ∀ T : Nat, ∃ m, m < xs.length - i ∧ ∃ i' H' its c, Inv X pins σ H' { s2 with heap := s2.heap.update S (Obj.mapSeq fun _ => its'), toks := T } ∧ Same H0 H' ∧ (s2.heap.update S (Obj.mapSeq fun _ => its')).IsListIter I a i' ∧ H' I = none ∧ H' S = none ∧ (s2.heap.update S (Obj.mapSeq fun _ => its')).get? S = some (bestOb its c) ∧ Kept xs KV (pick bt i') its ∧ i' ≤ xs.length ∧ m = xs.length - i' := by
      intro s2 H2 y v o2 J S2 ry hy ho jn hj its' hk' hz' T
      have q1 := J.pin (I, o2) (by simp)
      have q2 := J.pin (S, bestOb its c) (by simp)
      have J1 : Inv X pins σ H2 s2 := J.unpinned
      have g := get?_update_seq (c := "list") q2.1 (fun _ => its')
      refine ⟨xs.length - (i + 1), by omega, i + 1, H2, its', _, J1.turned (it := S) (fun b' o hb e => (Heap.get?_update_other _ _ (Ne.symm hb)).trans e) q2.2.1 fS.2.1 fS.2.2.2.1 fS.2.2.2.2.1 fS.2.2.2.2.2, S1.trans S2, ⟨o2, (Heap.get?_update_other _ _ hSI).trans q1.1, ho.1, ho.2⟩, q1.2.1, q2.2.1, g, by rw [← hj]; exact hk', by omega, rfl⟩
    have tail0 : ∀ (s2 : Shared) (H2 : Hp) (o2 : Obj), Inv X (pins ++ [(I, o2), (S, bestOb its c)]) σ H2 s2 → Same H H2 → (o2.cls = .type "list_iterator" ∧ o2.data = .fields #[.ref a, .int ((i + 1 : Nat) : Int) 0]) → Kept xs KV (pick bt (i + 1)) its →
        ∃ m, m < xs.length - i ∧ ∃ i' H' its c, Inv X pins σ H' s2 ∧ Same H0 H' ∧ s2.heap.IsListIter I a i' ∧ H' I = none ∧ H' S = none ∧ s2.heap.get? S = some (bestOb its c) ∧ Kept xs KV (pick bt i') its ∧ i' ≤ xs.length ∧ m = xs.length - i' := by
      intro s2 H2 o2 J S2 ho hk'
      have q1 := J.pin (I, o2) (by simp)
      have q2 := J.pin (S, bestOb its c) (by simp)
      exact ⟨xs.length - (i + 1), by omega, i + 1, H2, its, c, J.unpinned, S1.trans S2, ⟨o2, q1.1, ho.1, ho.2⟩, q1.2.1, q2.2.1, q2.1, hk', by omega, rfl⟩
    cases b
    all_goals
      first | rw [show mmL false = "max.loop" from rfl] | rw [show mmL true = "min.loop" from rfl]
      first | rw [Around.under_plainId PySem.F.plain_max_loop _] | rw [Around.under_plainId PySem.F.plain_min_loop _]
      first | rw [den_builtin PySem.F.entry_max_loop] | rw [den_builtin PySem.F.entry_min_loop]
      show wpAny _ X.A.in1 (seqItems? (.ref S) >>= _) _ _ _
      refine wpAny_bind (wpAny_seqItems hob rfl ?_)
      show wpAny _ X.A.in1 (tryCatch (pyNext (.ref I)) _ >>= _) _ _ _
      refine wpAny_bind (wpAny_tryCatch (wpAny_pyNext_list_item hit pl.isList (x := u) (by simpa using hv) fun h' hit' k' => ?_))
      have I2 : Inv X pins σ H { s1 with heap := h' } := I1.turned (t' := s1.toks) (fun b' o hb e => (k'.2 b' hb).trans e) hI fI.2.1 fI.2.2.2.1 fI.2.2.2.2.1 fI.2.2.2.2.2
      obtain ⟨o2, ho2, hoc, hod⟩ := hit'
      have hob2 : h'.get? S = some (bestOb its c) := (k'.2 S hSI).trans hob
      have I3 : Inv X (pins ++ [(I, o2), (S, bestOb its c)]) σ H { s1 with heap := h' } := I2.pins_of fun p hp => by
        rcases List.mem_append.mp hp with z | z
        · exact I2.pin p (List.mem_append_right _ z)
        · simp only [List.mem_cons, List.not_mem_nil, or_false] at z
          rcases z with rfl | rfl
          · exact ⟨ho2, hI, fI.2.1, fI.2.2.1, fun v q => by rw [hod] at q; cases q⟩
          · exact ⟨hob2, hS, fS.2.1, fS.2.2.1, fun v q => by cases q⟩
      rcases hkey with ⟨rfl, hk0⟩ | ⟨q, rfl, hq⟩
      · refine wpAny_bind (wpAny_pure ?_)
        have hy := hk0 i x hx
        cases e : pick bt i with
        | none =>
          rw [e] at hk
          have hk : its = #[] := hk
          subst hk
          have ep : pick bt (i + 1) = some i := by unfold pick; rw [e]
          refine wpAny_bind (wpAny_updateSeq hob2 rfl ?_)
          first | rw [hn1] | rw [hn2]
          exact wpAny_pure ⟨rfl, tail _ H x u o2 I3 (Same.refl _) ru hy ⟨hoc, hod⟩ _ ep.symm _ ⟨x, x, u, u, hx, ru, hy, ru, rfl⟩ rfl _⟩
        | some j =>
          rw [e] at hk
          obtain ⟨xo, yo, uo, vo, g1, g2, g3, g4, rfl⟩ := hk
          show wpAny _ X.A.in1 (tryCatch (holding [u, u] (richCompare _ u vo >>= _)) _ >>= _) _ _ _
          refine wpAny_bind (wpAny_tryCatch (wpAny_holding (wpAny_bind (hcmp i j x yo u vo _ H _ _ _ hy g3 I3 S1 ru g4 (wpAny_bind (wpAny_holding (wpAny_truthy_bool (wpAny_bind (wpAny_letGo (wpAny_pure ?_)))))))))) 
          cases eb : bt i j with
          | true =>
            have ep : pick bt (i + 1) = some i := by unfold pick; rw [e]; simp only [eb, if_true]
            refine wpAny_bind (wpAny_updateSeq hob2 rfl (wpAny_bind (wpAny_letGo ?_)))
            first | rw [hn1] | rw [hn2]
            exact wpAny_pure ⟨rfl, tail _ H x u o2 I3 (Same.refl _) ru hy ⟨hoc, hod⟩ _ ep.symm _ ⟨x, x, u, u, hx, ru, hy, ru, rfl⟩ rfl _⟩
          | false =>
            have ep : pick bt (i + 1) = some j := by unfold pick; rw [e]; simp only [eb, Bool.false_eq_true, if_false]
            refine wpAny_bind (wpAny_letGo ?_)
            first | rw [hn1] | rw [hn2]
            exact wpAny_pure ⟨rfl, tail0 _ H o2 I3 (Same.refl _) ⟨hoc, hod⟩ (by rw [ep]; exact ⟨xo, yo, uo, vo, g1, g2, g3, g4, rfl⟩)⟩
      · show wpAny _ X.A.in1 (tryCatch (holding [u] (call (.ref q) [u])) _ >>= _) _ _ _
        refine wpAny_bind (wpAny_tryCatch (wpAny_holding (wpAny_mono (hq i x u _ _ H hx I3 ru S1) (fun v s2 ⟨y, H2, J, ry, hy, S2⟩ => ?_) fun _ _ z => z.elim)))
        have hob3 := (J.pin (S, bestOb its c) (by simp)).1
        cases e : pick bt i with
        | none =>
          rw [e] at hk
          have hk : its = #[] := hk
          subst hk
          have ep : pick bt (i + 1) = some i := by unfold pick; rw [e]
          refine wpAny_bind (wpAny_updateSeq hob3 rfl ?_)
          first | rw [hn1] | rw [hn2]
          exact wpAny_pure ⟨rfl, tail _ H2 y v o2 J S2 ry hy ⟨hoc, hod⟩ _ ep.symm _ ⟨x, y, u, v, hx, ru, hy, ry, rfl⟩ rfl _⟩
        | some j =>
          rw [e] at hk
          obtain ⟨xo, yo, uo, vo, g1, g2, g3, g4, rfl⟩ := hk
          show wpAny _ X.A.in1 (tryCatch (holding [u, v] (richCompare _ v vo >>= _)) _ >>= _) _ _ _
          refine wpAny_bind (wpAny_tryCatch (wpAny_holding (wpAny_bind (hcmp i j y yo v vo _ H2 _ _ _ hy g3 J (S1.trans S2) ry g4 (wpAny_bind (wpAny_holding (wpAny_truthy_bool (wpAny_bind (wpAny_letGo (wpAny_pure ?_))))))))))
          cases eb : bt i j with
          | true =>
            have ep : pick bt (i + 1) = some i := by unfold pick; rw [e]; simp only [eb, if_true]
            refine wpAny_bind (wpAny_updateSeq hob3 rfl (wpAny_bind (wpAny_letGo ?_)))
            first | rw [hn1] | rw [hn2]
            exact wpAny_pure ⟨rfl, tail _ H2 y v o2 J S2 ry hy ⟨hoc, hod⟩ _ ep.symm _ ⟨x, y, u, v, hx, ru, hy, ry, rfl⟩ rfl _⟩
          | false =>
            have ep : pick bt (i + 1) = some j := by unfold pick; rw [e]; simp only [eb, Bool.false_eq_true, if_false]
            refine wpAny_bind (wpAny_letGo ?_)
            first | rw [hn1] | rw [hn2]
            exact wpAny_pure ⟨rfl, tail0 _ H2 o2 J S2 ⟨hoc, hod⟩ (by rw [ep]; exact ⟨xo, yo, uo, vo, g1, g2, g3, g4, rfl⟩)⟩
end
end L2

namespace L2
open PySem PySem.Spec PyProof.Rows
theorem argsD (b : Bool) (a d : Value) : argsOk (mmI b) ⟨[a], [(Str.ofString "default", d)]⟩ := by cases b <;> (unfold argsOk; kernel_rfl)
theorem argsKD (b : Bool) (a v d : Value) : argsOk (mmI b) ⟨[a], [(Str.ofString "key", v), (Str.ofString "default", d)]⟩ := by cases b <;> (unfold argsOk; kernel_rfl)
theorem args1 (b : Bool) (a : Value) : argsOk (mmI b) ⟨[a], []⟩ := by cases b <;> (unfold argsOk; kernel_rfl)
section
variable {X : Cx} {pins : List (Addr × Obj)} {σ : St} {H : Hp} {s : Shared} {a : Addr} {xs : List V} {KV : Nat → V → Prop} {bt : Nat → Nat → Bool} {Q : VK}
/-- the three forms of a call: plain; with a default; with a key and a default -/
inductive MmKw : List (Str × Value) → Value → List (Str × Value) → Prop
  | one : MmKw [] .none []
  | dflt (d : Value) : MmKw [(Str.ofString "default", d)] .none [(Str.ofString "default", d)]
  | key (q : Addr) (d : Value) : MmKw [(Str.ofString "key", .ref q), (Str.ofString "default", d)] (.ref q) [(Str.ofString "default", d)]
theorem mm_call (b : Bool) {kws kw : List (Str × Value)} {key : Value} (hkw : MmKw kws key kw) (hc : X.calm = true) (I0 : Inv X pins σ H s) (hl : SqL X.K H a xs)
    (hkey : (key = .none ∧ ∀ i x, xs[i]? = some x → KV i x) ∨ ∃ q, key = .ref q ∧ ∀ i x u (pins : List (Addr × Obj)) s H', xs[i]? = some x → Inv X pins σ H' s → RelV x u → Same H H' →
      wpAny (model X.prog X.w) X.A.in1 (call (.ref q) [u]) (fun v s' => ∃ y H2, Inv X pins σ H2 s' ∧ RelV y v ∧ KV i y ∧ Same H' H2) (fun _ _ => False) s)
    (hcmp : ∀ i j y z v u s H' (pins : List (Addr × Obj)) (Q : Value → Shared → Prop) (E : Value → Shared → Prop), KV i y → KV j z → Inv X pins σ H' s → Same H H' → RelV y v → RelV z u → Q (.bool (bt i j)) s → wpAny (model X.prog X.w) X.A.in1 (richCompare (mmOp b) v u) Q E s)
    (hn : kw = [] → 0 < xs.length) (hd : ∀ dn d r, kw = (dn, d) :: r → d = .none)
    (hQ : ∀ H', Same H H' → match pick bt xs.length with | none => Q .non H' | some j => ∀ x, xs[j]? = some x → Q x H') :
    wpAny (model X.prog X.w) X.A (call (.builtin (mmI b)) [.ref a] kws) (EP X pins σ Q) X.xe s := by
  have hn1 : (toString "min" ++ toString ".loop" : String) = "min.loop" := by decide
  have hn2 : (toString "max" ++ toString ".loop" : String) = "max.loop" := by decide
  obtain ⟨vs, rv, pl, hz⟩ := I0.list hl
  have hls := pl.isList
  have e1 : (s.heap.push { cls := .type "list_iterator", data := .fields #[.ref a, .int 0 0] }).objs.size = s.heap.objs.size + 1 := Heap.size_push ..
  have I1 : Inv X pins σ H { s with heap := (s.heap.push { cls := .type "list_iterator", data := .fields #[.ref a, .int 0 0] }).push (bestOb #[] 0) } := I0.kept (t' := s.toks) fun b' o e => Heap.get?_push_of_some _ (Heap.get?_push_of_some _ e)
  have gI : ((s.heap.push { cls := .type "list_iterator", data := .fields #[.ref a, .int 0 0] }).push (bestOb #[] 0)).IsListIter s.heap.objs.size a 0 := ⟨_, Heap.get?_push_of_some _ (Heap.get?_push_size _ rfl), rfl, rfl⟩
  have gS : ((s.heap.push { cls := .type "list_iterator", data := .fields #[.ref a, .int 0 0] }).push (bestOb #[] 0)).get? (s.heap.push { cls := .type "list_iterator", data := .fields #[.ref a, .int 0 0] }).objs.size = some (bestOb #[] 0) := Heap.get?_push_size _ rfl
  have fI : FpOk X pins H s.heap.objs.size := I0.fpOk (Nat.le_refl _) (I0.hok.fresh (Nat.le_refl _))
  have fS : FpOk X pins H (s.heap.push { cls := .type "list_iterator", data := .fields #[.ref a, .int 0 0] }).objs.size := by
    rw [e1]; exact I0.fpOk (Nat.le_succ _) (I0.hok.fresh (Nat.le_succ _))
  have nSI : (s.heap.push { cls := .type "list_iterator", data := .fields #[.ref a, .int 0 0] }).objs.size ≠ s.heap.objs.size := by rw [e1]; exact Nat.ne_of_gt (Nat.lt_succ_self _)
  have lp : codeAny (model X.prog X.w) X.A (.builtin (mmL b) ⟨[.ref s.heap.objs.size, key, .ref (s.heap.push { cls := .type "list_iterator", data := .fields #[.ref a, .int 0 0] }).objs.size], kw⟩)
      (fun r s' => match r with | .ok (.ret v) => EP X pins σ Q v s' | .ok _ => False | .error e => X.xe e s') { s with heap := (s.heap.push { cls := .type "list_iterator", data := .fields #[.ref a, .int 0 0] }).push (bestOb #[] 0) } := by
    refine mm_loop b hc nSI hl hkey hcmp ?_ hn I1 gI fI fS gS
    intro s' H' I' S'
    have q := hQ H' S'
    cases e : pick bt xs.length with
    | none =>
      rw [e] at q
      intro d dn r hk
      have hd' := hd dn d r hk
      subst hd'
      exact ⟨.non, H', I', rfl, q⟩
    | some j =>
      rw [e] at q
      intro x u hx ru
      exact ⟨x, H', I', ru, q x hx⟩
  cases b with
  | false =>
    cases hkw with
    | one =>
      refine PyProof.Rows.kmk_tree PySem.F.kind_max PySem.F.plain_max PySem.F.entry_max (args1 false _) ?_
      show wpAny _ X.A.in1 (Builtin.Builtins.bindParams "max" ["key", "default"] 0 ⟨[], []⟩ >>= _) _ _ s
      refine wpAny_bind (wpAny_of_eq (show Builtin.Builtins.bindParams "max" ["key", "default"] 0 ⟨[], []⟩ = pure [none, none] from rfl) ?_)
      refine wpAny_bind (wpAny_pure ?_)
      refine wpAny_bind (wpAny_pyIter_list hls ?_)
      refine wpAny_bind (wpAny_newList ?_ (Nat.zero_le _))
      rw [hn2]
      exact wpAny_pure ⟨plainId_quiet PySem.F.plain_max_loop _, lp⟩
    | dflt d =>
      refine PyProof.Rows.kmk_tree PySem.F.kind_max PySem.F.plain_max PySem.F.entry_max (argsD false _ _) ?_
      show wpAny _ X.A.in1 (Builtin.Builtins.bindParams "max" ["key", "default"] 0 ⟨[], [(Str.ofString "default", d)]⟩ >>= _) _ _ s
      refine wpAny_bind (wpAny_of_eq (show Builtin.Builtins.bindParams "max" ["key", "default"] 0 ⟨[], [(Str.ofString "default", d)]⟩ = pure [none, some d] from rfl) ?_)
      refine wpAny_bind (wpAny_pure ?_)
      refine wpAny_bind (wpAny_pyIter_list hls ?_)
      refine wpAny_bind (wpAny_newList ?_ (Nat.zero_le _))
      rw [hn2]
      exact wpAny_pure ⟨plainId_quiet PySem.F.plain_max_loop _, lp⟩
    | key q d =>
      refine PyProof.Rows.kmk_tree PySem.F.kind_max PySem.F.plain_max PySem.F.entry_max (argsKD false _ _ _) ?_
      show wpAny _ X.A.in1 (Builtin.Builtins.bindParams "max" ["key", "default"] 0 ⟨[], [(Str.ofString "key", .ref q), (Str.ofString "default", d)]⟩ >>= _) _ _ s
      refine wpAny_bind (wpAny_of_eq (show Builtin.Builtins.bindParams "max" ["key", "default"] 0 ⟨[], [(Str.ofString "key", .ref q), (Str.ofString "default", d)]⟩ = pure [some (.ref q), some d] from rfl) ?_)
      refine wpAny_bind (wpAny_pure ?_)
      refine wpAny_bind (wpAny_pyIter_list hls ?_)
      refine wpAny_bind (wpAny_newList ?_ (Nat.zero_le _))
      rw [hn2]
      exact wpAny_pure ⟨plainId_quiet PySem.F.plain_max_loop _, lp⟩
  | true =>
    cases hkw with
    | one =>
      refine PyProof.Rows.kmk_tree PySem.F.kind_min PySem.F.plain_min PySem.F.entry_min (args1 true _) ?_
      show wpAny _ X.A.in1 (Builtin.Builtins.bindParams "min" ["key", "default"] 0 ⟨[], []⟩ >>= _) _ _ s
      refine wpAny_bind (wpAny_of_eq (show Builtin.Builtins.bindParams "min" ["key", "default"] 0 ⟨[], []⟩ = pure [none, none] from rfl) ?_)
      refine wpAny_bind (wpAny_pure ?_)
      refine wpAny_bind (wpAny_pyIter_list hls ?_)
      refine wpAny_bind (wpAny_newList ?_ (Nat.zero_le _))
      rw [hn1]
      exact wpAny_pure ⟨plainId_quiet PySem.F.plain_min_loop _, lp⟩
    | dflt d =>
      refine PyProof.Rows.kmk_tree PySem.F.kind_min PySem.F.plain_min PySem.F.entry_min (argsD true _ _) ?_
      show wpAny _ X.A.in1 (Builtin.Builtins.bindParams "min" ["key", "default"] 0 ⟨[], [(Str.ofString "default", d)]⟩ >>= _) _ _ s
      refine wpAny_bind (wpAny_of_eq (show Builtin.Builtins.bindParams "min" ["key", "default"] 0 ⟨[], [(Str.ofString "default", d)]⟩ = pure [none, some d] from rfl) ?_)
      refine wpAny_bind (wpAny_pure ?_)
      refine wpAny_bind (wpAny_pyIter_list hls ?_)
      refine wpAny_bind (wpAny_newList ?_ (Nat.zero_le _))
      rw [hn1]
      exact wpAny_pure ⟨plainId_quiet PySem.F.plain_min_loop _, lp⟩
    | key q d =>
      refine PyProof.Rows.kmk_tree PySem.F.kind_min PySem.F.plain_min PySem.F.entry_min (argsKD true _ _ _) ?_
      show wpAny _ X.A.in1 (Builtin.Builtins.bindParams "min" ["key", "default"] 0 ⟨[], [(Str.ofString "key", .ref q), (Str.ofString "default", d)]⟩ >>= _) _ _ s
      refine wpAny_bind (wpAny_of_eq (show Builtin.Builtins.bindParams "min" ["key", "default"] 0 ⟨[], [(Str.ofString "key", .ref q), (Str.ofString "default", d)]⟩ = pure [some (.ref q), some d] from rfl) ?_)
      refine wpAny_bind (wpAny_pure ?_)
      refine wpAny_bind (wpAny_pyIter_list hls ?_)
      refine wpAny_bind (wpAny_newList ?_ (Nat.zero_le _))
      rw [hn1]
      exact wpAny_pure ⟨plainId_quiet PySem.F.plain_min_loop _, lp⟩
end
end L2

namespace L2
open PySem PySem.Spec PyProof.Rows
section
variable {X : Cx} {K : PySem.W.Frag} {x : Str} {p pos : Pos} {e : Expr} {es : List Expr} {kws : List Keyword} {t tk : TA} {id : String} {ks : List Str}
/-- what the best is: None of no items, else the item at its place -/
def Best (bt : Nat → Nat → Bool) (xs : List V) (H : Hp) (Q : VK) : Prop := ∀ H', Same H H' → match pick bt xs.length with | none => Q .non H' | some j => ∀ x, xs[j]? = some x → Q x H'
/-- min or max of a list of ints that has some -/
def rMm1 (K : PySem.W.Frag) (b : Bool) : List V → Hp → VK → Prop := fun vs H Q => ∃ (a : Addr) (ns : List Int), vs = [.ref a] ∧ SqL K H a (ns.map V.int) ∧ 0 < ns.length ∧ Best (fun i j => if b then decide (ns.getD i 0 < ns.getD j 0) else decide (ns.getD j 0 < ns.getD i 0)) (ns.map V.int) H Q
theorem cMm1 (b : Bool) (hK : X.K = K) (hc : X.calm = true) : CallR X (.builtin (mmI b)) (rMm1 K b) := by
  subst hK
  intro pins s σ H vs us Q I r1 h
  obtain ⟨a, ns, rfl, hl, h0, hb⟩ := h
  obtain ⟨u, rfl, ru⟩ := vals1 r1
  cases ru
  refine mm_call (b := b) (KV := fun i y => y = .int (ns.getD i 0)) (bt := fun i j => if b then decide (ns.getD i 0 < ns.getD j 0) else decide (ns.getD j 0 < ns.getD i 0)) .one hc I hl (.inl ⟨rfl, fun i x hx => ?_⟩) ?_ (fun _ => by rw [List.length_map]; exact h0) (fun dn d r z => nomatch z) hb
  · rw [List.getElem?_map] at hx
    cases e : ns[i]? with
    | none => rw [e] at hx; cases hx
    | some n => rw [e] at hx; cases hx; simp [List.getD, e]
  · rintro i j y z v w' s' H' pins' Q' E' rfl rfl I' S' ry rz hq
    obtain ⟨t1, rfl⟩ := ry
    obtain ⟨t2, rfl⟩ := rz
    cases b with
    | true =>
      show wpAny _ _ (compareOp .Lt _ _) _ _ _
      exact lt_int hq
    | false =>
      show wpAny _ _ (compareOp .Gt _ _) _ _ _
      exact gt_int hq
end
end L2

namespace L2
open PySem PySem.Spec PyProof.Rows
section
variable {X : Cx} {K : PySem.W.Frag}
end
end L2

namespace L2
open PySem PySem.Spec PyProof.Rows
/-- // by a positive divisor below 2^64 -/
def CDivW (i j : Int) : Prop := 0 < j ∧ j < 18446744073709551616
theorem op_fdivW {X : Cx} : OpR X (binaryOp .FloorDiv) (rI CDivW fun i j => .int (i / j)) := opI fun i j _ _ _ _ _ hc q => by
  have h1 : (0 : Int) < j := hc.1
  have h2 : j < 18446744073709551616 := hc.2
  refine floordiv_int (by omega) (by rw [Int.fdiv_eq_ediv_of_nonneg i (by omega)]; exact q) (.inl (PyProof.noPylong_of_log2 ?_))
  have h0 : j.natAbs ≠ 0 := by omega
  have : j.natAbs.log2 < 64 := (Nat.log2_lt h0).mpr (by omega)
  omega
end L2

namespace L2
open PySem PySem.Spec PyProof.Rows
/-! ### a, b = a list of that length -/
section
variable {prog : Program} {w : World} {A : Around} {E : Value → Shared → Prop} {s : Shared}
end
section
variable {X : Cx} {K : PySem.W.Frag} {pos : Pos}
/-- xs != [] of any list -/
def rNeNil (K : PySem.W.Frag) : R2 := fun x y H Q => ∃ p q xs, x = .ref p ∧ y = .ref q ∧ SqL K H p xs ∧ SqL K H q [] ∧ Q (.bl (!xs.isEmpty)) H
theorem oNeNil (hK : X.K = K) (hu : X.A.units < cLine) : OpR X (compareOp .NotEq) (rNeNil K) := by
  subst hK
  intro pins s σ H x y v u Q I rx ry h
  obtain ⟨p, q, xs, rfl, rfl, hp, hq, k⟩ := h
  cases rx
  cases ry
  obtain ⟨its, r1, z1, _⟩ := I.list hp
  obtain ⟨its2, r2, z2, _⟩ := I.list hq
  cases r2
  have l1 := r1.length
  cases xs with
  | nil =>
    cases r1
    exact SeqAt.RcNeAt.lists (e := fun _ => true) z1.isList z2.isList rfl hu (fun j h1 h2 => absurd h1 (Nat.not_lt_zero _)) _ _ _ _ ⟨.bl false, H, I, rfl, k⟩
  | cons x xs =>
    refine SeqAt.RcNeAt.lists_lengths z1.isList z2.isList ?_ hu _ _ _ _ ⟨.bl true, H, I, rfl, k⟩
    rw [List.size_toArray, bne_iff_ne, ← l1]
    simp
/-- what is never come to -/
theorem ps_no {st : Stmt} : PS X st (fun _ _ _ => False) := fun _ _ _ _ _ _ h => h.elim
end
end L2

namespace L2
open PySem PySem.Spec PyProof.Rows
/-! ### lists of pairs as tables -/
section
variable {κ : Type} [DecidableEq κ]
def valV (kvs : List (κ × V)) (k : κ) : Option V := (kvs.find? fun kv => decide (kv.1 = k)).map (·.2)
/-- in its place, or at the end -/
def putK (kvs : List (κ × V)) (k : κ) (v : V) : List (κ × V) :=
  if (kvs.any fun kv => decide (kv.1 = k)) = true then kvs.map (fun kv => if kv.1 = k then (kv.1, v) else kv) else kvs ++ [(k, v)]
def dropK (kvs : List (κ × V)) (k : κ) : List (κ × V) := kvs.filter fun kv => decide (kv.1 ≠ k)

theorem valV_pos {p : κ × V} {r : List (κ × V)} {k : κ} (e : p.1 = k) : valV (p :: r) k = some p.2 := by simp [valV, List.find?_cons, e]
theorem valV_neg {p : κ × V} {r : List (κ × V)} {k : κ} (e : ¬ p.1 = k) : valV (p :: r) k = valV r k := by simp [valV, List.find?_cons, e]
theorem valV_any (k : κ) : ∀ kvs : List (κ × V), (kvs.any fun kv => decide (kv.1 = k)) = (valV kvs k).isSome
  | [] => rfl
  | p :: r => by
    rw [List.any_cons]
    by_cases e : p.1 = k
    · simp only [valV_pos e, decide_eq_true e, Bool.true_or, Option.isSome_some]
    · rw [valV_neg e, decide_eq_false e, Bool.false_or]; exact valV_any k r
theorem RelO.isSome_eq {o : Option V} {u : Option Value} (r : RelO o u) : o.isSome = u.isSome := by
  cases o with
  | none => cases u with
    | none => rfl
    | some _ => exact (show False from r).elim
  | some _ => cases u with
    | none => exact (show False from r).elim
    | some _ => rfl
theorem RelO.getD {o : Option V} {u : Option Value} {d : V} {d' : Value} (r : RelO o u) (rd : RelV d d') : RelV (o.getD d) (u.getD d') := by
  cases o with
  | none => cases u with
    | none => exact rd
    | some _ => exact (show False from r).elim
  | some _ => cases u with
    | none => exact (show False from r).elim
    | some _ => exact r

/-- raw tables of the same keys -/
theorem KV.val {kvs : List (κ × V)} {vs : List (κ × Value)} (r : KV kvs vs) (k : κ) : RelO (valV kvs k) (valueAt vs k) := by
  unfold KV at r
  induction r with
  | nil => exact True.intro
  | @cons p q ps qs h t ih =>
    obtain ⟨h1, h2⟩ := h
    by_cases e : p.1 = k
    · have e' : q.1 = k := h1.symm.trans e
      have b : valueAt (q :: qs) k = some q.2 := by simp [valueAt, List.find?_cons, e']
      rw [valV_pos e, b]; exact h2
    · have e' : ¬ q.1 = k := fun z => e (h1.trans z)
      have b : valueAt (q :: qs) k = valueAt qs k := by simp [valueAt, List.find?_cons, e']
      rw [valV_neg e, b]; exact ih
theorem KV.any {kvs : List (κ × V)} {vs : List (κ × Value)} (r : KV kvs vs) (k : κ) : (kvs.any fun kv => decide (kv.1 = k)) = vs.any fun kv => decide (kv.1 = k) := by
  unfold KV at r
  induction r with
  | nil => rfl
  | cons h t ih => rw [List.any_cons, List.any_cons, ih, h.1]
theorem KV.repl {kvs : List (κ × V)} {vs : List (κ × Value)} (r : KV kvs vs) (k : κ) {y : V} {u : Value} (ry : RelV y u) :
    KV (kvs.map fun kv => if kv.1 = k then (kv.1, y) else kv) (vs.map fun kv => if kv.1 = k then (kv.1, u) else kv) := by
  unfold KV at r ⊢
  induction r with
  | nil => exact .nil
  | @cons p q ps qs h t ih =>
    rw [List.map_cons, List.map_cons]
    refine .cons ?_ ih
    obtain ⟨h1, h2⟩ := h
    by_cases e : p.1 = k
    · rw [if_pos e, if_pos (h1.symm.trans e)]; exact ⟨h1, ry⟩
    · rw [if_neg e, if_neg (fun z => e (h1.trans z))]; exact ⟨h1, h2⟩
theorem KV.put {kvs : List (κ × V)} {vs : List (κ × Value)} (r : KV kvs vs) (k : κ) {y : V} {u : Value} (ry : RelV y u) : KV (putK kvs k y) (stored vs k u) := by
  unfold putK stored
  rw [r.any k]
  by_cases e : (vs.any fun kv => decide (kv.1 = k)) = true
  · rw [if_pos e, if_pos e]; exact r.repl k ry
  · rw [if_neg e, if_neg e]; exact Paired.snoc r ⟨rfl, ry⟩
theorem KV.drop {kvs : List (κ × V)} {vs : List (κ × Value)} (r : KV kvs vs) (k : κ) : KV (dropK kvs k) (without vs k) := by
  unfold KV at r ⊢
  unfold dropK without
  induction r with
  | nil => exact .nil
  | @cons p q ps qs h t ih =>
    obtain ⟨h1, h2⟩ := h
    rw [List.filter_cons, List.filter_cons]
    by_cases e : p.1 = k
    · have a : ¬ decide (p.1 ≠ k) = true := by simp [e]
      have b : ¬ decide (q.1 ≠ k) = true := by simp [h1.symm.trans e]
      rw [if_neg a, if_neg b]; exact ih
    · have e' : ¬ q.1 = k := fun z => e (h1.trans z)
      have a : decide (p.1 ≠ k) = true := by simp [e]
      have b : decide (q.1 ≠ k) = true := by simp [e']
      rw [if_pos a, if_pos b]; exact .cons ⟨h1, h2⟩ ih
theorem KV.keys {kvs : List (κ × V)} {vs : List (κ × Value)} (r : KV kvs vs) : kvs.map (·.1) = vs.map (·.1) := by
  unfold KV at r
  induction r with
  | nil => rfl
  | cons h t ih => rw [List.map_cons, List.map_cons, ih, h.1]
theorem KV.length {kvs : List (κ × V)} {vs : List (κ × Value)} (r : KV kvs vs) : kvs.length = vs.length := Paired.length r
end


/-! ### a tracked dict, its keys ints and texts or tuples of these -/
/-- raw entries of a dict with tuple keys -/
abbrev KT (H : Hp) : List (List Key × V) → List (List Key × Addr × Value) → Prop := Paired fun p q => p.1 = q.1 ∧ H q.2.1 = some (.tup (p.1.map kV)) ∧ RelV p.2 q.2.2
theorem KT.val {H : Hp} {kvs : List (List Key × V)} {xs : List (List Key × Addr × Value)} (r : KT H kvs xs) (k : List Key) : RelO (valV kvs k) ((atKey xs k).map (·.2)) := by
  induction r with
  | nil => exact True.intro
  | @cons p q ps qs h t ih =>
    obtain ⟨h1, _, h2⟩ := h
    by_cases e : p.1 = k
    · have e' : q.1 = k := h1.symm.trans e
      have b : atKey (q :: qs) k = some q.2 := by simp [atKey, List.find?_cons, e']
      rw [valV_pos e, b]; exact h2
    · have e' : ¬ q.1 = k := fun z => e (h1.trans z)
      have b : atKey (q :: qs) k = atKey qs k := by simp [atKey, List.find?_cons, e']
      rw [valV_neg e, b]; exact ih
theorem KT.repl {H : Hp} {kvs : List (List Key × V)} {xs : List (List Key × Addr × Value)} (r : KT H kvs xs) (k : List Key) {y : V} {u : Value} (ry : RelV y u) :
    KT H (kvs.map fun kv => if kv.1 = k then (kv.1, y) else kv) (xs.map (putAt k u)) := by
  induction r with
  | nil => exact .nil
  | @cons p q ps qs h t ih =>
    rw [List.map_cons, List.map_cons]
    refine .cons ?_ ih
    obtain ⟨h1, h2, h3⟩ := h
    unfold putAt
    by_cases e : p.1 = k
    · rw [if_pos e, if_pos (h1.symm.trans e)]; exact ⟨h1, h2, ry⟩
    · rw [if_neg e, if_neg (fun z => e (h1.trans z))]; exact ⟨h1, h2, h3⟩
theorem KT.put {H : Hp} {kvs : List (List Key × V)} {xs : List (List Key × Addr × Value)} (r : KT H kvs xs) (k : List Key) {b : Addr} {y : V} {u : Value} (hb : H b = some (.tup (k.map kV))) (ry : RelV y u) :
    KT H (putK kvs k y) (storedH xs k b u) := by
  have e : (kvs.any fun kv => decide (kv.1 = k)) = (atKey xs k).isSome := by
    rw [valV_any, (r.val k).isSome_eq, Option.isSome_map]
  unfold putK storedH
  rw [e]
  by_cases q : (atKey xs k).isSome = true
  · rw [if_pos q, if_pos q]; exact r.repl k ry
  · rw [if_neg q, if_neg q]; exact Paired.snoc r ⟨rfl, hb, ry⟩
section
variable {P : Program} {w : World} {H : Hp} {h : Heap} {a : Addr}
end

/-- what the dict at a holds at the key y -/
def DGet (H : Hp) (a : Addr) (y : V) (r : Option V) : Prop :=
  (∃ kvs k, Rd H a (.dK kvs) ∧ y = kV k ∧ r = valV kvs k) ∨ ∃ kvs k b, Rd H a (.dT kvs) ∧ y = .ref b ∧ H b = some (.tup (k.map kV)) ∧ r = valV kvs k
/-- the heap behind a[y] = v -/
def DPut (H : Hp) (a : Addr) (y v : V) (H' : Hp) : Prop :=
  (∃ kvs k, H a = some (.dK kvs) ∧ y = kV k ∧ kvs.length < sizeLine ∧ H' = upd H a (.dK (putK kvs k v))) ∨
  ∃ kvs k b, H a = some (.dT kvs) ∧ y = .ref b ∧ H b = some (.tup (k.map kV)) ∧ kvs.length < sizeLine ∧ H' = upd H a (.dT (putK kvs k v))
theorem DGet.k {H : Hp} {a : Addr} {kvs : List (Key × V)} {k : Key} (e : H a = some (.dK kvs)) : DGet H a (kV k) (valV kvs k) := .inl ⟨kvs, k, .inl e, rfl, rfl⟩
theorem DGet.t {H : Hp} {a b : Addr} {kvs : List (List Key × V)} {k : List Key} (e : H a = some (.dT kvs)) (eb : H b = some (.tup (k.map kV))) : DGet H a (.ref b) (valV kvs k) := .inr ⟨kvs, k, b, .inl e, rfl, eb, rfl⟩
theorem DPut.k {H : Hp} {a : Addr} {kvs : List (Key × V)} {k : Key} {v : V} (e : H a = some (.dK kvs)) (hl : kvs.length < sizeLine) : DPut H a (kV k) v (upd H a (.dK (putK kvs k v))) := .inl ⟨kvs, k, e, rfl, hl, rfl⟩
theorem DPut.t {H : Hp} {a b : Addr} {kvs : List (List Key × V)} {k : List Key} {v : V} (e : H a = some (.dT kvs)) (eb : H b = some (.tup (k.map kV))) (hl : kvs.length < sizeLine) :
    DPut H a (.ref b) v (upd H a (.dT (putK kvs k v))) := .inr ⟨kvs, k, b, e, rfl, eb, hl, rfl⟩


section
variable {X : Cx} {pins : List (Addr × Obj)} {σ : St} {H : Hp} {s : Shared} {a : Addr} {y v : V} {u r : Value} {o : Option V} {A : Around} {E : Value → Shared → Prop}

end

section
variable {X : Cx} {pins : List (Addr × Obj)} {σ : St} {H : Hp} {s : Shared} {a : Addr} {kvs : List (Key × V)} {k : Key} {u : Value} {A : Around} {E : Value → Shared → Prop}
end


/-! ### readings and rules -/
section
variable {X : Cx} {o i e value : Expr} {pos pos' tpos : Pos} {td ty tv : TE}
end


/-! ### displays -/
section
variable {X : Cx} {pos : Pos}
end
end L2

namespace L2
open PySem PySem.Spec PyProof.Rows
/-! ### a dict's keys one by one, whatever they are -/
def RawD (h : Heap) (d : Addr) (es : Array DictEntry) (ep : Nat) : Prop := ∃ o, h.get? d = some o ∧ o.ExactDict ∧ o.data = .dict es ep
theorem RawD.at {h h' : Heap} {d : Addr} {es : Array DictEntry} {ep : Nat} (x : RawD h d es ep) (k : ∀ o, h.get? d = some o → h'.get? d = some o) : RawD h' d es ep := let ⟨o, e, r⟩ := x; ⟨o, k _ e, r⟩
section
variable {prog : Program} {w : World} {A : Around} {E : Value → Shared → Prop} {s : Shared} {d it : Addr} {es : Array DictEntry} {ep i : Nat}
end
end L2

namespace L2
open PySem PySem.Spec PyProof.Rows
/-! ### the sort of what is in order already -/
section
variable {prog : Program} {w : World} {A : Around} {E : Value → Shared → Prop} {κ : SortKind} {it : Array Keyed}
end
section
variable {prog : Program} {w : World} {A : Around} {E : Value → Shared → Prop} {s : Shared} {a : Addr} {vs : List Value}
end
end L2

namespace L2
open PySem PySem.Spec PyProof.Rows
/-! ### sorted(d): a dict whose keys are pairs of ints, in order -/
theorem Paired.at' {α β : Type} {F : α → β → Prop} : ∀ {l : List α} {m : List β} {i : Nat} {x : α}, Paired F l m → l[i]? = some x → ∃ y, m[i]? = some y ∧ F x y
  | _, _, _, _, .nil, e => by simp at e
  | _, _, 0, _, .cons r _, e => by simp at e; subst e; exact ⟨_, rfl, r⟩
  | _, _, i + 1, x, .cons _ t, e => by simp at e; obtain ⟨y, h1, h2⟩ := Paired.at' t e; exact ⟨y, by simpa using h1, h2⟩
end L2

namespace L2
open PySem PySem.Spec PyProof.Rows
/-! ### d != {}, d == {} -/
section
variable {prog : Program} {w : World} {A : Around} {E : Value → Shared → Prop} {s : Shared} {a b : Addr} {es : Array DictEntry} {ep ep' : Nat}
end
end L2

namespace L2
open PySem PySem.Spec PyProof.Rows
/-! ### t < u, tuples whose items are compared one by one -/
section
open PySem.SeqAt
open PySem.AutoSeq1 (wpAny_loadPart')
open PySem.MeetsSeq PySem.MeetsSeq2 PySem.MeetsSeq3
end
end L2

namespace L2
open PySem PySem.Spec PyProof.Rows
theorem isTup_inj {h : Heap} {a : Addr} {xs ys : Array Value} (hx : IsTup h a xs) (hy : IsTup h a ys) : xs = ys := by
  obtain ⟨o, e1, _, n, d1⟩ := hx
  obtain ⟨o', e2, _, m, d2⟩ := hy
  rw [e1] at e2
  cases e2
  rw [d1] at d2
  cases d2
  rfl
end L2

namespace L2
open PySem PySem.Spec PyProof.Rows
/-! ### for v in d.values() -/
section
variable {prog : Program} {w : World} {A : Around} {E : Value → Shared → Prop} {s : Shared} {d it vw : Addr} {es : Array DictEntry} {ep i : Nat}
end
end L2

namespace L2
open PySem PySem.Spec PyProof.Rows
/-! ### the same of a dict that may be frozen -/
end L2

namespace L2
open PySem PySem.Spec PyProof.Rows
section
variable {X : Cx} {a b c d : Expr} {ta tb tc td : TE} {pos : Pos}
end
/-! ### sorted(xs), fewer than 64 ints -/
end L2

namespace HT
open PySem PyProof.Rows
section
variable {prog : Program} {w : World} {A : Around} {E : Value → Shared → Prop} {s : Shared}
end
end HT
namespace L2
open PySem PySem.Spec PyProof.Rows
section
variable {X : Cx} {K : PySem.W.Frag} {e st : Expr} {te ts : TE} {p2 pos : Pos}
end
end L2

namespace L2
open PySem PySem.Spec PyProof.Rows
end L2

namespace L2
open PySem PySem.Spec PyProof.Rows
/-! ### t > u, tuples whose items are compared one by one -/
section
open PySem.SeqAt
open PySem.AutoSeq1 (wpAny_loadPart')
open PySem.MeetsSeq PySem.MeetsSeq2 PySem.MeetsSeq3
end
end L2

namespace L2
open PySem PySem.Spec PyProof.Rows
end L2

namespace L2
open PySem PySem.Spec PyProof.Rows
/-! ### lo, lo + st, lo + 2 st, .. (n of them) -/
section
variable {X : Cx} {tg : Expr}
/-! ### reversed(list) -/
/-! ### reversed(range(n)) -/
/-! ### {k: v} -/
end
end L2

namespace L2
open PySem PySem.Spec PyProof.Rows
section
variable {X : Cx} {K : PySem.W.Frag}
/-! ### a list of ints, by places -/
theorem ixN_nat {n j : Nat} (h : j < n) : ixN n (j : Int) = some j := by
  unfold ixN
  rw [if_pos (by omega), if_pos (by omega), Int.toNat_natCast]
end
end L2

namespace L2
open PySem PySem.Spec PyProof.Rows
/-! ### min, max of a list of ints -/
theorem pick_le {f : Nat → Int} : ∀ {n j : Nat}, pick (fun i j => decide (f i < f j)) n = some j → ∀ i, i < n → f j ≤ f i
  | 0, _, h => by cases h
  | n + 1, j, h => by
    unfold pick at h
    cases e : pick (fun i j => decide (f i < f j)) n with
    | none =>
      rw [e] at h; cases h
      have := pick_none e
      intro i hi
      have : i = n := by omega
      subst this
      exact Int.le_refl _
    | some k =>
      rw [e] at h
      have ih := pick_le e
      simp only [decide_eq_true_eq] at h
      intro i hi
      split at h
      · cases h
        by_cases z : i = n
        · subst z; exact Int.le_refl _
        · have := ih i (by omega); omega
      · cases h
        by_cases z : i = n
        · subst z; omega
        · exact ih i (by omega)
section
variable {X : Cx} {K : PySem.W.Frag}
/-- b: min, else max -/
def rMmI (K : PySem.W.Frag) (b : Bool) : List V → Hp → VK → Prop := fun vs H Q => ∃ (a : Addr) (ns : List Int), vs = [.ref a] ∧ SqL K H a (ns.map V.int) ∧ 0 < ns.length ∧
  ∀ m H', m ∈ ns → (∀ x ∈ ns, if b then m ≤ x else x ≤ m) → Same H H' → Q (.int m) H'
theorem cMmI (b : Bool) (hK : X.K = K) (hc : X.calm = true) : CallR X (.builtin (mmI b)) (rMmI K b) := by
  intro pins s σ H xs us Q I r h
  refine cMm1 b hK hc pins s σ H xs us Q I r ?_
  obtain ⟨a, ns, e, hl, hn, k⟩ := h
  refine ⟨a, ns, e, hl, hn, fun H' S => ?_⟩
  cases b with
  | true =>
    cases e : pick (fun i j => if true = true then decide (ns.getD i 0 < ns.getD j 0) else decide (ns.getD j 0 < ns.getD i 0)) (ns.map V.int).length with
    | none => have := pick_none e; rw [List.length_map] at this; omega
    | some j =>
      simp only [if_true] at e
      have hj := pick_lt e
      have hle := pick_le (f := fun i => ns.getD i 0) e
      intro x hx
      rw [List.length_map] at hj hle
      rw [List.getElem?_map, List.getElem?_eq_getElem hj] at hx
      cases hx
      refine k _ _ (List.getElem_mem hj) (fun x hx => ?_) S
      obtain ⟨i, hi, rfl⟩ := List.getElem_of_mem hx
      have := hle i hi
      simpa [List.getD, List.getElem?_eq_getElem hj, List.getElem?_eq_getElem hi] using this
  | false =>
    cases e : pick (fun i j => if false = true then decide (ns.getD i 0 < ns.getD j 0) else decide (ns.getD j 0 < ns.getD i 0)) (ns.map V.int).length with
    | none => have := pick_none e; rw [List.length_map] at this; omega
    | some j =>
      simp only [Bool.false_eq_true, if_false] at e
      have hj := pick_lt e
      have e' : pick (fun i j => decide ((fun i => - ns.getD i 0) i < (fun i => - ns.getD i 0) j)) (ns.map V.int).length = some j := by
        rw [← e]; congr 1; funext i j; congr 1; apply propext; show -_ < -_ ↔ _; omega
      have hle := pick_le (f := fun i => - ns.getD i 0) e'
      intro x hx
      rw [List.length_map] at hj hle
      rw [List.getElem?_map, List.getElem?_eq_getElem hj] at hx
      cases hx
      refine k _ _ (List.getElem_mem hj) (fun x hx => ?_) S
      obtain ⟨i, hi, rfl⟩ := List.getElem_of_mem hx
      have := hle i hi
      simp only [List.getD, List.getElem?_eq_getElem hj, List.getElem?_eq_getElem hi, Option.getD_some] at this
      rw [if_neg (by decide)]
      omega
end
end L2

namespace L2
open PySem PySem.Spec PyProof.Rows
/-! ### a call of what a name holds -/
end L2

namespace L2
open PySem PySem.Spec PyProof.Rows
section
variable {X : Cx} {K : PySem.W.Frag}
end
end L2

namespace L2
open PySem PySem.Spec PyProof.Rows
/-! ### == and != of what is nested: tuples, lists, None, to a depth -/
def EqD (K : PySem.W.Frag) (H : Hp) : Nat → V → V → Bool → Prop
  | 0, x, y, b => flatV x = true ∧ flatV y = true ∧ b = eqV x y
  | n + 1, x, y, b => (flatV x = true ∧ flatV y = true ∧ b = eqV x y) ∨
    (∃ (c : Bool) (p q : Addr) (xs ys : List V) (e : Nat → Bool), x = .ref p ∧ y = .ref q ∧ SqB K c H p xs ∧ SqB K c H q ys ∧ (∀ (j : Nat) (x' y' : V), xs[j]? = some x' → ys[j]? = some y' → EqD K H n x' y' (e j)) ∧
      b = ((xs.length == ys.length) && (List.range xs.length).all e) ∧ (p = q → b = true)) ∨
    (∃ (c : Bool) (p : Addr) (xs : List V), x = .ref p ∧ y = .non ∧ SqB K c H p xs ∧ b = false) ∨
    (∃ (c : Bool) (p : Addr) (xs : List V), x = .non ∧ y = .ref p ∧ SqB K c H p xs ∧ b = false)
section
variable {X : Cx} {pins : List (Addr × Obj)} {σ : St} {H : Hp} {s : Shared}
theorem getA {its : List Value} {j : Nat} {u : Value} (h : j < its.toArray.size) (e : its[j]? = some u) : its.toArray[j] = u := by
  have := List.getElem?_eq_some_iff.mp e
  simpa using this.2
theorem eqAt_D (I : Inv X pins σ H s) : ∀ (n : Nat) (A : Around) {x y : V} {b : Bool} {v u : Value}, EqD X.K H n x y b → RelV x v → RelV y u → A.units + n < cLine → SeqAt.EqAt A s v u b := by
  intro n
  induction n with
  | zero =>
    intro A x y b v u h rx ry _
    obtain ⟨f1, f2, rfl⟩ := h
    exact eqAt_V rx ry f1 f2
  | succ n ih =>
    intro A x y b v u h rx ry hu
    rcases h with ⟨f1, f2, rfl⟩ | ⟨c, p, q, xs, ys, e, rfl, rfl, hp, hq, he, hb, hpq⟩ | ⟨c, p, xs, rfl, rfl, hp, rfl⟩ | ⟨c, p, xs, rfl, rfl, hp, rfl⟩
    · exact eqAt_V rx ry f1 f2
    · cases rx
      cases ry
      by_cases epq : p = q
      · subst epq
        rw [hpq rfl]
        exact SeqAt.EqAt.same _
      · refine SeqAt.EqAt.of_refs epq ?_
        obtain ⟨its, r1, z1, _⟩ := I.seqB hp
        obtain ⟨its2, r2, z2, _⟩ := I.seqB hq
        have l1 := r1.length
        have l2 := r2.length
        have items : ∀ (j : Nat) (h1 : j < its.toArray.size) (h2 : j < its2.toArray.size), SeqAt.EqAt A.in1 s its.toArray[j] its2.toArray[j] (e j) := fun j h1 h2 => by
          have h1' : j < xs.length := by rw [List.size_toArray] at h1; omega
          have h2' : j < ys.length := by rw [List.size_toArray] at h2; omega
          obtain ⟨u1, e1, q1⟩ := r1.get (List.getElem?_eq_getElem h1')
          obtain ⟨u2, e2, q2⟩ := r2.get (List.getElem?_eq_getElem h2')
          rw [getA h1 e1, getA h2 e2]
          exact ih A.in1 (he j _ _ (List.getElem?_eq_getElem h1') (List.getElem?_eq_getElem h2')) q1 q2 (by show A.units + 1 + n < cLine; omega)
        cases c with
        | false =>
          by_cases hl : xs.length = ys.length
          · have := SeqAt.RcAt.lists (A := A) (e := e) z1 z2 (by rw [List.size_toArray, List.size_toArray]; omega) (by omega) items
            rw [List.size_toArray, ← l1] at this
            rw [hb, hl, beq_self_eq_true, Bool.true_and, ← hl]
            exact this
          · rw [hb, beq_eq_false_iff_ne.mpr hl, Bool.false_and]
            exact SeqAt.RcAt.lists_lengths z1 z2 (by rw [List.size_toArray, List.size_toArray, bne_iff_ne]; omega) (by omega)
        | true =>
          have := SeqAt.RcAt.tuples (A := A) (e := e) z1 z2 (by omega) items
          rw [List.size_toArray, List.size_toArray, ← l1, ← l2] at this
          by_cases hl : xs.length = ys.length
          · rw [hl, Nat.min_self, beq_self_eq_true, Bool.and_true] at this
            rw [hb, hl, beq_self_eq_true, Bool.true_and]
            exact this
          · rw [beq_eq_false_iff_ne.mpr hl, Bool.and_false] at this
            rw [hb, beq_eq_false_iff_ne.mpr hl, Bool.false_and]
            exact this
    · cases rx
      cases ry
      obtain ⟨its, r1, z1, _⟩ := I.seqB hp
      cases c with
      | false => exact SeqAt.EqAt.list_none z1 (by omega)
      | true => exact SeqAt.EqAt.tuple_none z1 (by omega)
    · cases rx
      cases ry
      obtain ⟨its, r1, z1, _⟩ := I.seqB hp
      cases c with
      | false => exact SeqAt.EqAt.none_list z1 (by omega)
      | true => exact SeqAt.EqAt.none_tuple z1 (by omega)
/-- what is compared first -/
def SeqD (x y : V) : Prop := (∃ p, x = .ref p) ∨ ∃ q, y = .ref q
theorem rc_D (I : Inv X pins σ H s) {n : Nat} {x y : V} {b : Bool} {v u : Value} (h : EqD X.K H (n + 1) x y b) (hs : SeqD x y) (rx : RelV x v) (ry : RelV y u) (hu : X.A.units + (n + 1) < cLine) : SeqAt.RcAt X.A s v u b ∧ SeqAt.RcNeAt X.A s v u (!b) := by
  have hu1 : X.A.units < cLine := by omega
  rcases h with ⟨f1, f2, rfl⟩ | ⟨c, p, q, xs, ys, e, rfl, rfl, hp, hq, he, hb, hpq⟩ | ⟨c, p, xs, rfl, rfl, hp, rfl⟩ | ⟨c, p, xs, rfl, rfl, hp, rfl⟩
  · rcases hs with ⟨p, rfl⟩ | ⟨p, rfl⟩
    · exact absurd (show false = true from f1) Bool.false_ne_true
    · exact absurd (show false = true from f2) Bool.false_ne_true
  · cases rx
    cases ry
    obtain ⟨its, r1, z1, _⟩ := I.seqB hp
    obtain ⟨its2, r2, z2, _⟩ := I.seqB hq
    have l1 := r1.length
    have l2 := r2.length
    have items : ∀ (j : Nat) (h1 : j < its.toArray.size) (h2 : j < its2.toArray.size), SeqAt.EqAt X.A.in1 s its.toArray[j] its2.toArray[j] (e j) := fun j h1 h2 => by
      have h1' : j < xs.length := by rw [List.size_toArray] at h1; omega
      have h2' : j < ys.length := by rw [List.size_toArray] at h2; omega
      obtain ⟨u1, e1, q1⟩ := r1.get (List.getElem?_eq_getElem h1')
      obtain ⟨u2, e2, q2⟩ := r2.get (List.getElem?_eq_getElem h2')
      rw [getA h1 e1, getA h2 e2]
      exact eqAt_D I n X.A.in1 (he j _ _ (List.getElem?_eq_getElem h1') (List.getElem?_eq_getElem h2')) q1 q2 (by show X.A.units + 1 + n < cLine; omega)
    cases c with
    | false =>
      by_cases hl : xs.length = ys.length
      · have h1 := SeqAt.RcAt.lists (A := X.A) (e := e) z1 z2 (by rw [List.size_toArray, List.size_toArray]; omega) (by omega) items
        have h2 := SeqAt.RcNeAt.lists (A := X.A) (e := e) z1 z2 (by rw [List.size_toArray, List.size_toArray]; omega) (by omega) items
        rw [List.size_toArray, ← l1] at h1 h2
        rw [hb, hl, beq_self_eq_true, Bool.true_and, ← hl]
        exact ⟨h1, h2⟩
      · rw [hb, beq_eq_false_iff_ne.mpr hl, Bool.false_and]
        exact ⟨SeqAt.RcAt.lists_lengths z1 z2 (by rw [List.size_toArray, List.size_toArray, bne_iff_ne]; omega) hu1, SeqAt.RcNeAt.lists_lengths z1 z2 (by rw [List.size_toArray, List.size_toArray, bne_iff_ne]; omega) hu1⟩
    | true =>
      have h1 := SeqAt.RcAt.tuples (A := X.A) (e := e) z1 z2 (by omega) items
      have h2 := SeqAt.RcNeAt.tuples (A := X.A) (e := e) z1 z2 (by omega) items
      rw [List.size_toArray, List.size_toArray, ← l1, ← l2] at h1 h2
      by_cases hl : xs.length = ys.length
      · rw [hl, Nat.min_self, beq_self_eq_true, Bool.and_true] at h1 h2
        rw [hb, hl, beq_self_eq_true, Bool.true_and]
        exact ⟨h1, h2⟩
      · rw [beq_eq_false_iff_ne.mpr hl, Bool.and_false] at h1 h2
        rw [hb, beq_eq_false_iff_ne.mpr hl, Bool.false_and]
        exact ⟨h1, h2⟩
  · cases rx
    cases ry
    obtain ⟨its, r1, z1, _⟩ := I.seqB hp
    cases c with
    | false => exact ⟨SeqAt.RcAt.list_none z1 hu1, SeqAt.RcNeAt.list_none z1 hu1⟩
    | true => exact ⟨SeqAt.RcAt.tuple_none z1 hu1, SeqAt.RcNeAt.tuple_none z1 hu1⟩
  · cases rx
    cases ry
    obtain ⟨its, r1, z1, _⟩ := I.seqB hp
    cases c with
    | false => exact ⟨SeqAt.RcAt.none_list z1 hu1, SeqAt.RcNeAt.none_list z1 hu1⟩
    | true => exact ⟨SeqAt.RcAt.none_tuple z1 hu1, SeqAt.RcNeAt.none_tuple z1 hu1⟩
end
/-- x == y, x != y, one of them a list or a tuple -/
def rEqD (K : PySem.W.Frag) (neg : Bool) : R2 := fun x y H Q => ∃ (n : Nat) (b : Bool), n < 60 ∧ EqD K H (n + 1) x y b ∧ SeqD x y ∧ Q (.bl (if neg then !b else b)) H
theorem oEqD {X : Cx} {K : PySem.W.Frag} (hK : X.K = K) (hu : X.A.units + 64 < cLine) : OpR X (compareOp .Eq) (rEqD K false) := by
  subst hK
  intro pins s σ H x y v u Q I rx ry h
  obtain ⟨n, b, hn, hd, hs, k⟩ := h
  exact (rc_D I hd hs rx ry (by omega)).1 _ _ _ _ ⟨.bl b, H, I, rfl, k⟩
section
variable {K : PySem.W.Frag} {H : Hp}
theorem EqD.flat {n : Nat} {x y : V} (h1 : flatV x = true) (h2 : flatV y = true) : EqD K H n x y (eqV x y) := by
  cases n with
  | zero => exact ⟨h1, h2, rfl⟩
  | succ n => exact .inl ⟨h1, h2, rfl⟩
theorem EqD.int {n : Nat} (i j : Int) : EqD K H n (.int i) (.int j) (i == j) := EqD.flat rfl rfl
theorem EqD.int_t {n : Nat} (i : Int) : EqD K H n (.int i) (.int i) true := by
  have := EqD.int (K := K) (H := H) (n := n) i i
  rw [beq_self_eq_true] at this
  exact this
/-- two lists, or two tuples, alike item by item -/
theorem EqD.seq {n : Nat} {c : Bool} {p q : Addr} {xs ys : List V} (hp : SqB K c H p xs) (hq : SqB K c H q ys) (hl : xs.length = ys.length) (h : ∀ (j : Nat) (x y : V), xs[j]? = some x → ys[j]? = some y → EqD K H n x y true) : EqD K H (n + 1) (.ref p) (.ref q) true := by
  refine .inr (.inl ⟨c, p, q, xs, ys, fun _ => true, rfl, rfl, hp, hq, h, ?_, fun _ => rfl⟩)
  rw [hl, beq_self_eq_true, Bool.true_and]
  exact (List.all_eq_true.mpr fun _ _ => rfl).symm
theorem EqD.ints {n : Nat} {c : Bool} {p q : Addr} {ns : List Int} (hp : SqB K c H p (ns.map V.int)) (hq : SqB K c H q (ns.map V.int)) : EqD K H (n + 1) (.ref p) (.ref q) true :=
  EqD.seq hp hq rfl fun j x y h1 h2 => by
    rw [h1] at h2
    cases h2
    rw [List.getElem?_map] at h1
    obtain ⟨i, _, rfl⟩ := Option.map_eq_some_iff.mp h1
    exact EqD.int_t i
theorem SqB.t {p : Addr} {xs : List V} (h : H p = some (.tup xs)) : SqB K true H p xs := SqT.of h
theorem SqB.l {p : Addr} {xs : List V} (h : H p = some (.lst xs)) : SqB K false H p xs := SqL.of h
end
end L2

namespace L2
open PySem PySem.Spec PyProof.Rows
/-! ### xs[::-1] of a list -/
section
variable {X : Cx} {K : PySem.W.Frag} {e st : Expr} {te ts : TE} {p2 pos : Pos}
end
end L2

/-! # isinstance of an exception of an own class -/
namespace L2
open PySem PySem.Spec PyProof.Rows

/-- what a class of exceptions must have, as the fragment's deciders tell it -/
structure XCls (K : PySem.W.Frag) (C : Addr) : Prop where
  ga : PySem.W.findIn K (.ref C) "__getattribute__" = some (some (.builtin "BaseException.__getattribute__"))
  gn : PySem.W.findIn K (.ref C) "__getattr__" = some none
  cl : PySem.W.findIn K (.ref C) "__class__" = some (some (.builtin "object.__class__"))
  ob : PySem.W.mroIn K C (.type "object") = some true
  bx : PySem.W.mroIn K C (.type "BaseException") = some true
  is : (PySem.W.clsIn K C).isSome = true

/-- an exception of the class at C -/
def ExcAt (a C : Addr) (h : Heap) : Prop := ∃ o, h.get? a = some o ∧ o.cls = .ref C ∧ ∃ vs, o.data = .fields vs

section
variable {prog : Program} {w : World} {A : Around} {E : Value → Shared → Prop} {h : Heap} {g : Array GenState} {d : Drawn} {t : Nat} {os : OsState} {a C : Addr} {o : Obj} {K : PySem.W.Frag}

theorem xclass_get {R : Result → Shared → Prop} (X : K.In h) (c : XCls K C) (hx : h.get? a = some o) (hc : o.cls = .ref C) (hq : R (.ok (.ret (.ref C))) ⟨h, g, d, t, os⟩) :
    codeAny (model prog w) A (.call (.builtin "getset_descriptor.__get__") ⟨[.builtin "object.__class__", .ref a, .ref C], []⟩) R ⟨h, g, d, t, os⟩ := by
  have hT5 : (⟨h, g, d, t, os⟩ : Shared).TypeIs (.builtin "object.__class__") "getset_descriptor" := F.typeOf_object_class
  have L : PySem.W.Looks (model prog w) h (isSubtype (.ref C) (.type (".".intercalate ("object.__class__".cutAt '.').dropLast))) true := by
    rw [F.owner_object_class]; exact PySem.W.looks_mroIn X c.ob
  refine codeAny_call_builtin F.slot_gs_get.plain F.entry_gs_get (F.slot_gs_get.check _ _ _ _ _ _ _ _ hT5 (F.args_gs_get _ _ _) ?_)
  repeat (any_goals (first | assumption | (with_reducible refine wpAny_loadPart_at hx ?_; rw [hc]) | with_reducible refine L.at ?_ | wp_step))
  refine ⟨Code.quiet_builtin _ (by decide +kernel), codeAny_builtin F.entry_object_class ?_⟩
  repeat (any_goals (first | assumption | (with_reducible refine wpAny_loadPart_at hx ?_; rw [hc]) | wp_step))

theorem xclass_check {M : Model} {nameV : Value} {Q : Unit → Shared → Prop} (X : K.In h) (c : XCls K C) (hx : h.get? a = some o) (hc : o.cls = .ref C) (hq : Q () ⟨h, g, d, t, os⟩) :
    wpAny M A (checkBuiltinCall "BaseException.__getattribute__" ⟨[.ref a, nameV], []⟩) Q E ⟨h, g, d, t, os⟩ := by
  have hk : builtinKind "BaseException.__getattribute__" = some .slot := by decide +kernel
  have hsplit : splitId "BaseException.__getattribute__" = some ("BaseException", "__getattribute__") := by decide +kernel
  have L : PySem.W.Looks M h (isSubtype (.ref C) (.type "BaseException")) true := PySem.W.looks_mroIn X c.bx
  have ha := F.args_bexc_ga (.ref a) nameV
  simp only [checkBuiltinCall, hk, hsplit]
  refine wpAny_bind ?_
  · unfold isInstance
    repeat (first | (with_reducible refine wpAny_loadPart_at hx ?_; rw [hc]) | with_reducible refine L.at ?_ | wp_step)
    exact hq

theorem xclass_entry {tk : Tok} {Q : Fin → Shared → Prop} (X : K.In h) (c : XCls K C) (hx : h.get? a = some o) (hc : o.cls = .ref C) (hq : Q (.done (.ret (.ref C))) ⟨h, g, d, t, os⟩) :
    wpAny (model prog w) A (Builtin.«object.__getattribute__» ⟨[.ref a, .str "__class__" tk], []⟩) Q E ⟨h, g, d, t, os⟩ := by
  have hT5 : (⟨h, g, d, t, os⟩ : Shared).TypeIs (.builtin "object.__class__") "getset_descriptor" := F.typeOf_object_class
  have f5 := F.typeOf_object_class
  have f6 := F.slot_gs_get.lookup
  have f7 := F.slot_gs_set.lookup
  have L : PySem.W.Looks (model prog w) h (typeLookup (.ref C) "__class__") (some (.builtin "object.__class__")) := PySem.W.looks_findIn X c.cl
  repeat (any_goals (first | assumption | (with_reducible refine wpAny_loadPart_at hx ?_; rw [hc]) | with_reducible refine L.at ?_ | wp_step))
  refine xclass_get X c hx hc ?_
  repeat (any_goals (first | assumption | wp_step))

theorem xclass_by {tk : Tok} {Q : Value → Shared → Prop} (X : K.In h) (c : XCls K C) (hx : h.get? a = some o) (hc : o.cls = .ref C) (hq : Q (.ref C) ⟨h, g, d, t, os⟩) :
    wpAny (model prog w) A (getAttrBy (.ref a) (.str "__class__" tk) false) Q E ⟨h, g, d, t, os⟩ := by
  have f3 := F.excAttr_ValueError.ga.bind (.ref a)
  have hx2 : (Value.builtin "BaseException.__getattribute__" == Value.builtin "object.__getattribute__") = false := by decide +kernel
  have hx1 : (onTheHeap (Value.ref C) && Value.builtin "BaseException.__getattribute__" == Value.builtin "object.__getattribute__") = false := by rw [hx2]; rfl
  have L1 : PySem.W.Looks (model prog w) h (typeLookup (.ref C) "__getattribute__") (some (.builtin "BaseException.__getattribute__")) := PySem.W.looks_findIn X c.ga
  have L2 : PySem.W.Looks (model prog w) h (typeLookup (.ref C) "__getattr__") none := PySem.W.looks_findIn X c.gn
  repeat (any_goals (first | assumption | (with_reducible refine wpAny_loadPart_at hx ?_; rw [hc]) | with_reducible refine L1.at ?_ | with_reducible refine L2.at ?_ | wp_step))
  refine codeAny_call_builtin F.excAttr_ValueError.ga.plain F.entry_bexc_ga (xclass_check X c hx hc (xclass_entry X c hx hc ?_))
  repeat (any_goals (first | assumption | wp_step))

theorem xclass_attr {Q : Option Value → Shared → Prop} (X : K.In h) (c : XCls K C) (hx : h.get? a = some o) (hc : o.cls = .ref C) (hq : Q (some (.ref C)) ⟨h, g, d, t + 1, os⟩) :
    wpAny (model prog w) A (getAttr? (.ref a) "__class__") Q E ⟨h, g, d, t, os⟩ := by
  unfold getAttr? getAttrBy?
  repeat (any_goals (first | assumption | with_reducible apply xclass_by X c hx hc | wp_step))
end

theorem kitx_exc {K : PySem.W.Frag} {a C : Addr} (c : XCls K C) : PySem.W.KitX K (.ref a) (.ref C) (ExcAt a C) where
  ty := fun M h X p => by
    obtain ⟨o, h1, h2, _⟩ := p
    exact h2 ▸ (PySem.W.Looks.ld h1).andThen .now
  it := fun _ _ X _ => by
    have hcD := c.is
    unfold PySem.W.clsIn at hcD
    split at hcD
    · rename_i c' d' cd' sl' ho
      intro A' Q' E' s' k q
      unfold isType loadHead
      exact wpAny_bind (wpAny_loadPart (k _ _ (X _ _ ho)) (wpAny_pure q))
    · cases hcD
  ne := fun h tp dd its n sl X htp => by
    have hcD := c.is
    refine Bool.eq_false_iff.mpr fun q => ?_
    have e : C = tp := Value.ref.inj (beq_iff_eq.mp q)
    subst e
    unfold PySem.W.clsIn at hcD
    split at hcD
    · rename_i c' d' cd' sl' ho
      have z := (X _ _ ho).symm.trans htp
      cases z
    · cases hcD
  ca := fun {_ _ _ _ _ s} X p k => by
    obtain ⟨h, g, d, t, os⟩ := s
    obtain ⟨o, h1, h2, _⟩ := p
    exact xclass_attr X c h1 h2 k
end L2

namespace L2
open PySem PySem.Spec PyProof.Rows

/-! ### isinstance of an exception -/
def clsV : V → Value
  | .ty n => .type n
  | .ref D => .ref D
  | _ => .none
def isCls : V → Bool
  | .ty _ => true
  | .ref _ => true
  | _ => false
def rIsiX (K : PySem.W.Frag) : List V → Hp → VK → Prop := fun xs H Q => ∃ (a C : Addr) (c : V) (b : Bool), xs = [.ref a, c] ∧ H a = some (.ext (ExcAt a C)) ∧ XCls K C ∧
  ((isCls c = true ∧ PySem.W.kitOne K (.ref C) (clsV c) = some b) ∨ ∃ (p : Addr) (ys : List V), c = .ref p ∧ H p = some (.tup ys) ∧ ys.all isCls = true ∧ PySem.W.kitAny K (.ref C) (ys.map clsV) = some b) ∧ Q (.bl b) H
theorem rel_cls {c : V} {u : Value} (e : isCls c = true) (r : RelV c u) : u = clsV c := by
  cases c with
  | ty n => exact r
  | ref D => exact r
  | _ => cases e
theorem vals_cls : ∀ {ys : List V} {us : List Value}, ys.all isCls = true → Vals ys us → us = ys.map clsV
  | [], _, _, r => by cases r; rfl
  | y :: ys, _, e, r => by
    rw [List.all_cons, Bool.and_eq_true] at e
    cases r with
    | cons r1 r2 => rw [List.map_cons, rel_cls e.1 r1, vals_cls e.2 r2]
section
variable {X : Cx}
theorem call_isiX {K : PySem.W.Frag} (hK : X.K = K) : CallR X (.builtin "isinstance") (rIsiX K) := by
  intro pins s σ H xs us Q I r h
  subst hK
  obtain ⟨a, C, c, b, rfl, ea, xc, hc, q⟩ := h
  obtain ⟨u, w', rfl, ru, rw'⟩ := vals2 r
  have fin : ∀ tk, EP X pins σ Q (.bool b) { s with toks := tk } := fun tk => ⟨.bl b, H, I.tok tk, rfl, q⟩
  obtain ⟨pe, _, _⟩ := (show ObjOk X.prog X.w H s.heap a (.ext (ExcAt a C)) from I.hok a _ ea)
  cases (show u = Value.ref a from ru)
  rcases hc with ⟨ic, e⟩ | ⟨p, ys, rfl, hp, al, e⟩
  · cases rel_cls ic rw'
    exact PySem.W.kia_one (kitx_exc xc) I.kIn pe e (fun z => nomatch z) fin
  · cases (show w' = Value.ref p from rw')
    obtain ⟨_, its, rv, o, ho, hc, n, hd⟩ := I.hok p _ hp
    have ei := vals_cls al rv
    subst ei
    obtain ⟨oc, od, odt, osl⟩ := o
    simp only at hc hd
    subst hc hd
    exact PySem.W.kia_tup (kitx_exc xc) I.kIn pe ho e (fun z => nomatch z) fin
end

/-! ### an exception on its way: its record, its traceback -/
/-- the exception at a, of the class at C; its traceback (the record at T), if there is one -/
def XRec (h : Heap) (a C : Addr) (T : Option Addr) : Prop := ∃ oe vs, h.get? a = some oe ∧ oe.cls = .ref C ∧ oe.data = .fields vs ∧
  match T with
  | none => vs[1]? = some .none
  | some t => vs[1]? = some (.ref t) ∧ t ≠ a ∧ ∃ oT ts, h.get? t = some oT ∧ oT.data = .fields ts ∧ ts[3]? = some .none

section
variable {X : Cx} {pins : List (Addr × Obj)} {σ : St} {H H' : Hp} {s : Shared} {h' : Heap} {ch : List Addr}
/-- records that are newer than the entry may have turned (or been filled anew) -/
abbrev Cx.exs (X : Cx) (ch : List Addr) : Cx := { X with ex := X.ex ++ ch }
theorem Inv.exs (I : Inv X pins σ H s) (hch : ∀ b ∈ ch, X.s₀.heap.get? b = none ∧ b ≠ X.env.locals ∧ (∀ x c, X.env.cells.lookup x = some c → c ≠ b)) : Inv (X.exs ch) pins σ H s := by
  have nb : ∀ b o, X.s₀.heap.get? b = some o → b ∉ ch := fun b o e hb => by rw [(hch b hb).1] at e; cases e
  have ok := I.ok
  refine ⟨⟨ok.mod, ok.kind, ok.glob, ok.blt, ok.above, ok.inj, ok.has, ok.cab, ok.hd, ok.frames, ok.stk, fun b hb => ?_, ok.bs, ok.bsz, fun b o e hb => ?_, fun b hb hf => ?_, ok.funs, ok.frf⟩, I.os, I.bare,
    ⟨fun b o e n hb hx => I.base.keep b o e n hb fun z => hx (List.mem_append_left _ z), fun b o e n hb hx => I.base.slot b o e n hb fun z => hx (List.mem_append_left _ z), fun b o e n hx => I.base.free b o e n fun z => hx (List.mem_append_left _ z), fun b o e hx => I.base.there b o e fun z => hx (List.mem_append_left _ z), I.base.tups, I.base.frzs, I.base.tbls⟩,
    I.loc, I.cell, I.free, I.freeC, I.pin, I.hok, I.len⟩
  · rcases List.mem_append.mp hb with z | z
    · exact ok.exf b z
    · exact ⟨(hch b z).2.1, (hch b z).2.2⟩
  · rcases List.mem_append.mp hb with z | z
    · exact ok.noex b o e z
    · exact nb b o (ok.bs b o e).1 z
  · rcases List.mem_append.mp hb with z | z
    · exact ok.exfs b z hf
    · obtain ⟨_, o, ho, _⟩ := ok.funs.mem hf
      exact nb b o ho z
theorem Inv.unexs (I : Inv (X.exs ch) pins σ H s) (ok : X.Ok) (hch : ∀ b ∈ ch, X.s₀.heap.get? b = none) : Inv X pins σ H s := by
  have nb : ∀ b o, X.s₀.heap.get? b = some o → b ∉ X.ex → b ∉ X.ex ++ ch := fun b o e n hb => by
    rcases List.mem_append.mp hb with z | z
    · exact n z
    · rw [hch b z] at e; cases e
  exact ⟨ok, I.os, I.bare, ⟨fun b o e n hb hx => I.base.keep b o e n hb (nb b o e hx), fun b o e n hb hx => I.base.slot b o e n hb (nb b o e hx), fun b o e n hx => I.base.free b o e n (nb b o e hx), fun b o e hx => I.base.there b o e (nb b o e hx), I.base.tups, I.base.frzs, I.base.tbls⟩,
    I.loc, I.cell, I.free, I.freeC, I.pin, I.hok, I.len⟩
/-- what was there when the state was s is neither of these: so they are no frame, no cell, no pin -/
theorem Inv.news (I : Inv X pins σ H s) (hn : ∀ b ∈ ch, X.s₀.heap.get? b = none ∧ H b = none ∧ b ∉ frs X.stack ∧ b ≠ X.env.locals ∧ (∀ x c, X.env.cells.lookup x = some c → c ≠ b) ∧ ∀ p ∈ X.pn ++ pins, p.1 ≠ b)
    (hk : (PySem.W.hideAll s.heap (ch ++ frs X.stack)).StaysIn h') (hs : ∀ b o, s.heap.get? b = some o → (∀ vs, o.data ≠ .fields vs) → ∃ sl, h'.get? b = some { o with slots := sl }) (t' : Nat) :
    Inv X pins σ H { s with heap := h', toks := t' } := by
  have kp : ∀ b o, s.heap.get? b = some o → b ∉ frs X.stack → b ∉ ch → h'.get? b = some o := fun b o e n1 n2 => hk b o (PySem.W.hideAll_get _ e fun z => (List.mem_append.mp z).elim n2 n1)
  have fs : ∀ b o, s.heap.get? b = some o → b ∈ frs X.stack → ∃ sl, h'.get? b = some { o with slots := sl } := fun b o e hb => by
    obtain ⟨_, o', ho', hd⟩ := I.stack.mem hb
    rw [e] at ho'; cases ho'
    exact hs b o e hd
  have hch' : ∀ b ∈ ch, X.s₀.heap.get? b = none ∧ b ≠ X.env.locals ∧ (∀ x c, X.env.cells.lookup x = some c → c ≠ b) := fun b hb => ⟨(hn b hb).1, (hn b hb).2.2.2.1, (hn b hb).2.2.2.2.1⟩
  refine Inv.unexs (ch := ch) ((I.exs hch').call (g' := s.gens) (d' := s.drawn) (ch := ch) ⟨fun b o e n hb hx => kp b o e hb hx, fun b o e n hb hx => fs b o e hb, fun b o e n hx => n, fun b o e hx => ?_, fun b xs e => e, fun b o u e => e, fun b ps e => ⟨#[], by rw [e]; simp⟩⟩ (fun b u e => ?_) I.bare fun b hb => ?_) I.ok fun b hb => (hn b hb).1
  · by_cases hf : b ∈ frs X.stack
    · obtain ⟨sl, q⟩ := fs b o e hf
      exact ⟨_, q⟩
    · exact ⟨o, kp b o e hf hx⟩
  · have nf : ∀ c u, H c = some u → c ∉ frs X.stack ∧ c ∉ ch := fun c u q => ⟨fun z => (by rw [I.stkFree c z] at q; cases q), fun z => (by rw [(hn c z).2.1] at q; cases q)⟩
    refine (I.hok b u e).stay (fun c v hc q => ?_) (fun _ q => q) fun _ _ q => q
    rcases hc with z | z
    · exact kp c v q (z ▸ nf b u e).1 (z ▸ nf b u e).2
    · exact kp c v q (nf c _ z).1 (nf c _ z).2
  · exact ⟨.inl (List.mem_append_right _ hb), (hn b hb).2.2.2.1, (hn b hb).2.2.2.2.1, (hn b hb).2.2.2.2.2⟩
end
end L2

namespace L2
open PySem PySem.Spec PyProof.Rows

/-- new since the entry, and no frame, no cell, no pin, not tracked -/
def Nw (X : Cx) (pins : List (Addr × Obj)) (H : Hp) (b : Addr) : Prop :=
  X.s₀.heap.get? b = none ∧ H b = none ∧ b ∉ frs X.stack ∧ b ≠ X.env.locals ∧ (∀ x c, X.env.cells.lookup x = some c → c ≠ b) ∧ ∀ p ∈ X.pn ++ pins, p.1 ≠ b
/-- the exception at a, of the class at C, is on its way -/
structure Fly (X : Cx) (pins : List (Addr × Obj)) (σ : St) (H : Hp) (s : Shared) (a C : Addr) (T : Option Addr) : Prop where
  inv : Inv X pins σ H s
  xrec : XRec s.heap a C T
  na : Nw X pins H a
  nt : ∀ t, T = some t → Nw X pins H t
/-- a def's body -/
structure Full (X : Cx) : Prop where
  stk : X.stack = X.env :: X.outer
  fr : X.env.frame = some X.env.locals
  ex : X.ex = []

section
variable {X : Cx} {pins : List (Addr × Obj)} {σ : St} {H : Hp} {s : Shared} {a C : Addr} {T : Option Addr} {h' : Heap}
/-- what was not there is new -/
theorem Inv.nw (I : Inv X pins σ H s) (f : Full X) {b : Addr} (e : s.heap.get? b = none) : Nw X pins H b := by
  have ne : ∀ c o, s.heap.get? c = some o → c ≠ b := fun c o q z => by rw [z, e] at q; cases q
  refine ⟨?_, ?_, fun z => ?_, fun z => ?_, fun x c q z => ?_, fun p hp z => ?_⟩
  · cases q : X.s₀.heap.get? b with
    | none => rfl
    | some o =>
      obtain ⟨o', q'⟩ := I.base.there b o q (by rw [f.ex]; simp)
      exact absurd rfl (ne b o' q')
  · cases q : H b with
    | none => rfl
    | some u =>
      have lt := I.hok.lt q
      exfalso
      have ok := I.hok b u q
      cases u with
      | lst xs => obtain ⟨_, _, _, _, q'⟩ := ok; exact ne b _ q' rfl
      | tup xs => obtain ⟨_, _, _, ⟨o, q', _⟩⟩ := ok; exact ne b _ q' rfl
      | dK kvs => obtain ⟨_, _, _, _, o, _, _, q', _⟩ := ok; exact ne b _ q' rfl
      | dT kvs => obtain ⟨_, _, _, _, o, _, _, q', _⟩ := ok; exact ne b _ q' rfl
      | set S n => obtain ⟨o, _, _, _, q', _⟩ := ok; exact ne b _ q' rfl
      | ins C dx fs => obtain ⟨_, _, _, q', _⟩ := ok; exact ne b _ q' rfl
      | own y => obtain ⟨_, q'⟩ := ok; exact ne b _ q' rfl
      | xd fs => obtain ⟨_, ⟨_, _, _, q', _⟩, _⟩ := ok; exact ne b _ q' rfl
      | rng lo hi => obtain ⟨_, _, _, q'⟩ := ok; exact ne b _ q' rfl
      | frz ob u => obtain ⟨q', _⟩ := ok; exact ne b _ q' rfl
      | tbl ps => exact ne b _ (show s.heap.get? b = some _ from ok) rfl
      | met f y => exact ne b _ (show s.heap.get? b = some _ from ok) rfl
      | ext φ => obtain ⟨_, ⟨_, q'⟩, _⟩ := ok; exact ne b _ q' rfl
  · obtain ⟨_, o, ho, _⟩ := I.stack.mem z
    exact ne b o ho rfl
  · obtain ⟨m, ⟨o, _, _, ho, _⟩, _⟩ := I.loc
    exact ne _ o ho z.symm
  · obtain ⟨v, o, ho, _⟩ := I.cell x c q
    exact ne c o ho z
  · exact ne _ _ (I.pin p hp).1 z

/-- the heap but the exception, its traceback, the frames -/
abbrev bareX (X : Cx) (h : Heap) (a : Addr) (T : Option Addr) : Heap := PySem.W.hideAll h ((a :: T.toList) ++ frs X.stack)
theorem Fly.frames (F : Fly X pins σ H s a C T) : s.heap.FunFrames (bareX X s.heap a T) X.stack :=
  PySem.W.funFrames_hide F.inv.stack fun env he b hb => List.mem_append_right _ (List.mem_filterMap.mpr ⟨env, he, hb⟩)
theorem Fly.bareStays (F : Fly X pins σ H s a C T) : (bareX X s.heap a T).StaysIn s.heap := fun b o e => PySem.W.of_hideAll _ e
theorem Fly.bareNone (F : Fly X pins σ H s a C T) : (bareX X s.heap a T).get? a = none := PySem.W.hideAll_none _ (by simp)
/-- behind a step of the exception in this frame -/
theorem Fly.on (F : Fly X pins σ H s a C T) (f : Full X) (st : (bareX X s.heap a T).StaysIn h') (ff : h'.FunFrames (bareX X s.heap a T) X.stack) (tr : h'.Traced (bareX X s.heap a T) a (.ref C)) (sl : s.heap.UpToSlots h') :
    ∃ t', Fly X pins σ H { s with heap := h' } a C (some t') := by
  have I := F.inv
  have hch : ∀ b ∈ a :: T.toList, Nw X pins H b := fun b hb => by
    rcases List.mem_cons.mp hb with rfl | hb
    · exact F.na
    · exact F.nt b (by simpa using hb)
  have I' : Inv X pins σ H { s with heap := h' } := I.news hch st sl s.toks
  obtain ⟨oe, vs, t', oT, ts, he, hcl, hd, h1, hn, hne, hT, hdT, h3⟩ := tr
  refine ⟨t', I', ⟨oe, vs, he, hcl, hd, h1, hne, oT, ts, hT, hdT, h3⟩, F.na, fun t e => ?_⟩
  cases e
  cases q : s.heap.get? t' with
  | none => exact I.nw f q
  | some o =>
    by_cases hm : t' ∈ (a :: T.toList) ++ frs X.stack
    · rcases List.mem_append.mp hm with z | z
      · exact hch t' z
      · obtain ⟨_, o', ho', hnf⟩ := ff.mem z
        rw [hT] at ho'; cases ho'
        exact absurd hdT (hnf ts)
    · have := PySem.W.hideAll_get _ q hm
      rw [hn] at this
      cases this

theorem Fly.leave (F : Fly X pins σ H s a C T) (f : Full X) {M : Model} {Q : Unit → Shared → Prop} {E : Value → Shared → Prop} (k : ∀ s' t, Fly X pins σ H s' a C (some t) → Q () s') : wpAny M X.A (leaving X.env (.ref a)) Q E s := by
  have hfr : X.A.frames = some (X.env :: X.outer) := by rw [← f.stk]; exact F.inv.ok.frames
  have hl : s.heap.FunFrames (bareX X s.heap a T) (X.env :: X.outer) := by rw [← f.stk]; exact F.frames
  obtain ⟨oe, vs, he, hcl, hd, h1⟩ := F.xrec
  cases T with
  | none =>
    refine wpAny_leaving_first hfr hl f.fr he F.bareStays F.bareNone hd h1 fun h' ⟨k1, k2, k3, k4⟩ => ?_
    rw [hcl] at k3
    obtain ⟨t', F'⟩ := F.on f k1 (by rw [f.stk]; exact k2) k3 k4
    exact k _ t' F'
  | some t =>
    obtain ⟨h1, hne, oT, ts, hT, hdT, h3⟩ := h1
    refine wpAny_leaving_next hfr hl f.fr (cls := .ref C) ⟨oe, vs, t, oT, ts, he, hcl, hd, h1, PySem.W.hideAll_none _ (by simp), hne, hT, hdT, h3⟩ F.bareStays F.bareNone fun h' ⟨k1, k2, k3, k4⟩ => ?_
    obtain ⟨t', F'⟩ := F.on f k1 (by rw [f.stk]; exact k2) k3 k4
    exact k _ t' F'

theorem Fly.flyW {t : Addr} (F : Fly X pins σ H s a C (some t)) : ∃ a0, Heap.FlyingW (bareX X s.heap a (some t)) X.stack a (.ref C) a0 s.heap := by
  obtain ⟨oe, vs, he, hcl, hd, h1, hne, oT, ts, hT, hdT, h3⟩ := F.xrec
  have hsz : 1 < vs.size := (Array.getElem?_eq_some_iff.mp h1).1
  refine ⟨vs[0]'(by omega), F.bareStays, F.bareNone, F.frames, oe, vs, t, oT, ts, he, ⟨hcl, Array.getElem?_eq_getElem (by omega)⟩, hd, h1, PySem.W.hideAll_none _ (by simp), hne, hT, hdT, h3⟩
theorem Fly.onW {t : Addr} {a0 : Value} (F : Fly X pins σ H s a C (some t)) (f : Full X) (fl : Heap.FlyingW (bareX X s.heap a (some t)) X.stack a (.ref C) a0 h') (sl : s.heap.UpToSlots h') :
    ∃ t', Fly X pins σ H { s with heap := h' } a C (some t') := by
  obtain ⟨k1, k2, k3, oe, vs, T', oT, ts, he, ⟨hcl, _⟩, r⟩ := fl
  exact F.on f k1 k3 ⟨oe, vs, T', oT, ts, he, hcl, r⟩ sl
/-- at a try: the frame is noted, the flight ends -/
theorem Fly.note {t : Addr} (F : Fly X pins σ H s a C (some t)) (f : Full X) {M : Model} {Q : Unit → Shared → Prop} {E : Value → Shared → Prop} (k : ∀ s' t, Fly X pins σ H s' a C (some t) → Q () s') :
    wpAny M X.A (noteFrame (.ref a) X.env) (fun _ s2 => wpAny M X.A (setFlight (.ref a) none) Q E s2) E s := by
  have hfr : X.A.frames = some (X.env :: X.outer) := by rw [← f.stk]; exact F.inv.ok.frames
  obtain ⟨a0, fl⟩ := F.flyW
  refine wpAny_looks_onW hfr f.fr (by rw [← f.stk]; exact fl) fun h4 hh sl4 => wpAny_landsW hh fun h5 fl5 sl5 => ?_
  obtain ⟨t', F'⟩ := F.onW f (by rw [f.stk]; exact fl5) (sl4.trans sl5)
  exact k _ t' F'
theorem Fly.land {t : Addr} (F : Fly X pins σ H s a C (some t)) (f : Full X) {M : Model} {A : Around} {Q : Unit → Shared → Prop} {E : Value → Shared → Prop} (k : ∀ s' t, Fly X pins σ H s' a C (some t) → Q () s') :
    wpAny M A (setFlight (.ref a) none) Q E s := by
  obtain ⟨a0, fl⟩ := F.flyW
  refine lands_againW fl fun h5 fl5 sl5 => ?_
  obtain ⟨t', F'⟩ := F.onW f fl5 sl5
  exact k _ t' F'
end

/-! ### how an exception lies behind a call -/
def CXx (P : Program) (w : World) : CXT := fun outer H s E e s' => ∃ (a C t : Addr) (H' : Hp), e = .ref a ∧ s'.os = s.os ∧ AllBare s'.gens ∧ Un (frs outer) [] H H' s.heap s'.heap ∧ HOk P w H' s'.heap ∧
  XRec s'.heap a C (some t) ∧ s.heap.get? a = none ∧ s.heap.get? t = none ∧ H' a = none ∧ H' t = none ∧ E (.ref C) none H'
section
variable {X : Cx} {pins : List (Addr × Obj)} {σ : St} {H : Hp} {s s' : Shared} {a C : Addr} {E : XK} {e : Value}
/-- in the caller -/
theorem Inv.flies (I : Inv X pins σ H s) (f : Full X) (h : CXx X.prog X.w X.stack H s E e s') : ∃ a C t H', e = .ref a ∧ Fly X pins σ H' s' a C (some t) ∧ E (.ref C) none H' := by
  obtain ⟨a, C, t, H', rfl, os, bare, un, hok, xr, na, nt, ha, ht, q⟩ := h
  refine ⟨a, C, t, H', rfl, ⟨I.call' os un hok bare (fun b z => absurd z (by simp)), xr, ?_, fun t' e => ?_⟩, q⟩
  · obtain ⟨n1, _, n3⟩ := I.nw f na
    exact ⟨n1, ha, n3⟩
  · cases e
    obtain ⟨n1, _, n3⟩ := I.nw f nt
    exact ⟨n1, ht, n3⟩
/-- it leaves the frame -/
theorem Fly.out {T : Option Addr} (F : Fly X pins σ H s a C T) (f : Full X) {M : Model} {E' : Value → Shared → Prop} (q : E (.ref C) none H) :
    wpAny M X.A (leaving X.env (.ref a)) (fun _ s' => CXx X.prog X.w X.outer X.H₀ X.s₀ E (.ref a) s') E' s :=
  F.leave f fun s' t F' => ⟨a, C, t, H, rfl, F'.inv.os, F'.inv.bare, by have := F'.inv.base; rw [f.ex] at this; exact this, F'.inv.hok, F'.xrec, F'.na.1, (F'.nt t rfl).1, F'.na.2.1, (F'.nt t rfl).2.1, q⟩
end
section
variable {P : Program} {w : World} {K : PySem.W.Frag} {mg : Str → Option Value} {base : Heap} {N : List Str} {qual : Str} {scope : Scope} {f : Addr} {cd : Value} {A : Around} {outer : List Env} {s : Shared} {H : Hp} {E E' : XK}
theorem full_of {CX : CXT} : Full (cxOf CX P w K mg base N qual scope f cd A outer s H E) := ⟨rfl, rfl, rfl⟩
/-- a def that may raise -/
theorem Fun.okX {x qual : Str} {st : Stmt} {f : Addr} {fd : FuncData} {N ps : List Str} {k : Nat} {sp : Sp} (F : Fun K x qual st f fd) (S : FnScope N ps (defScope st)) (len : ∀ vs H Q E, sp vs H Q E → vs.length = ps.length)
    (hbody : ∀ (cdv : Value) (A : Around) (outer : List Env) (s : Shared) (H : Hp) (vs : List V) (Q : VK) (E : XK), Room k (A.deeper (envOfC qual (defScope st) s.heap.objs.size f cdv)) → sp vs H Q E →
      ∃ t, PSs (cxOf (CXx P w) P w K mg base N qual (defScope st) f cdv A outer s H E) (defBody st) t ∧ t { nx := fun _ H' => Q .non H', rt := Q } (start N vs) H) : FnOk P w K mg base (CXx P w) (k + 1) f fd ps sp := by
  obtain ⟨oc, od, kV, doc, pm, an, cdv, ct, osl, rfl, lk, hcd⟩ := F.ex
  exact fn_of lk hcd S len fun A outer s H vs Q E hr hsp => hbody cdv A outer s H vs Q E hr hsp
end
end L2

namespace L2
open PySem PySem.Spec PyProof.Rows

/-! ### raise C(text) -/
abbrev bmV : List Value := [.type "ValueError", .type "Exception", .type "BaseException", .type "object"]
theorem exc_of_in {K : PySem.W.Frag} {h : Heap} {C : Addr} {bmB : List Value} {newId : String} (X : K.In h) (q : PySem.W.excIn K C bmB newId = true) :
    ∃ bm N nm qn bs hdct sn sub ab col dd k0 k1 k2 k3 k5 mN, h.get? C = some (excClassObj nm qn C N bs bm hdct sn sub ab col dd k0 k1 k2 k3 k5 newId) ∧ h.Ns N mN ∧ mN "__init__" = none ∧ OwnTail h bmB bm := by
  unfold PySem.W.excIn at q
  split at q
  · rename_i dd cd sl ho
    split at q
    · rename_i C' bm k0 k1 k2 k3 n k5 hm hs
      simp only [Bool.and_eq_true, beq_iff_eq, Bool.not_eq_true'] at q
      obtain ⟨⟨⟨⟨⟨rfl, rfl⟩, hdel⟩, ht⟩, hok⟩, hni⟩ := q
      obtain ⟨nm, bs, mro, ns, qn, hd, sn, sub, ab, col, del⟩ := cd
      dsimp only at hm hdel hok hni
      subst hm hdel
      have hsl : sl = #[k0, k1, k2, k3, some (.builtin n), k5] := by
        obtain ⟨l⟩ := sl
        simp only at hs
        rw [hs]
      subst hsl
      exact ⟨bm, ns, nm, qn, bs, hd, sn, sub, ab, col, dd, k0, k1, k2, k3, k5, _, X _ _ ho, .of_isNs (PySem.W.isNs_of_in X hok), PySem.W.nsMap_none_of_in X hok hni, PySem.W.tail_of_in X ht⟩
    · cases q
  · cases q

def tRaise (C : Addr) (E : XK) (t : TA) : TS := fun D σ H => t σ H fun vs H' => vs.length ≤ sizeLine ∧ E (.ref C) none H'
section
variable {X : Cx}
theorem ps_raise {x : Str} {C : Addr} {e : Expr} {np cpos pos : Pos} {t : TA} {E : XK} (f : Full X) (hc : X.calm = true) (hg : Gl X x) (hm : X.mg x = some (.ref C)) (hx : PySem.W.excIn X.K C bmV "ValueError.__new__" = true) (ha : PA X [e] t)
    (hE : ∀ (pins : List (Addr × Obj)) (σ : St) (H : Hp) (s : Shared) (a : Addr), Fly X pins σ H s a C none → E (.ref C) none H → X.xe (.ref a) s)
    (hs : starEach [e] X.env = [(false, eval e X.env)] := by rfl) (hd : (x == ("__debug__" : Str)) = false := by decide) :
    PS X (.Raise (some (.Call (.Name x np) [e] [] cpos)) none pos) (tRaise C E t) := by
  intro pins s σ H D I h
  obtain ⟨bm0, _, _, _, _, _, _, _, _, _, _, _, _, _, _, _, _, hC0, _, _, T0⟩ := exc_of_in I.kIn hx
  obtain ⟨bm, N, nm, qn, bs, hdct, sn, sub, ab, col, dd, k0, k1, k2, k3, k5, mN, hC, hN, hni, T⟩ := exc_of_in I.ok.mod.kin hx
  refine wpAny_Raise_call_subU (mN := mN) (C := C) (nm := nm) (q := qn) (N := N) (bs := bs) (bm := bm) (hdct := hdct) (sn := sn) (sub := sub) (ab := ab) (col := col) (dd := dd) (k0 := k0) (k1 := k1) (k2 := k2) (k3 := k3) (k5 := k5)
    F.excBase_ValueError (by decide +kernel) F.excBase_ValueError (T.hasType (by decide +kernel)) (I.ok.hd hc) (by rw [hs]; rfl) hni ?_
  refine thn (pe_glob hg hm (v := .ref C) rfl hd pins s σ H (fun v H' => v = .ref C ∧ H' = H) I ⟨rfl, rfl⟩) fun u s0 ⟨v, H', I0, r0, e1, e2⟩ => ?_
  subst e1 e2
  obtain rfl : u = Value.ref C := r0
  refine ⟨rfl, ?_⟩
  rw [hs]
  refine Calls.evalArgs_plain ?_
  have ha' := ha cpos pins s0 σ H' _ I0 h
  rw [hs] at ha'
  refine thn ha' fun us s1 ⟨vs, H1, I1, r, hl, q⟩ => ?_
  have keep : ∀ b o, X.base.get? b = some o → s1.heap.get? b = some o := I1.bk
  refine ⟨rfl, by show us.length ≤ _; rw [← r.length]; exact hl, keep _ _ hC, hN.keeps keep, T.keeps keep, fun h' a hmd => ?_⟩
  obtain ⟨tt, he, _, _⟩ := hmd.there
  have I2 : Inv X pins σ H1 { s1 with heap := h' } := I1.kept (t' := s1.toks) hmd.keeps
  exact hE pins σ H1 _ a ⟨I2, ⟨_, _, he, rfl, rfl, rfl⟩, I1.nw f hmd.new, fun t e => by cases e⟩ q
end
/-- .. in a def's body -/
theorem raiseX {P : Program} {w : World} {K : PySem.W.Frag} {mg : Str → Option Value} {base : Heap} {N : List Str} {qual : Str} {scope : Scope} {f : Addr} {cd : Value} {A : Around} {outer : List Env} {s : Shared} {H : Hp} {E : XK} {C : Addr} :
    ∀ (pins : List (Addr × Obj)) (σ : St) (H1 : Hp) (s1 : Shared) (a : Addr), Fly (cxOf (CXx P w) P w K mg base N qual scope f cd A outer s H E) pins σ H1 s1 a C none → E (.ref C) none H1 → (cxOf (CXx P w) P w K mg base N qual scope f cd A outer s H E).xe (.ref a) s1 :=
  fun pins σ H1 s1 a F q => F.out full_of q
end L2

namespace L2
open PySem PySem.Spec PyProof.Rows

/-- what the class behind except must have -/
structure XSup (K : PySem.W.Frag) (S : Addr) : Prop where
  ty : PySem.W.typeIn K (.ref S) = some (.type "type")
  bx : PySem.W.mroIn K S (.type "BaseException") = some true
  is : (PySem.W.clsIn K S).isSome = true
theorem xmatch {K : PySem.W.Frag} {M : Model} {A : Around} {E : Value → Shared → Prop} {h : Heap} {g : Array GenState} {d : Drawn} {t : Nat} {os : OsState} {e C S : Addr} {oe : Obj} {b : Bool} {Q : Bool → Shared → Prop}
    (X : K.In h) (xs : XSup K S) (hs : PySem.W.mroIn K C (.ref S) = some b) (he : h.get? e = some oe) (hcls : oe.cls = .ref C) (hq : Q b ⟨h, g, d, t, os⟩) : wpAny M A (excMatches (.ref e) (.ref S)) Q E ⟨h, g, d, t, os⟩ := by
  have L1 : PySem.W.Looks M h (typeOf (.ref S)) (.type "type") := PySem.W.looks_typeIn X xs.ty
  have L2 : PySem.W.Looks M h (isSubtype (.ref S) (.type "BaseException")) true := PySem.W.looks_mroIn X xs.bx
  have L3 : PySem.W.Looks M h (isSubtype (.ref C) (.ref S)) b := PySem.W.looks_mroIn X hs
  have f := tc_notTuple
  have L4 : PySem.W.Looks M h (isType (.ref S)) true := by
    have hcD := xs.is
    unfold PySem.W.clsIn at hcD
    split at hcD
    · rename_i c' d' cd' sl' ho
      intro A' Q' E' s' k q
      unfold isType loadHead
      exact wpAny_bind (wpAny_loadPart (k _ _ (X _ _ ho)) (wpAny_pure q))
    · cases hcD
  unfold excMatches isInstance isExcClass
  repeat (first | (with_reducible refine wpAny_loadPart_at he ?_; rw [hcls]) | with_reducible refine L1.at ?_ | with_reducible refine L4.at ?_ | with_reducible refine L2.at ?_ | with_reducible refine L3.at ?_ | wp_step)
  cases b <;> first | exact hq | (wp_walk; exact hq)

section
variable {X : Cx} {pins : List (Addr × Obj)} {σ : St} {H : Hp} {s : Shared} {a C t : Addr} {h' : Heap}
/-- the exception and its traceback are pinned -/
theorem Fly.pin (F : Fly X pins σ H s a C (some t)) : ∃ oe oT : Obj, Inv X (pins ++ [(a, oe), (t, oT)]) σ H s ∧ oe.cls = .ref C ∧
    ∀ (X' : Cx) (s' : Shared), Inv X' (pins ++ [(a, oe), (t, oT)]) σ H s' → Inv X pins σ H s' → s'.heap.get? a = some oe ∧ Fly X pins σ H s' a C (some t) := by
  obtain ⟨oe, vs, he, hcl, hd, h1, hne, oT, ts, hT, hdT, h3⟩ := F.xrec
  have ff : ∀ b ∈ frs X.stack, ∀ o vs, s.heap.get? b = some o → o.data = .fields vs → False := fun b hb o vs e q => by
    obtain ⟨_, o', ho', hnf⟩ := F.inv.stack.mem hb
    rw [e] at ho'; cases ho'
    exact hnf vs q
  have fs : ∀ b ∈ X.fs, b ∈ frs X.stack ∨ True := fun _ _ => .inr trivial
  have nfs : ∀ b o vs, s.heap.get? b = some o → o.data = .fields vs → b ∉ X.fs := fun b o vs e q hb => by
    obtain ⟨_, o', ho', hnf⟩ := F.inv.funs.mem hb
    rw [e] at ho'; cases ho'
    exact hnf vs q
  refine ⟨oe, oT, F.inv.pins_of fun p hp => ?_, hcl, fun X' s' I' I => ?_⟩
  · rcases List.mem_append.mp hp with z | z
    · exact F.inv.pin p (List.mem_append_right _ z)
    · rcases List.mem_cons.mp z with rfl | z
      · exact ⟨he, F.na.2.1, F.na.2.2.2.1, nfs _ _ _ he hd, fun v q => by rw [hd] at q; cases q⟩
      · rcases List.mem_cons.mp z with rfl | z
        · exact ⟨hT, (F.nt t rfl).2.1, (F.nt t rfl).2.2.2.1, nfs _ _ _ hT hdT, fun v q => by rw [hdT] at q; cases q⟩
        · exact nomatch z
  · have e1 := (I'.pin (a, oe) (List.mem_append_right _ (List.mem_append_right _ (.head _)))).1
    have e2 := (I'.pin (t, oT) (List.mem_append_right _ (List.mem_append_right _ (.tail _ (.head _))))).1
    exact ⟨e1, I, ⟨oe, vs, e1, hcl, hd, h1, hne, oT, ts, e2, hdT, h3⟩, F.na, F.nt⟩
/-- the exception is tracked from here on -/
theorem Fly.track {T : Option Addr} (F : Fly X pins σ H s a C T) : Inv X pins σ (upd H a (.ext (ExcAt a C))) s := by
  have I := F.inv
  obtain ⟨n1, n2, n3, n4, n5, n6⟩ := F.na
  have ne : ∀ b u, H b = some u → b ≠ a := fun b u e z => by rw [z, n2] at e; cases e
  obtain ⟨oe, vs, he, hcl, hd, _⟩ := F.xrec
  refine ⟨I.ok, I.os, I.bare, ⟨I.base.keep, I.base.slot, fun b o e n hx => ?_, I.base.there, fun b xs e => ?_, fun b o u e => ?_, fun b ps e => ?_⟩, I.loc, I.cell, ?_, fun x c e => ?_, fun p hp => ?_, fun b u e => ?_, I.len⟩
  · rw [upd_ne fun z => by rw [z, n1] at e; cases e]; exact I.base.free b o e n hx
  · rw [upd_ne (ne b _ (I.base.tups b xs e))]; exact I.base.tups b xs e
  · rw [upd_ne (ne b _ (I.base.frzs b o u e))]; exact I.base.frzs b o u e
  · obtain ⟨more, q⟩ := I.base.tbls b ps e
    exact ⟨more, by rw [upd_ne (ne b _ q)]; exact q⟩
  · rw [upd_ne (Ne.symm n4)]; exact I.free
  · rw [upd_ne (n5 x c e)]; exact I.freeC x c e
  · obtain ⟨q1, q2, q3⟩ := I.pin p hp
    exact ⟨q1, by rw [upd_ne (n6 p hp)]; exact q2, q3⟩
  · by_cases hb : b = a
    · subst hb
      rw [upd_same] at e; cases e
      exact ⟨⟨oe, he, hcl, vs, hd⟩, ⟨oe, he⟩, fun h1 h2 ⟨o, q, r⟩ k => ⟨o, k o q, r⟩⟩
    · rw [upd_ne hb] at e
      exact (I.hok b u e).stay (fun c v _ q => q) (fun c q => by rw [upd_ne (ne c _ q)]; exact q) fun c xs q => by rw [upd_ne (ne c _ q)]; exact q
/-- a name goes -/
theorem goes_ok {M : Model} {A : Around} {E : Value → Shared → Prop} {i : Nat} {n : Str} {pos : Pos} {Q : Unit → Shared → Prop} (I : Inv X pins σ H s) (hN : X.N.Nodup) (hi : X.N[i]? = some n) (hk : X.env.kindOf n = some .local)
    (h : ∀ s', Inv X pins (σ.set i none) H s' → Q () s') : wpAny M A (do bindName X.env n .none; unbindBehindTheSuite X.env n pos) Q E s := by
  obtain ⟨m, hn, hl⟩ := id I.loc
  have hcls : (X.env.scope.kind == .class || (X.env.scope.kind == .module && X.env.locals != X.env.globals)) = false := by rw [I.ok.kind]; rfl
  refine wpAny_nameGoes_keeps hk hn hcls fun h' v hn' hs => ?_
  obtain ⟨oL, _, _, hoL, _⟩ := id hn
  have cne := I.cne
  have neL : ∀ b o, X.s₀.heap.get? b = some o → b ≠ X.env.locals := fun b o e => Nat.ne_of_lt (Nat.lt_of_lt_of_le (Heap.lt_size e) I.ok.above)
  refine h _ ⟨I.ok, I.os, I.bare, ⟨fun b o e n hb hx => (hs.2 b (neL b o e)).trans (I.base.keep b o e n hb hx), fun b o e n hb hx => ?_, I.base.free, fun b o e hx => ?_, I.base.tups, I.base.frzs, I.base.tbls⟩, ⟨_, hn', fun j y v' e1 e2 e3 => ?_⟩, fun y c e => ?_, I.free, I.freeC, fun p hp => ?_, fun b ob e => ?_, by simpa using I.len⟩
  · obtain ⟨sl, e1⟩ := I.base.slot b o e n hb hx
    exact ⟨sl, (hs.2 b (neL b o e)).trans e1⟩
  · obtain ⟨o', e1⟩ := I.base.there b o e hx
    exact ⟨o', (hs.2 b (neL b o e)).trans e1⟩
  · by_cases hj : j = i
    · subst hj
      rw [List.getElem?_set] at e2
      split at e2
      · split at e2 <;> cases e2
      · rename_i z; exact absurd rfl z
    · rw [List.getElem?_set_ne (Ne.symm hj)] at e2
      obtain ⟨u', r', q⟩ := hl j y v' e1 e2 e3
      refine ⟨u', r', ?_⟩
      rcases q with ⟨k, e⟩ | ⟨k, c, e, z⟩
      · refine .inl ⟨k, ?_⟩
        have : y ≠ n := fun e => hj (nodup_ix hN e1 (e ▸ hi))
        simp [this, e]
      · exact .inr ⟨k, c, e, z.sameBut hs (cne y c e)⟩
  · obtain ⟨w', z⟩ := I.cell y c e
    exact ⟨w', z.sameBut hs (cne y c e)⟩
  · obtain ⟨e, n, ne, nf, d⟩ := I.pin p hp
    exact ⟨(hs.2 p.1 ne).trans e, n, ne, nf, d⟩
  · refine (I.hok b ob e).stay (fun c w' hc q => (hs.2 c ?_).trans q) (fun _ q => q) fun _ _ q => q
    rintro rfl
    rcases hc with hc | hc
    · rw [← hc, I.free] at e; cases e
    · rw [I.free] at hc; cases hc
end

/-! ### try .. except C as n -/
/-- the body of a try -/
abbrev Cx.tried (X : Cx) (pn : List (Addr × Obj)) (E : Value → Shared → Prop) : Cx := { X with pn := pn, xe := E }
/-- the suite behind except -/
abbrev Cx.hnd (X : Cx) (e : Value) : Cx := { X with A := X.A.mark (some e), calm := false, xe := fun _ _ => False }
section
variable {X : Cx} {pins p2 : List (Addr × Obj)} {σ : St} {H : Hp} {s : Shared} {E : Value → Shared → Prop} {e : Value}
theorem Cx.Ok.tried (ok : X.Ok) {pn : List (Addr × Obj)} : (X.tried pn E).Ok := ⟨ok.mod, ok.kind, ok.glob, ok.blt, ok.above, ok.inj, ok.has, ok.cab, ok.hd, ok.frames, ok.stk, ok.exf, ok.bs, ok.bsz, ok.noex, ok.exfs, ok.funs, ok.frf⟩
theorem Cx.Ok.untried {pn : List (Addr × Obj)} (ok : (X.tried pn E).Ok) : X.Ok := ⟨ok.mod, ok.kind, ok.glob, ok.blt, ok.above, ok.inj, ok.has, ok.cab, ok.hd, ok.frames, ok.stk, ok.exf, ok.bs, ok.bsz, ok.noex, ok.exfs, ok.funs, ok.frf⟩
theorem Inv.tried (I : Inv X pins σ H s) : Inv (X.tried (X.pn ++ pins) E) [] σ H s := ⟨I.ok.tried, I.os, I.bare, I.base, I.loc, I.cell, I.free, I.freeC, fun p hp => I.pin p (by simpa using hp), I.hok, I.len⟩
theorem Inv.untried (I : Inv (X.tried (X.pn ++ pins) E) p2 σ H s) : Inv X pins σ H s := ⟨I.ok.untried, I.os, I.bare, I.base, I.loc, I.cell, I.free, I.freeC, fun p hp => I.pin p (List.mem_append_left _ hp), I.hok, I.len⟩
theorem Inv.hnd (I : Inv X pins σ H s) : Inv (X.hnd e) pins σ H s :=
  have ok := I.ok
  ⟨⟨ok.mod, ok.kind, ok.glob, ok.blt, ok.above, ok.inj, ok.has, ok.cab, fun z => Bool.noConfusion z, ok.frames, ok.stk, ok.exf, ok.bs, ok.bsz, ok.noex, ok.exfs, ok.funs, ok.frf⟩, I.os, I.bare, I.base, I.loc, I.cell, I.free, I.freeC, I.pin, I.hok, I.len⟩
theorem Inv.unhnd (I : Inv (X.hnd e) pins σ H s) (ok : X.Ok) : Inv X pins σ H s := ⟨ok, I.os, I.bare, I.base, I.loc, I.cell, I.free, I.freeC, I.pin, I.hok, I.len⟩
end
def goesD (i : Nat) (D : Ends) : Ends := { nx := fun σ H => D.nx (σ.set i none) H, rt := D.rt, bk := fun σ H => D.bk (σ.set i none) H, ct := fun σ H => D.ct (σ.set i none) H }
def tTry (K : PySem.W.Frag) (S : Addr) (i : Nat) (EX : XK) (tb ts : TS) : TS := fun D σ H =>
  (∀ c H', EX c none H' → ∃ C, c = .ref C ∧ XCls K C ∧ PySem.W.mroIn K C (.ref S) = some true ∧ ∀ (a : Addr) (σ' : St), H' a = none → σ'.length = σ.length → ts (goesD i D) (σ'.set i (some (.ref a))) (upd H' a (.ext (ExcAt a C)))) ∧ tb D σ H
theorem ps_try {X : Cx} {i : Nat} {x n : Str} {S : Addr} {body : List Stmt} {b0 : Stmt} {suite : List Stmt} {np hpos pos : Pos} {tb ts : TS} {EX : XK} (f : Full X) (hN : X.N.Nodup) (hg : Gl X x) (hm : X.mg x = some (.ref S)) (xs : XSup X.K S)
    (hb : ∀ (pn : List (Addr × Obj)) (E : Value → Shared → Prop), Passes (CXx X.prog X.w) (X.tried pn E) EX → PSs (X.tried pn E) body tb)
    (hs : ∀ e : Value, PSs (X.hnd e) (b0 :: suite) ts) (hi : X.N[i]? = some n := by rfl) (hk : X.env.kindOf n = some .local := by rfl) (hd : (x == ("__debug__" : Str)) = false := by decide) :
    PS X (.Try body [.ExceptHandler (some (.Name x np)) (some n) (b0 :: suite) hpos] [] [] pos) (tTry X.K S i EX tb ts) := by
  intro pins s σ H D I h
  obtain ⟨hX, h⟩ := h
  refine wpAny_Try_except ?_
  have up : ∀ f s', SP (X.tried (X.pn ++ pins) fun e s' => ∃ a C t σ' H', e = .ref a ∧ σ'.length = σ.length ∧ Fly X pins σ' H' s' a C (some t) ∧ EX (.ref C) none H') [] D f s' → SP X pins D f s' := fun f s' q => by
    cases f with
    | next => obtain ⟨σ', H', I', q⟩ := q; exact ⟨σ', H', I'.untried, q⟩
    | brk => obtain ⟨σ', H', I', q⟩ := q; exact ⟨σ', H', I'.untried, q⟩
    | cont => obtain ⟨σ', H', I', q⟩ := q; exact ⟨σ', H', I'.untried, q⟩
    | ret u => obtain ⟨v, σ', H', I', r, q⟩ := q; exact ⟨v, σ', H', I'.untried, r, q⟩
  refine wpAny_mono (hb (X.pn ++ pins) (fun e s' => ∃ a C t σ' H', e = .ref a ∧ σ'.length = σ.length ∧ Fly X pins σ' H' s' a C (some t) ∧ EX (.ref C) none H') ?_ [] s σ H D I.tried h) (fun fl s' q => ?_) fun e s' q => ?_
  · intro pins1 σ1 H1 s1 e s' I1 hc
    obtain ⟨a, C, t, H', rfl, F, q⟩ := I1.untried.flies f hc
    exact ⟨a, C, t, σ1, H', rfl, by rw [F.inv.len, I.len], F, q⟩
  · cases fl with
    | next => exact wpAny_execs_nil (up _ _ q)
    | brk => exact up _ _ q
    | cont => exact up _ _ q
    | ret u => exact up _ _ q
  obtain ⟨a, C, t, σ', H', rfl, hl, F, q⟩ := q
  refine F.note f fun s3 t3 F3 => ?_
  obtain ⟨C', e1, xc, sub, hts⟩ := hX _ _ q
  cases e1
  obtain ⟨oe, oT, Ip, hcl, back⟩ := F3.pin
  refine wpAny_handleBy_cons (codeAny_handlers_test (wpAny_mono (pe_glob (X := X.hnd (.ref a)) hg hm (v := .ref S) rfl hd _ s3 σ' H' (fun v H'' => v = .ref S ∧ H'' = H') Ip.hnd ⟨rfl, rfl⟩) (fun u s4 z => ?_) fun _ _ z => False.elim z)) (by intro z; cases z)
  obtain ⟨v, H4, I4, r4, rfl, rfl⟩ := z
  obtain rfl : u = Value.ref S := r4
  obtain ⟨he4, F4⟩ := back _ s4 I4 ((I4.unhnd I.ok).pins_of fun p hp => I4.pin p (List.mem_append_right _ (List.mem_append_left _ hp)))
  have kin := F4.inv.kIn
  obtain ⟨hh, gg, dd, tk, os⟩ := s4
  refine xmatch kin xs sub he4 hcl ?_
  refine codeAny_handlers_suite_as ?_
  refine F4.land f fun s5 t5 F5 => ?_
  refine store_ok (i := i) (v := .ref a) F5.track hN hi (.inl hk) rfl (fun s6 I6 => ?_) (.inr hk)
  refine wpAny_mono (hs (.ref a) pins s6 _ _ (goesD i D) I6.hnd (hts a σ' F5.na.2.1 hl)) (fun fl s7 q7 => ?_) fun _ _ z => False.elim z
  cases fl with
  | next => obtain ⟨σ7, H7, I7, q7⟩ := q7; exact goes_ok (I7.unhnd I.ok) hN hi hk fun s8 I8 => ⟨_, H7, I8, q7⟩
  | brk => obtain ⟨σ7, H7, I7, q7⟩ := q7; exact goes_ok (I7.unhnd I.ok) hN hi hk fun s8 I8 => ⟨_, H7, I8, q7⟩
  | cont => obtain ⟨σ7, H7, I7, q7⟩ := q7; exact goes_ok (I7.unhnd I.ok) hN hi hk fun s8 I8 => ⟨_, H7, I8, q7⟩
  | ret u => obtain ⟨v, σ7, H7, I7, r7, q7⟩ := q7; exact goes_ok (I7.unhnd I.ok) hN hi hk fun s8 I8 => ⟨v, _, H7, I8, r7, q7⟩
end L2

namespace L2
open PySem PySem.Spec PyProof.Rows
section
variable {X : Cx}
/-! ### x is not True, for None and bools -/
end
end L2

namespace L2
open PySem PySem.Spec PyProof.Rows
/-! ### t > u, tuples whose items are compared one by one -/
section
open PySem.SeqAt
open PySem.AutoSeq1 (wpAny_loadPart')
open PySem.MeetsSeq PySem.MeetsSeq2 PySem.MeetsSeq3
end
end L2

namespace L2
open PySem PySem.Spec PyProof.Rows
/-! ### min, max of a tuple of ints -/
section
variable {X : Cx} {pins : List (Addr × Obj)} {σ : St} {H0 : Hp} {a I S : Addr} {xs : List V} {KV : Nat → V → Prop} {bt : Nat → Nat → Bool} {key : Value} {kw : List (Str × Value)} {R : Result → Shared → Prop}
end
section
variable {X : Cx} {pins : List (Addr × Obj)} {σ : St} {H : Hp} {s : Shared} {a : Addr} {xs : List V} {KV : Nat → V → Prop} {bt : Nat → Nat → Bool} {Q : VK}
end
section
variable {X : Cx} {K : PySem.W.Frag}
end
end L2

namespace L2
open PySem PySem.Spec PyProof.Rows
/-! ### the general sort: by a comparison that only answers -/
section
variable {prog : Program} {w : World} {A : Around} {E : Value → Shared → Prop} {s : Shared} {κ : SortKind} {LT : Keyed → Keyed → Bool} {S : Keyed → Prop}
end
end L2

namespace L2
open PySem PySem.Spec PyProof.Rows
section
variable {prog : Program} {w : World} {A : Around} {E : Value → Shared → Prop} {s : Shared} {κ : SortKind} {LT : Keyed → Keyed → Bool} {S : Keyed → Prop}
end
end L2

namespace L2
open PySem PySem.Spec PyProof.Rows
/-! ### two runs, merged -/
/-- LT orders what S has: le x y is LT y x = false -/
structure Ord {α : Type} (S : α → Prop) (LT : α → α → Bool) : Prop where
  asym : ∀ x y, S x → S y → LT x y = true → LT y x = false
  trans : ∀ x y z, S x → S y → S z → LT y x = false → LT z y = false → LT z x = false
abbrev leO {α : Type} (LT : α → α → Bool) (x y : α) : Prop := LT y x = false
section
variable {α : Type} {S : α → Prop} {LT : α → α → Bool} {T out ra rb ra' rb' : List α} {x y : α}
end
end L2

namespace L2
open PySem PySem.Spec PyProof.Rows
/-! ### the merge from below -/
theorem mem_at {α : Type} {a : Array α} {i : Nat} {x : α} (e : a[i]? = some x) : x ∈ a.toList := by
  obtain ⟨h, e⟩ := Array.getElem?_eq_some_iff.mp e
  rw [← e]; simp
section
variable {S : Keyed → Prop} {LT : Keyed → Keyed → Bool} {a b out : Array Keyed} {ia ib k : Nat} {x y : Keyed}
end
/-- but for minGallop the same -/
structure Sg (st st' : SortSt) : Prop where
  kind : kindOf st' = kindOf st
  arr : arrOf st' = arrOf st
  pend : pendingOf st' = pendingOf st
  failed : failedOf st' = failedOf st
theorem Sg.refl (st : SortSt) : Sg st st := ⟨rfl, rfl, rfl, rfl⟩
theorem Sg.set {st st' : SortSt} (h : Sg st st') (g : Nat) : Sg st (SortSt.mk' (kindOf st') (arrOf st') (pendingOf st') g (failedOf st')) := ⟨h.kind, h.arr, h.pend, h.failed⟩
section
variable {prog : Program} {w : World} {A : Around} {E : Value → Shared → Prop} {s : Shared} {κ : SortKind} {LT : Keyed → Keyed → Bool} {S : Keyed → Prop}
end
end L2

namespace L2
open PySem PySem.Spec PyProof.Rows
/-! ### the merge from above -/
section
variable {S : Keyed → Prop} {LT : Keyed → Keyed → Bool} {a b out : Array Keyed} {na nb k : Nat} {x y : Keyed}
end
section
variable {prog : Program} {w : World} {A : Around} {E : Value → Shared → Prop} {s : Shared} {κ : SortKind} {LT : Keyed → Keyed → Bool} {S : Keyed → Prop}
end
end L2

namespace L2
open PySem PySem.Spec PyProof.Rows
/-! ### two runs side by side, merged in their place -/
def SR (LT : Keyed → Keyed → Bool) (arr : Array Keyed) (lo hi : Nat) : Prop := ∀ i j x y, lo ≤ i → i < j → j < hi → arr[i]? = some x → arr[j]? = some y → leO LT x y
theorem ext_at {α : Type} {arr : Array α} {p q i : Nat} {x : α} (h : (arr.extract p q)[i]? = some x) : arr[p + i]? = some x ∧ p + i < q := by
  obtain ⟨h1, e⟩ := Array.getElem?_eq_some_iff.mp h
  rw [Array.size_extract] at h1
  rw [Array.getElem_extract] at e
  exact ⟨by rw [← e]; exact Array.getElem?_eq_getElem _, by omega⟩
theorem SR.pw {LT : Keyed → Keyed → Bool} {arr : Array Keyed} {lo hi p q : Nat} (h : SR LT arr lo hi) (h1 : lo ≤ p) (h2 : q ≤ hi) : (arr.extract p q).toList.Pairwise (leO LT) := by
  rw [List.pairwise_iff_getElem]
  intro i j hi hj hij
  have e1 : (arr.extract p q)[i]? = some (arr.extract p q).toList[i] := by rw [← Array.getElem?_toList]; exact List.getElem?_eq_getElem hi
  have e2 : (arr.extract p q)[j]? = some (arr.extract p q).toList[j] := by rw [← Array.getElem?_toList]; exact List.getElem?_eq_getElem hj
  obtain ⟨g1, g2⟩ := ext_at e1
  obtain ⟨g3, g4⟩ := ext_at e2
  exact h _ _ _ _ (by omega) (show p + i < p + j by omega) (by omega) g1 g3
section
variable {S : Keyed → Prop} {LT : Keyed → Keyed → Bool}
end
section
variable {prog : Program} {w : World} {A : Around} {E : Value → Shared → Prop} {s : Shared} {κ : SortKind} {LT : Keyed → Keyed → Bool} {S : Keyed → Prop}
end
end L2

namespace L2
open PySem PySem.Spec PyProof.Rows
/-! ### a run, counted and put in order from any place -/
structure Rn (a0 a : Array Keyed) (lo hi : Nat) : Prop where
  perm : a.toList.Perm a0.toList
  out : ∀ i, i < lo ∨ hi ≤ i → a[i]? = a0[i]?
theorem Rn.refl (a : Array Keyed) (lo hi : Nat) : Rn a a lo hi := ⟨.refl _, fun _ _ => rfl⟩
theorem Rn.size {a0 a : Array Keyed} {lo hi : Nat} (h : Rn a0 a lo hi) : a.size = a0.size := by have := h.perm.length_eq; simpa using this
theorem Rn.all {a0 a : Array Keyed} {lo hi : Nat} {S : Keyed → Prop} (h : Rn a0 a lo hi) (hall : ∀ (j : Nat) (x : Keyed), a0[j]? = some x → S x) : ∀ (j : Nat) (x : Keyed), a[j]? = some x → S x := fun j x e => by
  have := h.perm.mem_iff.mp (mem_at e)
  rw [Array.mem_toList_iff] at this
  obtain ⟨i, hi, e⟩ := Array.getElem_of_mem this
  exact hall i x (by rw [Array.getElem?_eq_getElem hi, e])
theorem Rn.mirror {a0 a : Array Keyed} {lo hi i j : Nat} (h : Rn a0 a lo hi) (h1 : lo ≤ i) (h2 : j ≤ hi) (h3 : j ≤ a.size) : Rn a0 (mirror a i j ((j - i) / 2)) lo hi := by
  refine ⟨(Array.perm_iff_toList_perm.mp (mirror_perm _ _ _ _)).trans h.perm, fun k hk => ?_⟩
  rw [getElem?_mirror_all h3, if_neg (by omega)]
  exact h.out k hk
/-- in order from above -/
def ND (LT : Keyed → Keyed → Bool) (arr : Array Keyed) (lo hi : Nat) : Prop := ∀ i j x y, lo ≤ i → i < j → j < hi → arr[i]? = some x → arr[j]? = some y → leO LT y x
/-- all alike -/
def AL (LT : Keyed → Keyed → Bool) (arr : Array Keyed) (lo hi : Nat) : Prop := ∀ i j x y, lo ≤ i → i < hi → lo ≤ j → j < hi → arr[i]? = some x → arr[j]? = some y → leO LT x y
section
variable {S : Keyed → Prop} {LT : Keyed → Keyed → Bool} {arr : Array Keyed} {lo hi n m : Nat}
theorem Ord.irr (o : Ord S LT) {x : Keyed} (hx : S x) : LT x x = false := by
  cases e : LT x x with
  | false => rfl
  | true => rw [o.asym x x hx hx e] at e; cases e
theorem SR.one : SR LT arr lo (lo + 1) := fun i j x y h1 h2 h3 => by omega
theorem ND.alike (h : ND LT arr lo hi) (ha : AL LT arr n hi) (hn : lo ≤ n) (hz : hi ≤ arr.size) : ND LT (PyProof.Rows.mirror arr n hi ((hi - n) / 2)) lo hi := by
  intro i j x y h1 h2 h3 ex ey
  rw [getElem?_mirror_all hz] at ex ey
  by_cases ci : n ≤ i ∧ i < hi
  · rw [if_pos ci] at ex
    rw [if_pos (by omega)] at ey
    exact ha _ _ y x (by omega) (by omega) (by omega) (by omega) ey ex
  · rw [if_neg ci] at ex
    by_cases cj : n ≤ j ∧ j < hi
    · rw [if_pos cj] at ey
      exact h i _ x y h1 (by omega) (by omega) ex ey
    · rw [if_neg cj] at ey
      exact h i j x y h1 h2 h3 ex ey
theorem AL.one (o : Ord S LT) (hall : ∀ (j : Nat) (x : Keyed), arr[j]? = some x → S x) : AL LT arr n (n + 1) := fun i j x y h1 h2 h3 h4 ex ey => by
  have : i = j := by omega
  subst this
  rw [ex] at ey; cases ey
  exact o.irr (hall _ _ ex)
end
section
variable {prog : Program} {w : World} {A : Around} {E : Value → Shared → Prop} {s : Shared} {κ : SortKind} {LT : Keyed → Keyed → Bool} {S : Keyed → Prop}
end
end L2

namespace L2
open PySem PySem.Spec PyProof.Rows
section
variable {prog : Program} {w : World} {A : Around} {E : Value → Shared → Prop} {s : Shared} {κ : SortKind} {LT : Keyed → Keyed → Bool} {S : Keyed → Prop}
end
/-! ### the runs that wait -/
abbrev Run3 : Type := Nat × Nat × Nat
def Runs (LT : Keyed → Keyed → Bool) (arr : Array Keyed) : List Run3 → Nat → Nat → Prop
  | [], lo, hi => lo = hi
  | (s, n, _) :: r, lo, hi => s = lo ∧ 1 ≤ n ∧ SR LT arr lo (lo + n) ∧ Runs LT arr r (lo + n) hi
section
variable {LT : Keyed → Keyed → Bool} {arr arr' : Array Keyed}
theorem Runs.le : ∀ {l : List Run3} {lo hi : Nat}, Runs LT arr l lo hi → lo + l.length ≤ hi
  | [], lo, hi, h => by have : lo = hi := h; simp [this]
  | (s, n, p) :: r, lo, hi, h => by have := Runs.le h.2.2.2; have := h.2.1; rw [List.length_cons]; omega
theorem SR.keep {lo hi : Nat} (h : SR LT arr lo hi) (e : ∀ i, lo ≤ i → i < hi → arr'[i]? = arr[i]?) : SR LT arr' lo hi := fun i j x y h1 h2 h3 ex ey => h i j x y h1 h2 h3 (by rw [← e i h1 (by omega)]; exact ex) (by rw [← e j (by omega) h3]; exact ey)
theorem Runs.keep : ∀ {l : List Run3} {lo hi : Nat}, Runs LT arr l lo hi → (∀ i, lo ≤ i → i < hi → arr'[i]? = arr[i]?) → Runs LT arr' l lo hi
  | [], lo, hi, h, _ => h
  | (s, n, p) :: r, lo, hi, h, e => by
    have := h.2.2.2.le
    exact ⟨h.1, h.2.1, h.2.2.1.keep fun i h1 h2 => e i h1 (by omega), h.2.2.2.keep fun i h1 h2 => e i (by omega) h2⟩
theorem Runs.append : ∀ {l m : List Run3} {lo mid hi : Nat}, Runs LT arr l lo mid → Runs LT arr m mid hi → Runs LT arr (l ++ m) lo hi
  | [], m, lo, mid, hi, h, h' => by have : lo = mid := h; subst this; exact h'
  | (s, n, p) :: r, m, lo, mid, hi, h, h' => ⟨h.1, h.2.1, h.2.2.1, h.2.2.2.append h'⟩
theorem Runs.split : ∀ {l m : List Run3} {lo hi : Nat}, Runs LT arr (l ++ m) lo hi → ∃ mid, Runs LT arr l lo mid ∧ Runs LT arr m mid hi
  | [], m, lo, hi, h => ⟨lo, rfl, h⟩
  | (s, n, p) :: r, m, lo, hi, h => by
    obtain ⟨mid, h1, h2⟩ := Runs.split (l := r) (m := m) h.2.2.2
    exact ⟨mid, ⟨h.1, h.2.1, h.2.2.1, h1⟩, h2⟩
theorem Runs.congr : ∀ {l m : List Run3} {lo hi : Nat}, l.map (fun p => (p.1, p.2.1)) = m.map (fun p => (p.1, p.2.1)) → Runs LT arr l lo hi → Runs LT arr m lo hi
  | [], [], _, _, _, h => h
  | [], _ :: _, _, _, e, _ => by simp at e
  | _ :: _, [], _, _, e, _ => by simp at e
  | (s, n, p) :: r, (s', n', p') :: r', lo, hi, e, h => by
    simp only [List.map_cons, List.cons.injEq, Prod.mk.injEq] at e
    obtain ⟨⟨rfl, rfl⟩, e⟩ := e
    exact ⟨h.1, h.2.1, h.2.2.1, Runs.congr e h.2.2.2⟩
end
end L2

namespace L2
open PySem PySem.Spec PyProof.Rows
section
variable {prog : Program} {w : World} {A : Around} {E : Value → Shared → Prop} {s : Shared} {κ : SortKind} {LT : Keyed → Keyed → Bool} {S : Keyed → Prop} {a0 : Array Keyed}
/-- the sort under way: a rearrangement, nothing failed, the runs up to lo -/
structure Sw (κ : SortKind) (LT : Keyed → Keyed → Bool) (a0 : Array Keyed) (lo : Nat) (st : SortSt) : Prop where
  perm : (arrOf st).toList.Perm a0.toList
  kind : kindOf st = κ
  failed : failedOf st = none
  runs : Runs LT (arrOf st) (pendingOf st).toList 0 lo
theorem Sw.size {lo : Nat} {st : SortSt} (h : Sw κ LT a0 lo st) : (arrOf st).size = a0.size := by have := h.perm.length_eq; simpa using this
theorem Sw.all {lo : Nat} {st : SortSt} (h : Sw κ LT a0 lo st) (hall : ∀ (j : Nat) (x : Keyed), a0[j]? = some x → S x) : ∀ (j : Nat) (x : Keyed), (arrOf st)[j]? = some x → S x := Rn.all (lo := 0) (hi := a0.size) ⟨h.perm, fun i hi => by
  have := h.size
  rw [Array.getElem?_eq_none (by omega), Array.getElem?_eq_none (by omega)]⟩ hall
theorem mod_last {p : Array Run3} {pw : Nat} : (p.modify (p.size - 1) fun (st, len, _) => (st, len, pw)).toList.map (fun p => (p.1, p.2.1)) = p.toList.map (fun p => (p.1, p.2.1)) := by
  apply List.ext_getElem?
  intro j
  rw [List.getElem?_map, List.getElem?_map, Array.getElem?_toList, Array.getElem?_toList, Array.getElem?_modify]
  split
  · cases p[j]? <;> rfl
  · rfl
theorem Sw.push {lo n : Nat} {st : SortSt} (sw : Sw κ LT a0 lo st) (sr : SR LT (arrOf st) lo (lo + n)) (hn : 1 ≤ n) : Sw κ LT a0 (lo + n) (setPending st ((pendingOf st).push (lo, n, 0))) := by
  refine ⟨sw.perm, sw.kind, sw.failed, ?_⟩
  show Runs LT (arrOf st) ((pendingOf st).push (lo, n, 0)).toList 0 (lo + n)
  rw [Array.toList_push]
  exact sw.runs.append ⟨rfl, hn, sr, rfl⟩
theorem Sw.mod {lo : Nat} {st : SortSt} (sw : Sw κ LT a0 lo st) (pw : Nat) : Sw κ LT a0 lo (setPending st ((pendingOf st).modify ((pendingOf st).size - 1) fun x => (x.1, x.2.1, pw))) :=
  ⟨sw.perm, sw.kind, sw.failed, Runs.congr mod_last.symm sw.runs⟩
end
end L2

namespace L2
open PySem PySem.Spec PyProof.Rows
/-! ### sorted, of any length -/
theorem Paired.perm {α β : Type} {F : α → β → Prop} {m m' : List β} (p : m'.Perm m) : ∀ {l : List α}, Paired F l m → ∃ l', Paired F l' m' ∧ l'.Perm l := by
  induction p with
  | nil => intro l h; exact ⟨l, h, .refl _⟩
  | cons x p ih =>
    intro l h
    cases h with
    | cons r t =>
      obtain ⟨l', h1, h2⟩ := ih t
      exact ⟨_ :: l', .cons r h1, h2.cons _⟩
  | swap x y l =>
    intro l h
    cases h with
    | cons r t =>
      cases t with
      | cons r' t' => exact ⟨_, .cons r' (.cons r t'), .swap ..⟩
  | trans p q ih1 ih2 =>
    intro l h
    obtain ⟨l1, h1, h2⟩ := ih2 h
    obtain ⟨l2, h3, h4⟩ := ih1 h1
    exact ⟨l2, h3, h4.trans h2⟩
section
variable {prog : Program} {w : World} {A : Around} {E : Value → Shared → Prop} {s : Shared} {κ : SortKind}
end
section
variable {prog : Program} {w : World} {A : Around} {E : Value → Shared → Prop} {s : Shared} {a : Addr} {vs : List Value} {LT : Value → Value → Bool}
end
end L2

namespace L2
open PySem PySem.Spec PyProof.Rows
/-- how a kind of values is coded for the sort -/
structure SCode (X : Cx) (VC : Hp → V → List Int → Prop) (HC : Heap → Value → List Int → Prop) : Prop where
  down : ∀ {pins : List (Addr × Obj)} {σ : St} {H : Hp} {s : Shared} {v : V} {u : Value} {c : List Int}, Inv X pins σ H s → VC H v c → RelV v u → HC s.heap u c
  uniq : ∀ {h : Heap} {u : Value} {c c' : List Int}, HC h u c → HC h u c' → c = c'
  keep : ∀ {h h' : Heap} {u : Value} {c : List Int}, (∀ b o, h.get? b = some o → h'.get? b = some o) → HC h u c → HC h' u c
  asks : ∀ {s : Shared} {vs : List Value}, (∀ v ∈ vs, ∃ c, HC s.heap v c) → 2 ≤ vs.length → ∃ κ : SortKind, (∀ Q : SortKind → Shared → Prop, Q κ s → wpAny (model X.prog X.w) X.A.in1.in1 (keyKind' vs.toArray) Q (fun _ _ => False) s) ∧
    ∀ u v c c' (C : Bool → Shared → Prop), HC s.heap u c → HC s.heap v c' → C (HT.lexLt c c') s → wpAny (model X.prog X.w) X.A.in1.in1 (keyLt' κ u v) C (fun _ _ => False) s
/-! ints -/
/-! pairs of ints -/
def CP (h : Heap) (u : Value) (c : List Int) : Prop := ∃ p a b t1 t2, u = Value.ref p ∧ IsTup h p #[.int a t1, .int b t2] ∧ c = [a, b]
theorem isTup_keep {h h' : Heap} {p : Addr} {its : Array Value} (k : ∀ b o, h.get? b = some o → h'.get? b = some o) (x : IsTup h p its) : IsTup h' p its := by
  obtain ⟨o, e, r⟩ := x
  exact ⟨o, k _ _ e, r⟩
/-! (n, (a, b)) -/
end L2

namespace L2
open PySem PySem.Spec PyProof.Rows
theorem SCode.of {X : Cx} {VC VC' : Hp → V → List Int → Prop} {HC : Heap → Value → List Int → Prop} (sc : SCode X VC HC) (h : ∀ H v c, VC' H v c → VC H v c) : SCode X VC' HC :=
  ⟨fun I c r => sc.down I (h _ _ _ c) r, sc.uniq, sc.keep, sc.asks⟩
/-! ### isinstance of an exception, or of None -/
end L2

namespace L2
open PySem PySem.Spec PyProof.Rows
/-! ### for k in d: the keys of a dict that is not written any more -/
/-! ### list(range(n)) -/
end L2

namespace L2
open PySem PySem.Spec PyProof.Rows
/-! ### a lambda: its function, its code, the table of the def that makes it -/
/-- one promise of many -/
theorem FnOk.ex {P : Program} {w : World} {K : PySem.W.Frag} {mg : Str → Option Value} {base : Heap} {CX : CXT} {k : Nat} {f : Addr} {fd : FuncData} {ps : List Str} {ι : Type} {sp : ι → Sp} (F : ∀ i, FnOk P w K mg base CX k f fd ps (sp i)) : FnOk P w K mg base CX k f fd ps (fun vs H Q E => ∃ i, sp i vs H Q E) :=
  ⟨fun vs H Q E ⟨i, h⟩ => (F i).len vs H Q E h, fun A outer s H args us vs Q E hr e0 hb r ⟨i, h⟩ => (F i).run A outer s H args us vs Q E hr e0 hb r h⟩
end L2

namespace L2
open PySem PySem.Spec PyProof.Rows
section
variable {X : Cx} {c P : Addr} {params : Arguments} {body : Expr} {scope : Scope} {pos : Pos}
end
end L2

namespace L2
open PySem PySem.Spec PyProof.Rows
/-! ### a def that makes a lambda: its code is known -/
structure FunC (K : PySem.W.Frag) (x qual : Str) (st : Stmt) (f : Addr) (fd : FuncData) (c P : Addr) : Prop where
  ex : ∃ (oc : Value) (od : Option Addr) (kV doc pm : Value) (an : Option Addr) (ct : Value) (osl : Array (Option Value)),
    fd = PySem.W.fnOf x qual (defArgs st) (defBody st) (defScope st) .none kV doc pm an (.ref c) ct ∧ K.lookup f = some ⟨oc, od, .func fd, osl⟩ ∧ PySem.W.codeIn K (.ref c) qual = true
  kp : PySem.W.keepIn K (.ref f) = true
  hd : PySem.W.codeHdIn K c P = true
theorem FunC.ok {P0 : Program} {w : World} {K : PySem.W.Frag} {mg : Str → Option Value} {base : Heap} {x qual : Str} {st : Stmt} {f : Addr} {fd : FuncData} {c P : Addr} {N ps : List Str} {k : Nat} {sp : Sp} (F : FunC K x qual st f fd c P) (S : FnScope N ps (defScope st)) (len : ∀ vs H Q E, sp vs H Q E → vs.length = ps.length)
    (hbody : ∀ (A : Around) (outer : List Env) (s : Shared) (H : Hp) (vs : List V) (Q : VK) (E : XK), Room k (A.deeper (envOfC qual (defScope st) s.heap.objs.size f (.ref c))) → sp vs H Q E →
      ∃ t, PSs (cxOf CX0 P0 w K mg base N qual (defScope st) f (.ref c) A outer s H E).nox (defBody st) t ∧ t { nx := fun _ H' => Q .non H', rt := Q } (start N vs) H) : FnOk P0 w K mg base CX0 (k + 1) f fd ps sp := by
  obtain ⟨oc, od, kV, doc, pm, an, ct, osl, rfl, lk, hcd⟩ := F.ex
  refine fn_of lk hcd S len fun A outer s H vs Q E hr hsp => ?_
  obtain ⟨t, h, q⟩ := hbody A outer s H vs Q E hr hsp
  exact ⟨t, h.nox, q⟩
/-! ### the law's call where tables are tracked -/
end L2

namespace L2
open PySem PySem.Spec PyProof.Rows
/-! ### texts: join, split, removeprefix, int(text), all, any, the walk of a text -/
theorem strs_of : ∀ {ws : List Str} {its : List Value}, Vals (ws.map V.str) its → ∃ l : List (Str × Tok), its = strValues l ∧ l.map (·.1) = ws
  | [], _, .nil => ⟨[], rfl, rfl⟩
  | w :: ws, _, .cons r t => by
    obtain ⟨l, rfl, rfl⟩ := strs_of t
    obtain ⟨k, rfl⟩ := r
    exact ⟨(w, k) :: l, rfl, rfl⟩
theorem vals_strs : ∀ (l : List (Str × Tok)), Vals ((l.map (·.1)).map V.str) (strValues l)
  | [] => .nil
  | (w, k) :: l => .cons ⟨k, rfl⟩ (vals_strs l)
section
variable {X : Cx}
def rJoin : V → List V → Hp → VK → Prop := fun x vs H Q => ∃ (sep : Str) (p : Addr) (ws : List Str), x = .str sep ∧ vs = [.ref p] ∧ H p = some (.lst (ws.map V.str)) ∧ (ws.map (·.length)).sum + ws.length * sep.length ≤ sizeLine ∧ Q (.str (Str.join sep ws)) H
theorem mt_join : MtM X "str.join" rJoin := by
  intro pins s σ H x vs v us Q I rx rv h
  obtain ⟨sep, p, ws, rfl, rfl, hp, hz, q⟩ := h
  obtain ⟨t, rfl⟩ := rx
  obtain ⟨u, rfl, ru⟩ := rv.one
  obtain rfl : u = Value.ref p := ru
  obtain ⟨z, its, n, r, hl, e⟩ := I.lstM hp
  obtain ⟨l, rfl, hw⟩ := strs_of r
  refine SC.join (l := l) (texts := ws) ⟨_, e, rfl, _, rfl⟩ hw ?_ fun t' k => ?_
  · unfold JoinOk
    rw [Bool.not_eq_true', StrLaws.joinTotal]
    unfold Builtin.Str.tooLong
    exact decide_eq_false (by omega)
  · refine ⟨.str (Str.join sep ws), H, I.tok _, ⟨t', ?_⟩, q⟩
    show Value.str (Builtin.Str.glued sep ws) t' = _
    rw [StrLaws.glued_eq_join]
theorem join_count (sep : Str) (h1 : 1 ≤ sep.length) : ∀ ws : List Str, ws.length ≤ (Str.join sep ws).length + 1
  | [] => by simp
  | [w] => by simp
  | w :: y :: r => by
    have e : Str.join sep (w :: y :: r) = w ++ sep ++ Str.join sep (y :: r) := rfl
    have ih := join_count sep h1 (y :: r)
    rw [e, Str.length_append, Str.length_append]
    simp only [List.length_cons] at ih ⊢
    omega
def rSplit : V → List V → Hp → VK → Prop := fun x vs H Q => ∃ (z y : Str), x = .str z ∧ vs = [.str y] ∧ 1 ≤ y.length ∧ z.length ≤ 1000000 ∧ ∀ p, H p = none → Q (.ref p) (upd H p (.lst ((Txt.split z y).map V.str)))
theorem mt_split : MtM X "str.split" rSplit := by
  intro pins s σ H x vs v us Q I rx rv h
  obtain ⟨z, y, rfl, rfl, hy, hz, q⟩ := h
  obtain ⟨t, rfl⟩ := rx
  obtain ⟨w, rfl, ru⟩ := rv.one
  obtain ⟨u, rfl⟩ := ru
  have hsl : sizeLine = 16777216 := sizeLine_eq
  have hy0 : (y.length == 0) = false := by rw [beq_eq_false_iff_ne]; omega
  have hcnt : (Txt.split z y).length ≤ z.length + 1 := by
    have := join_count y hy (Txt.split z y)
    rw [StrLaws.join_split] at this
    exact this
  have fin : ∀ (l : List (Str × Tok)) (k : Nat), l.map (·.1) = Txt.split z y → EP X pins σ Q (.ref s.heap.objs.size) { s with heap := s.heap.push { cls := .type "list", data := .seq (strValues l).toArray }, toks := k } := by
    intro l k e
    have hv : Vals ((Txt.split z y).map V.str) (strValues l) := by rw [← e]; exact vals_strs l
    exact ⟨.ref s.heap.objs.size, _, I.lnew hv (by rw [List.length_map]; omega), rfl, q _ I.fresh⟩
  cases h1 : (decide (z.length < y.length) || decide (Builtin.Str.strKind z < Builtin.Str.strKind y))
  · cases hf : (Builtin.Str.occurrences z y 0 z.length (z.length + 1)).isEmpty
    · have es : Txt.split z y = Builtin.Str.partsBetween z (Builtin.Str.occurrences z y 0 z.length (z.length + 1)) y.length := (if_neg (ne_true_of_eq_false h1)).trans (if_neg (ne_true_of_eq_false hf))
      refine call_meets F.slot_str_split (typeIs_str _ _ _) F.entry_str_split (F.args_str_split_2 _ _) (meets_str_split_sep z y t u h1 hy0 hf (by omega) (by rw [← es]; omega)) ?_
      show wants _ _ _ { s with toks := _, heap := s.heap.push { cls := .type "list", data := .seq (strsFrom s.toks (Builtin.Str.partsBetween z (Builtin.Str.occurrences z y 0 z.length (z.length + 1)) y.length)).toArray } }
      rw [strsFrom_eq]
      exact fin (numbered s.toks _) _ ((numbered_texts _ _).trans es.symm)
    · exact call_meets F.slot_str_split (typeIs_str _ _ _) F.entry_str_split (F.args_str_split_2 _ _) (meets_str_split_not_found z y t u h1 hy0 hf)
        (fin [(z, t)] _ ((if_neg (ne_true_of_eq_false h1)).trans (if_pos hf)).symm)
  · exact call_meets F.slot_str_split (typeIs_str _ _ _) F.entry_str_split (F.args_str_split_2 _ _) (meets_str_split_cannot_occur z y t u h1)
      (fin [(z, t)] _ (if_pos h1).symm)
def rRmp : V → List V → Hp → VK → Prop := fun x vs H Q => ∃ (z y : Str), x = .str z ∧ vs = [.str y] ∧ z.length ≤ sizeLine ∧ Q (.str (Txt.removeprefix z y)) H
theorem mt_removeprefix : MtM X "str.removeprefix" rRmp := by
  intro pins s σ H x vs v us Q I rx rv h
  obtain ⟨z, y, rfl, rfl, hz, q⟩ := h
  obtain ⟨t, rfl⟩ := rx
  obtain ⟨w, rfl, ru⟩ := rv.one
  obtain ⟨u, rfl⟩ := ru
  exact SC.removeprefix (fun t' k => ⟨.str _, H, I.tok _, ⟨t', rfl⟩, q⟩) hz
theorem call_int_text : CallR X (.type "int") (fun xs H Q => ∃ (x : Str) (n : Int), xs = [.str x] ∧ PySem.intText? x = some n ∧ x.length ≤ 640 ∧ Q (.int n) H) := by
  intro pins s σ H xs us Q I r h
  obtain ⟨x, n, rfl, hn, hl, q⟩ := h
  obtain ⟨u, rfl, t, rfl⟩ := vals1 r
  exact PySem.W.KIN.call_text hn hl ⟨.int n, H, I.tok _, ⟨_, rfl⟩, q⟩
def rAll : List V → Hp → VK → Prop := fun xs H Q => ∃ (p : Addr) (bs : List Bool), xs = [.ref p] ∧ H p = some (.lst (bs.map V.bl)) ∧ Q (.bl (bs.all id)) H
theorem range_all : ∀ (bs : List Bool), (List.range bs.length).all (fun i => bs.getD i false) = bs.all id := by
  intro bs
  rw [Bool.eq_iff_iff, List.all_eq_true, List.all_eq_true]
  constructor
  · intro h b hb
    obtain ⟨i, hi, e⟩ := List.getElem_of_mem hb
    have := h i (List.mem_range.mpr hi)
    simpa [List.getD, List.getElem?_eq_getElem hi, e] using this
  · intro h i hi
    have hi' := List.mem_range.mp hi
    have := h _ (List.getElem_mem hi')
    simpa [List.getD, List.getElem?_eq_getElem hi'] using this
theorem bools_get {bs : List Bool} {its : List Value} (r : Vals (bs.map V.bl) its) {i : Nat} {v : Value} (e : its.toArray[i]? = some v) : v = .bool (bs.getD i false) := by
  have e' : its[i]? = some v := by simpa using e
  have hi : i < its.length := (List.getElem?_eq_some_iff.mp e').1
  have hl := r.length
  rw [List.length_map] at hl
  have hx : (bs.map V.bl)[i]? = some (V.bl (bs.getD i false)) := by
    rw [List.getElem?_map, List.getElem?_eq_getElem (show i < bs.length by omega)]
    simp [List.getD, List.getElem?_eq_getElem (show i < bs.length by omega)]
  obtain ⟨u, hu, ru⟩ := r.get hx
  rw [e'] at hu
  cases hu
  exact ru
theorem call_all (hc : X.calm = true) : CallR X (.builtin "all") rAll := by
  intro pins s σ H xs us Q I r h
  obtain ⟨p, bs, rfl, hp, q⟩ := h
  obtain ⟨u, rfl, ru⟩ := vals1 r
  obtain rfl : u = Value.ref p := ru
  obtain ⟨z, its, n, rv, hl, e⟩ := I.lstM hp
  rw [List.length_map] at hl
  have hlt := Heap.lt_size e
  have il : s.heap.IsList p its.toArray := ⟨_, e, rfl, _, rfl⟩
  refine call_all_walk (wpAny_pyIter_list il ?_)
  refine ⟨_, _, _, _, _, _, fun i => bs.getD i false, rfl, Walks.list (A := X.A.in1) (I.ok.hd hc) _ p (Nat.ne_of_lt hlt) its.toArray, ⟨⟨_, Heap.get?_push_size _ rfl, rfl, rfl⟩, il.at fun o e => Heap.get?_push_of_some _ e⟩, ?_, fun h' tk k => ?_⟩
  · intro i v s Q E hP hQ
    rw [bools_get rv hP]
    exact wpAny_truthy_bool hQ
  · refine ⟨.bl (bs.all id), H, I.kept fun c o e => k c o (by simp only [List.mem_singleton]; exact Nat.ne_of_lt (Heap.lt_size e)) (Heap.get?_push_of_some _ e), ?_, q⟩
    show Value.bool _ = Value.bool _
    rw [List.size_toArray, ← hl, range_all]
/-! ### for sign in text -/
def Its (z : Str) : It := ⟨fun i _ => i < z.cps.size, fun i H x H' => H' = H ∧ ∃ c, z.cps[i]? = some c ∧ x = .str ⟨#[c]⟩, fun i _ => z.cps.size ≤ i⟩
theorem turn_str {P : Program} {w : World} {K : PySem.W.Frag} {tg : Expr} {it : Addr} {z : Str} {t : Tok} {ty : String}
    (hn : ["enumerate", "zip", "dict_itemiterator", "dict_reverseitemiterator", "odict_iterator", "itertools.zip_longest", "itertools.pairwise"].contains ty = false)
    (W : ∀ A' : Around, A'.handled = none → Walks P w A' it [it] [it] z.cps.size (SignAt z) (fun i h => h.IsStrIter it ty z t i))
    (hslf : ∀ (A : Around) (i : Nat) (s : Shared) (Q : Value → Shared → Prop) (E : Value → Shared → Prop), s.heap.IsStrIter it ty z t i → Q (.ref it) s → wpAny (model P w) A (pyIter (.ref it)) Q E s) :
    Turn P w K tg (Its z) [it] it (fun i h => i ≤ z.cps.size ∧ h.IsStrIter it ty z t i) where
  mem := by simp
  obj := fun i h st b hb => by
    have e : b = it := by simpa using hb
    subst e
    obtain ⟨_, o, e, c, d⟩ := st
    exact ⟨o, e, fun v z => by rw [d] at z; cases z⟩
  keep := fun i h h' st k => ⟨st.1, by obtain ⟨_, o, e, r⟩ := st; exact ⟨o, k it (by simp) o e, r⟩⟩
  item := by
    intro X hP hw hK hc i pins s σ H E I hf st hg
    subst hP hw hK
    obtain ⟨f0, f1, f2, f3, f4, f5⟩ := hf it (by simp)
    refine (W X.A (I.ok.hd hc)).item i s _ _ hg st.2 fun v h' tk hv st' kk => ?_
    obtain ⟨c, u, hcx, rfl⟩ := hv
    have I1 : Inv X pins σ H { s with heap := h', toks := tk } := I.turned (fun b o hb e => kk b o (by simpa using hb) e) f0 f1 f3 f4 f5
    obtain ⟨o, e, c', d⟩ := id st'
    exact ⟨_, rfl, go_of (s := { s with heap := h', toks := tk }) e c' d hn ⟨.str ⟨#[c]⟩, H, I1, ⟨u, rfl⟩, ⟨rfl, c, hcx, rfl⟩, ⟨hg, st'⟩, fun b hb => (hf b hb).1⟩⟩
  done := by
    intro X hP hw hK hc i pins s σ H E I hf st hg
    subst hP hw hK
    obtain ⟨f0, f1, f2, f3, f4, f5⟩ := hf it (by simp)
    have e : i = z.cps.size := Nat.le_antisymm st.1 hg
    subst e
    exact (W X.A (I.ok.hd hc)).done s _ _ st.2 fun h' tk kk => ⟨rfl, I.turned (t' := tk) (fun b o hb e => kk b o (by simpa using hb) e) f0 f1 f3 f4 f5⟩
  self := fun A i s Q E st h => hslf A i s Q E st.2 h
def iStr (te : TE) : TI := fun σ H R => te σ H fun x H1 => ∃ z, x = .str z ∧ R (Its z) H1
theorem pi_str {tg o : Expr} {to : TE} (ho : PE X o to) : PI X tg o (iStr to) := by
  intro pins s σ H R I h
  refine thn (ho pins s σ H _ I h) fun v s1 ⟨x, H1, I1, r1, z, ex, q1⟩ => ?_
  subst ex
  obtain ⟨t, rfl⟩ := r1
  have fp : ∀ b ∈ [s1.heap.objs.size], FpOk X pins H1 b := fun b hb => by
    have e := List.mem_singleton.mp hb
    subst e
    exact I1.fpOk (Nat.le_refl _) (I1.hok.fresh (Nat.le_refl _))
  cases ha : z.cps.all (· < 128)
  · exact wpAny_pyIter_wide ha ⟨_, [_], _, Its z, H1, rfl, I1.kept (t' := s1.toks) fun b o e => Heap.get?_push_of_some _ e, turn_str (ty := "str_iterator") (by decide) (fun A' hA => Walks.strWide hA _ z t) (fun _ _ _ _ _ st h => wpAny_pyIter_striter_wide st h), ⟨Nat.zero_le _, _, Heap.get?_push_size _ rfl, rfl, rfl⟩, fp, q1⟩
  · exact wpAny_pyIter_ascii ha ⟨_, [_], _, Its z, H1, rfl, I1.kept (t' := s1.toks) fun b o e => Heap.get?_push_of_some _ e, turn_str (ty := "str_ascii_iterator") (by decide) (fun A' hA => Walks.strAscii hA _ z t) (fun _ _ _ _ _ st h => wpAny_pyIter_striter_ascii st h), ⟨Nat.zero_le _, _, Heap.get?_push_size _ rfl, rfl, rfl⟩, fp, q1⟩
theorem walk_str {z : Str} {g : TG} {t : TT} {b : TB} {N : St → Hp → Prop} {σ : St} {H : Hp} (Pv : Nat → St → Hp → Prop) (h0 : Pv 0 σ H)
    (hs : ∀ i c σ H, z.cps[i]? = some c → Pv i σ H → g (.str ⟨#[c]⟩) σ H fun σ2 H2 => t σ2 H2 fun k H3 => if k = true then b σ2 H3 (Pv (i + 1)) else Pv (i + 1) σ2 H3) (hd : ∀ σ H, Pv z.cps.size σ H → N σ H) : bWalk (Its z) g t b N σ H := by
  refine ⟨fun i m σ H => m = z.cps.size - i ∧ i ≤ z.cps.size ∧ Pv i σ H, ⟨_, rfl, Nat.zero_le _, h0⟩, ?_⟩
  rintro i m σ H ⟨rfl, hi, p⟩
  by_cases hlt : i < z.cps.size
  · refine .inr ⟨hlt, Pv (i + 1), fun σ' H' p' => ⟨_, by omega, rfl, hlt, p'⟩, fun v H' y => ?_⟩
    obtain ⟨rfl, c, hc, rfl⟩ := y
    exact hs i c σ _ hc p
  · have e : i = z.cps.size := by omega
    subst e
    exact .inl ⟨Nat.le_refl _, hd σ H p⟩
end
end L2

namespace L2
open PySem PySem.Spec PyProof.Rows
/-! ### the signs of a number, of a row -/
def dig (m : Nat) : List Nat := (Nat.toDigits 10 m).map Char.toNat
def numL (n : Int) : List Nat := if n < 0 then 45 :: dig n.natAbs else dig n.natAbs
def numS (n : Int) : Str := Str.ofString (toString n)
theorem numS_cps (n : Int) : (numS n).cps.toList = numL n := by
  unfold numS numL dig
  rw [signs_ofString, Int.toString_eq_repr, Int.repr_eq_if]
  by_cases h : 0 ≤ n
  · rw [if_pos h, if_neg (by omega), Nat.toList_repr]
    congr 2
    omega
  · rw [if_neg h, if_pos (by omega)]
    rw [String.toList_append, List.map_append, Nat.toList_repr]
    have e : n.natAbs = (-n).toNat := by omega
    rw [e]
    rfl
theorem dig_len {m k : Nat} (hk : 1 ≤ k) (h : m < 10 ^ k) : (dig m).length ≤ k := by
  unfold dig
  rw [List.length_map]
  exact toDigits_len_pow (by decide) hk h
def figs (l : List Nat) : List Nat := match l with
  | 45 :: r => r
  | l => l
def isNumL (l : List Nat) : Bool := !(figs l).isEmpty && (figs l).all (fun c => decide (48 ≤ c ∧ c ≤ 57)) && (l == [48] || (figs l).head? != some 48)
theorem numL_len {n : Int} {k : Nat} (hk : 1 ≤ k) (h : n.natAbs < 10 ^ k) : (numL n).length ≤ k + 1 := by
  have := dig_len hk h
  unfold numL
  split
  · rw [List.length_cons]; omega
  · omega
theorem numS_len {n : Int} {k : Nat} (hk : 1 ≤ k) (h : n.natAbs < 10 ^ k) : (numS n).length ≤ k + 1 := by
  have e : (numS n).length = (numL n).length := by rw [← numS_cps]; simp [Str.length]
  rw [e]
  exact numL_len hk h
/-! ### words joined by a blank, and split again -/
def blank : Str := " "
theorem blank_eq : blank = ⟨#[32]⟩ := by decide
def joinC : List (List Nat) → List Nat
  | [] => []
  | [w] => w
  | w :: y :: r => w ++ 32 :: joinC (y :: r)
theorem join_cps : ∀ ws : List Str, (Str.join blank ws).cps.toList = joinC (ws.map (·.cps.toList))
  | [] => rfl
  | [w] => rfl
  | w :: y :: r => by
    have e : Str.join blank (w :: y :: r) = w ++ blank ++ Str.join blank (y :: r) := rfl
    have e2 : blank.cps.toList = [32] := by decide
    rw [e, PySem.W.KT.app_list, PySem.W.KT.app_list, e2, join_cps (y :: r)]
    simp [joinC]
/-- a row as a text -/
def shown (ns : List Int) : Str := Str.join blank (ns.map numS)
theorem sum_len {ns : List Int} (hb : ∀ n ∈ ns, n.natAbs < 10 ^ 15) : ((ns.map numS).map (·.length)).sum ≤ ns.length * 16 := by
  induction ns with
  | nil => simp
  | cons a r ih =>
    have h1 := numS_len (k := 15) (by decide) (hb a (List.mem_cons_self ..))
    have h2 := ih fun n hn => hb n (List.mem_cons_of_mem _ hn)
    simp only [List.map_cons, List.sum_cons, List.length_cons]
    omega
theorem shown_len {ns : List Int} (hb : ∀ n ∈ ns, n.natAbs < 10 ^ 15) : (shown ns).length ≤ ns.length * 17 := by
  have h1 := sum_len hb
  have h2 := StrLaws.join_length_le blank (ns.map numS)
  have h3 : blank.length = 1 := rfl
  rw [h3, List.length_map] at h2
  unfold shown
  omega
theorem rmp_figs (z : Str) : (Txt.removeprefix z ⟨#[45]⟩).cps.toList = figs z.cps.toList := by
  have key : ∀ l : List Nat, (Txt.removeprefix ⟨l.toArray⟩ ⟨#[45]⟩).cps.toList = figs l := by
    intro l
    rw [StrLaws.removeprefix_eq]
    rw [StrLaws.subAt_eq]
    have h1 : (⟨#[45]⟩ : Str).length = 1 := rfl
    have h2 : (⟨l.toArray⟩ : Str).length = l.length := by simp [Str.length]
    rw [h1, h2]
    cases l with
    | nil => rfl
    | cons a r =>
      by_cases ha : a = 45
      · subst ha
        rw [if_pos (by simp)]
        simp [figs]
      · rw [if_neg (by simp [ha])]
        unfold figs
        split
        · rename_i r2 e2
          cases e2
          exact absurd rfl ha
        · rfl
  have := key z.cps.toList
  simpa using this
end L2

namespace L2
open PySem PySem.Spec PyProof.Rows
section
variable {X : Cx}
/-- a text's slice -/
def rSlS : V → Option Int → Option Int → Hp → VK → Prop := fun x lo hi H Q => ∃ z, x = .str z ∧ z.length ≤ sizeLine ∧ Q (.str (StrLaws.sliceText z lo hi)) H
theorem part_of {v : Value} {o : Option Int} (h : IsPart v o) : ∃ l : Option (Int × Tok), v = partValue l ∧ l.map (·.1) = o := by
  cases h with
  | none => exact ⟨none, rfl, rfl⟩
  | int i t => exact ⟨some (i, t), rfl, rfl⟩
theorem sl_str : SlR X rSlS := by
  intro pins s σ H x v vl vu lo hi sl Q I rx hs pl pu h
  obtain ⟨z, rfl, hz, q⟩ := h
  obtain ⟨t, rfl⟩ := rx
  obtain ⟨l, rfl, rfl⟩ := part_of pl
  obtain ⟨u, rfl, rfl⟩ := part_of pu
  refine ⟨"str", _, F.slot_str_getitem.lookup, typeIs_str _ _ _, ?_⟩
  refine wpAny_getItem_str_slice (l := l) (u := u) (st := none) hs rfl (post_val_or_str ⟨Nat.le_trans (Txt.slice_le z _ _) hz, fun t' k => ⟨.str (StrLaws.sliceText z (l.map (·.1)) (u.map (·.1))), H, I.tok _, ⟨t', rfl⟩, q⟩⟩)
theorem slice1 (z : Str) : (StrLaws.sliceText z (some 1) none).cps.toList = z.cps.toList.drop 1 := by
  by_cases h : 1 ≤ z.cps.toList.length
  · rw [StrLaws.sliceText_from ⟨by decide, by omega⟩]
    show ((z.cps.toList.drop 1).take ((z.cps.toList.length : Int) - 1).toNat) = _
    rw [List.take_of_length_le (by rw [List.length_drop]; omega)]
  · have e : z.cps.toList = [] := by
      cases hz : z.cps.toList with
      | nil => rfl
      | cons a r => rw [hz] at h; simp at h
    obtain ⟨⟨l⟩⟩ := z
    have e' : l = [] := e
    subst e'
    decide
end
end L2

namespace L2
open PySem PySem.Spec PyProof.Rows
section
variable {X : Cx}
/-- xs.insert(k, y), 0 <= k <= len(xs) -/
def rInsert : V → List V → Hp → VK → Prop := fun x vs H Q => ∃ (l : Addr) (xs : List V) (i : Int) (y : V), x = .ref l ∧ vs = [.int i, y] ∧ H l = some (.lst xs) ∧ 0 ≤ i ∧ i ≤ xs.length ∧ xs.length < 1000000 ∧ Q .non (upd H l (.lst (xs.take i.toNat ++ y :: xs.drop i.toNat)))
theorem Vals.take' : ∀ {xs : List V} {us : List Value} (k : Nat), Vals xs us → Vals (xs.take k) (us.take k)
  | _, _, 0, _ => .nil
  | _, _, _ + 1, .nil => .nil
  | _, _, k + 1, .cons r t => .cons r (Vals.take' k t)
theorem Vals.drop' : ∀ {xs : List V} {us : List Value} (k : Nat), Vals xs us → Vals (xs.drop k) (us.drop k)
  | _, _, 0, t => t
  | _, _, _ + 1, .nil => .nil
  | _, _, k + 1, .cons _ t => Vals.drop' k t
theorem mt_insert : MtM X "list.insert" rInsert := by
  intro pins s σ H x vs v us Q I rx rv h
  obtain ⟨l, xs, i, y, rfl, rfl, hH, hi0, hi1, hz, q⟩ := h
  cases rx
  obtain ⟨u, w, rfl, ru, rw'⟩ := rv.two
  obtain ⟨t, rfl⟩ := ru
  have hsl : sizeLine = 16777216 := sizeLine_eq
  obtain ⟨z, its, n, r, hl, e⟩ := I.lstM hH
  have hfit : ¬ (!Builtin.List.listFitsIndex i) = true := by
    unfold Builtin.List.listFitsIndex
    have h1 : (-(2 ^ 63 : Int) ≤ i) := by omega
    have h2 : (i < 2 ^ 63) := by omega
    rw [decide_eq_true h1, decide_eq_true h2]
    decide
  have hsz : its.toArray.size ≤ sizeLine := by rw [List.size_toArray]; omega
  have hm := AutoSeq1.list_insert_list_int_val_1 l its.toArray n i t w hfit hsz
  refine call_meets F.slot_list_insert ⟨_, e, rfl⟩ F.entry_list_insert (F.args_list_insert_3 _ _ _) hm ⟨e, ?_⟩
  have hf : (fun xs : Array Value => have k' := if i < 0 then (i + (xs.size : Int)).toNat else min i.toNat xs.size; (xs.extract 0 k').push w ++ xs.extract k') its.toArray = (its.take i.toNat ++ w :: its.drop i.toNat).toArray := by
    show (its.toArray.extract 0 (if i < 0 then (i + (its.toArray.size : Int)).toNat else min i.toNat its.toArray.size)).push w ++ its.toArray.extract (if i < 0 then (i + (its.toArray.size : Int)).toNat else min i.toNat its.toArray.size) = _
    rw [if_neg (by omega), List.size_toArray, Nat.min_eq_left (by omega)]
    apply Array.ext'
    simp
    rw [List.take_of_length_le (by rw [List.length_drop]; omega)]
  have hv : Vals (xs.take i.toNat ++ y :: xs.drop i.toNat) (its.take i.toNat ++ w :: its.drop i.toNat) := (Vals.take' i.toNat r).append (.cons rw' (Vals.drop' i.toNat r))
  have hz' : (xs.take i.toNat ++ y :: xs.drop i.toNat).length ≤ sizeLine := by
    rw [List.length_append, List.length_cons, List.length_take, List.length_drop]
    omega
  have I2 := I.lset (t' := s.toks) (f := fun xs : Array Value => have k' := if i < 0 then (i + (xs.size : Int)).toNat else min i.toNat xs.size; (xs.extract 0 k').push w ++ xs.extract k') hH e hf hv hz'
  exact ⟨.non, _, I2, rfl, q⟩
end
end L2

namespace PySem
open Builtin
end PySem

namespace PySem
open Builtin PySem.AutoSeq1
end PySem
namespace L2
open PySem PySem.Spec PyProof.Rows
end L2

namespace L2
open PySem PySem.Spec PyProof.Rows
/-! ### sorted(xs, key=f) -/
theorem Vals.snoc {xs : List V} {us : List Value} {x : V} {u : Value} (h : Vals xs us) (r : RelV x u) : Vals (xs ++ [x]) (us ++ [u]) := by
  induction h with
  | nil => exact .cons r .nil
  | cons a b ih => exact .cons a ih
theorem Paired.snoc' {α β : Type} {F : α → β → Prop} {l : List α} {m : List β} {x : α} {y : β} (h : Paired F l m) (r : F x y) : Paired F (l ++ [x]) (m ++ [y]) := by
  induction h with
  | nil => exact .cons r .nil
  | cons a b ih => exact .cons a ih
section
variable {X : Cx} {pins : List (Addr × Obj)} {σ : St} {H0 : Hp} {f a kS : Addr} {xs : List V} {cs : List (List Int)} {VC : Hp → V → List Int → Prop} {HC : Heap → Value → List Int → Prop} {e1 : Nat} {E : Value → Shared → Prop}
end
end L2

namespace L2
open PySem PySem.Spec PyProof.Rows
section
variable {X : Cx} {pins : List (Addr × Obj)} {σ : St} {H0 : Hp} {f a kS : Addr} {xs : List V} {cs : List (List Int)} {VC : Hp → V → List Int → Prop} {HC : Heap → Value → List Int → Prop} {e1 : Nat} {E : Value → Shared → Prop}
end
end L2

namespace L2
open PySem PySem.Spec PyProof.Rows
/-! ### a lambda that keeps names of the frame that made it, called from that frame -/
section
variable {X : Cx} {A : Around} {y : Str} {Nc : List Str} {cap : List (Option Nat)} {qual : Str} {scope : Scope} {cl : List (Str × Addr)} {f c : Addr} {s : Shared} {H : Hp} {pins : List (Addr × Obj)} {σ : St}
end
end L2

namespace L2
open PySem PySem.Spec PyProof.Rows
/-! ### a built-in function with keywords, where the names of the frame count -/
section
variable {X : Cx} {K : PySem.W.Frag} {x : Str} {p pos : Pos} {e : Expr} {es : List Expr} {kws : List Keyword} {t tk : TA} {id : String} {ks : List Str}
end
/-! ### what may be sorted: a list, a range -/
end L2

namespace L2
open PySem PySem.Spec PyProof.Rows
/-! ### min, max by keys that lie on the heap -/
def KeptH (xs : List V) (KV : Hp → Nat → V → Prop) (H : Hp) (jb : Option Nat) (its : Array Value) : Prop := match jb with
  | none => its = #[]
  | some j => ∃ x y u v, xs[j]? = some x ∧ RelV x u ∧ KV H j y ∧ RelV y v ∧ its = #[u, v]
theorem KeptH.mono {xs : List V} {KV : Hp → Nat → V → Prop} (km : ∀ H H' i y, Same H H' → KV H i y → KV H' i y) {H H' : Hp} {jb : Option Nat} {its : Array Value} (s : Same H H') (h : KeptH xs KV H jb its) : KeptH xs KV H' jb its := by
  cases jb with
  | none => exact h
  | some j =>
    obtain ⟨x, y, u, v, h1, h2, h3, h4, h5⟩ := h
    exact ⟨x, y, u, v, h1, h2, km _ _ _ _ s h3, h4, h5⟩
section
variable {X : Cx} {pins : List (Addr × Obj)} {σ : St} {H0 : Hp} {a I S : Addr} {xs : List V} {KV : Hp → Nat → V → Prop} {bt : Nat → Nat → Bool} {key : Value} {kw : List (Str × Value)} {R : Result → Shared → Prop}
end
section
variable {X : Cx} {pins : List (Addr × Obj)} {σ : St} {H : Hp} {s : Shared} {a : Addr} {xs : List V} {KV : Hp → Nat → V → Prop} {bt : Nat → Nat → Bool} {Q : VK}
end
end L2

namespace L2
open PySem PySem.Spec PyProof.Rows
/-! ### values that are compared as their codes are -/
section
variable {A : Around} {s : Shared} {a b : Addr} {u1 u2 u3 v1 v2 v3 : Value} {i j : Int} {c c' : List Int}
end
/-! ### the shapes: (a, b); (n, (a, b)); (d, (n, (a, b))) -/
/-! ### min, max of coded values; by a lambda -/
end L2

namespace L2
open PySem PySem.Spec PyProof.Rows
/-! ### len(d), d a dict with tuples as keys -/
end L2

namespace L2
open PySem PySem.Spec PyProof.Rows
/-! ### list(zip(a, b)): the pairs are kept -/
section
variable {P : Program} {w : World} {A : Around} {E : Value → Shared → Prop} {s : Shared}
abbrev IsZ2 (h : Heap) (z TI TO : Addr) (ad : Addr) (f : Bool) : Prop :=
  h.get? z = some { cls := .type "zip", dict := none, data := .fields #[rawInt ad, .bool f, .bool false, .ref TI, .ref TO], slots := #[] }
/-- the state of a zip whose first pair is held by another -/
structure ZOut (b1 b2 : Bool) (z TI TO i1 i2 l1 l2 ad : Addr) (k : Nat) (h : Heap) : Prop where
  zz : ∃ f : Bool, IsZ2 h z TI TO ad f
  ti : IsPair h TI (.ref i1) (.ref i2)
  al : ∃ o, h.get? ad = some o
  h1 : ZI b1 h i1 l1 k
  h2 : ZI b2 h i2 l2 k
  n1 : ad ≠ z
  n2 : ad ≠ i1
  n3 : ad ≠ i2
/-- the state of a zip, its pairs held or not yet made -/
def ZAny (b1 b2 : Bool) (z TI TO i1 i2 l1 l2 S : Addr) (k : Nat) (h : Heap) : Prop := ZSt b1 b2 z TI TO i1 i2 l1 l2 .none k h ∨ ∃ ad, ZOut b1 b2 z TI TO i1 i2 l1 l2 ad k h ∧ ad ≠ S
theorem ZAny.keep {b1 b2 : Bool} {z TI TO i1 i2 l1 l2 S : Addr} {k : Nat} {h h' : Heap} (Z : ZAny b1 b2 z TI TO i1 i2 l1 l2 S k h) (hS : S ∉ [z, TI, TO, i1, i2]) (e : ∀ b o, b ≠ S → h.get? b = some o → h'.get? b = some o) : ZAny b1 b2 z TI TO i1 i2 l1 l2 S k h' := by
  simp only [List.mem_cons, List.not_mem_nil, or_false, not_or] at hS
  obtain ⟨s1, s2, s3, s4, s5⟩ := hS
  rcases Z with ⟨z1, z2, ⟨a, c, z3⟩, y1, y2⟩ | ⟨ad, ⟨⟨f, z1⟩, z2, ⟨o, z3⟩, y1, y2, n1, n2, n3⟩, ne⟩
  · exact .inl ⟨e _ _ (Ne.symm s1) z1, e _ _ (Ne.symm s2) z2, ⟨a, c, e _ _ (Ne.symm s3) z3⟩, y1.at fun o q => e _ _ (Ne.symm s4) q, y2.at fun o q => e _ _ (Ne.symm s5) q⟩
  · exact .inr ⟨ad, ⟨⟨f, e _ _ (Ne.symm s1) z1⟩, e _ _ (Ne.symm s2) z2, ⟨o, e _ _ ne z3⟩, y1.at fun o q => e _ _ (Ne.symm s4) q, y2.at fun o q => e _ _ (Ne.symm s5) q, n1, n2, n3⟩, ne⟩
theorem ZAny.type {b1 b2 : Bool} {z TI TO i1 i2 l1 l2 S : Addr} {k : Nat} (Z : ZAny b1 b2 z TI TO i1 i2 l1 l2 S k s.heap) : s.TypeIs (.ref z) "zip" := by
  rcases Z with Z | ⟨ad, ⟨⟨f, z1⟩, _⟩, _⟩
  · exact ⟨_, Z.zz, rfl⟩
  · exact ⟨_, z1, rfl⟩
end
section
variable {X : Cx} {pins : List (Addr × Obj)} {σ : St} {A : Around} {R : Result → Shared → Prop} {b1 b2 : Bool} {z TI TO i1 i2 l1 l2 S : Addr} {xs ys : List V} {n : Nat}
end
theorem SqB.same {K : PySem.W.Frag} {H H' : Hp} {b : Bool} {l : Addr} {us : List V} (S : Same H H') (h : SqB K b H l us) : SqB K b H' l us := by
  have rd : ∀ o, Rd H l o → Rd H' l o := fun o r => by
    rcases r with r | ⟨ob, r⟩
    · exact .inl (S _ _ r)
    · exact .inr ⟨ob, S _ _ r⟩
  cases b with
  | true =>
    rcases (show SqT K H l us from h) with r | r
    · exact Or.inl (rd _ r)
    · exact Or.inr r
  | false =>
    rcases (show SqL K H l us from h) with r | r
    · exact Or.inl (rd _ r)
    · exact Or.inr r
section
variable {X : Cx}
end
end L2

namespace L2
open PySem PySem.Spec PyProof.Rows
/-! ### the places of a set's table rise -/
def Rise (xs : Array Nat) : Prop := xs.toList.Pairwise (· < ·)
theorem below_go {xs : Array Nat} {j : Nat} (hr : Rise xs) : ∀ (fuel lo hi : Nat), hi - lo ≤ fuel → lo ≤ hi → hi ≤ xs.size → (∀ i x, i < lo → xs[i]? = some x → x < j) → (∀ i x, hi ≤ i → xs[i]? = some x → j ≤ x) →
    (∀ i x, i < SetTable.below.go xs j fuel lo hi → xs[i]? = some x → x < j) ∧ (∀ i x, SetTable.below.go xs j fuel lo hi ≤ i → xs[i]? = some x → j ≤ x) ∧ SetTable.below.go xs j fuel lo hi ≤ xs.size
  | 0, lo, hi, hf, hl, hs, h1, h2 => by
    unfold SetTable.below.go
    have : lo = hi := by omega
    subst this
    exact ⟨h1, h2, hs⟩
  | fuel + 1, lo, hi, hf, hl, hs, h1, h2 => by
    unfold SetTable.below.go
    by_cases hlt : lo < hi
    · rw [if_pos hlt]
      have hm : (lo + hi) / 2 < xs.size := by omega
      have hg : xs[(lo + hi) / 2]? = some xs[(lo + hi) / 2] := Array.getElem?_eq_getElem hm
      have hd : xs.getD ((lo + hi) / 2) j = xs[(lo + hi) / 2] := by simp [Array.getD, hm]
      have pw := List.pairwise_iff_getElem.mp hr
      have mono : ∀ a b x y, a < b → xs[a]? = some x → xs[b]? = some y → x < y := fun a b x y hab ha hb => by
        obtain ⟨ha', ea⟩ := Array.getElem?_eq_some_iff.mp ha
        obtain ⟨hb', eb⟩ := Array.getElem?_eq_some_iff.mp hb
        have := pw a b (by simpa using ha') (by simpa using hb') hab
        simp only [Array.getElem_toList] at this
        rw [ea, eb] at this
        exact this
      simp only [hd]
      by_cases hx : xs[(lo + hi) / 2] < j
      · rw [if_pos hx]
        refine below_go hr fuel _ _ (by omega) (by omega) hs (fun i x hi' e => ?_) h2
        rcases Nat.lt_or_ge i ((lo + hi) / 2) with q | q
        · exact Nat.lt_trans (mono _ _ _ _ q e hg) hx
        · have : i = (lo + hi) / 2 := by omega
          subst this
          rw [hg] at e; cases e; exact hx
      · rw [if_neg hx]
        refine below_go hr fuel _ _ (by omega) (by omega) (by omega) h1 (fun i x hi' e => ?_)
        rcases Nat.lt_or_ge ((lo + hi) / 2) i with q | q
        · have := mono _ _ _ _ q hg e; omega
        · have : i = (lo + hi) / 2 := by omega
          subst this
          rw [hg] at e; cases e; omega
    · rw [if_neg hlt]
      have : lo = hi := by omega
      subst this
      exact ⟨h1, h2, hs⟩
theorem below_spec {xs : Array Nat} (hr : Rise xs) (j : Nat) : (∀ i x, i < SetTable.below xs j → xs[i]? = some x → x < j) ∧ (∀ i x, SetTable.below xs j ≤ i → xs[i]? = some x → j ≤ x) ∧ SetTable.below xs j ≤ xs.size := by
  unfold SetTable.below
  exact below_go hr _ _ _ (by omega) (Nat.zero_le _) (Nat.le_refl _) (fun i x h _ => by omega) (fun i x h e => by have := (Array.getElem?_eq_some_iff.mp e).1; omega)
theorem rise_insert {xs : Array Nat} (hr : Rise xs) {j : Nat} (hn : xs[SetTable.below xs j]? ≠ some j) : Rise (SetTable.insertAt xs (SetTable.below xs j) j) := by
  obtain ⟨h1, h2, h3⟩ := below_spec hr j
  unfold Rise
  rw [SetTable.toList_insertAt]
  generalize SetTable.below xs j = r at *
  have pw : xs.toList.Pairwise (· < ·) := hr
  rw [List.pairwise_append, List.pairwise_cons]
  have ge : ∀ b ∈ xs.toList.drop r, j < b := fun b hb => by
    obtain ⟨k, hk⟩ := List.mem_iff_getElem?.mp hb
    rw [List.getElem?_drop] at hk
    have hk' : xs[r + k]? = some b := by simpa using hk
    have hle := h2 (r + k) b (by omega) hk'
    rcases Nat.lt_or_eq_of_le hle with q | q
    · exact q
    · exfalso
      subst q
      rcases Nat.eq_zero_or_pos k with z | z
      · subst z; exact hn hk'
      · obtain ⟨hb', eb⟩ := Array.getElem?_eq_some_iff.mp hk'
        have hr' : xs[r]? = some xs[r] := Array.getElem?_eq_getElem (by omega)
        have := h2 r _ (Nat.le_refl _) hr'
        have := List.pairwise_iff_getElem.mp pw r (r + k) (by simp; omega) (by simpa using hb') (by omega)
        simp only [Array.getElem_toList] at this
        omega
  refine ⟨pw.sublist (List.take_sublist ..), ⟨ge, pw.sublist (List.drop_sublist ..)⟩, fun a ha b hb => ?_⟩
  have ha' : a < j := by
    obtain ⟨k, hk⟩ := List.mem_iff_getElem?.mp ha
    rw [List.getElem?_take] at hk
    split at hk
    · exact h1 k a (by assumption) (by simpa using hk)
    · cases hk
  rcases List.mem_cons.mp hb with rfl | hb
  · exact ha'
  · exact Nat.lt_trans ha' (ge b hb)
/-- what is kept of a table -/
structure TabOk (b : Bool) (t : SetTable) : Prop where
  led : t.led = b
  rise : Rise t.place
  dum : t.dummies = #[]
theorem has_empty (j : Nat) : SetTable.has #[] j = false := rfl
end L2

namespace L2
open PySem PySem.Spec PyProof.Rows
def kOf (e : Int × Value) : Int := match e.2 with | .int k _ => k | _ => 0
/-- the entries of a set of ints: what was put in, each once -/
structure EsOk (es : List (Int × Value)) (ns : List Int) : Prop where
  el : ∀ e ∈ es, (∃ t, e.2 = .int (kOf e) t) ∧ e.1 = hashInt (kOf e)
  nd : (es.map kOf).Nodup
  mem : ∀ k, k ∈ es.map kOf ↔ k ∈ ns
theorem EsOk.len {es : List (Int × Value)} {ns : List Int} (h : EsOk es ns) : es.length ≤ ns.length := by
  have := List.Nodup.length_le_of_subset h.nd fun k hk => (h.mem k).mp hk
  rw [List.length_map] at this
  exact this
theorem EsOk.perm {es es' : List (Int × Value)} {ns : List Int} (h : EsOk es ns) (p : es'.Perm es) : EsOk es' ns :=
  ⟨fun e he => h.el e (p.mem_iff.mp he), (p.map kOf).nodup_iff.mpr h.nd, fun k => ((p.map kOf).mem_iff).trans (h.mem k)⟩
theorem EsOk.push {es es' : List (Int × Value)} {ns : List Int} {k : Int} {t : Tok} (h : EsOk es ns) (hn : k ∉ ns) (p : es'.Perm (es ++ [(hashInt k, .int k t)])) : EsOk es' (ns ++ [k]) := by
  refine EsOk.perm ⟨fun e he => ?_, ?_, fun k' => ?_⟩ p
  · rcases List.mem_append.mp he with he | he
    · exact h.el e he
    · rw [List.mem_singleton.mp he]; exact ⟨⟨t, rfl⟩, rfl⟩
  · rw [List.map_append, List.nodup_append]
    refine ⟨h.nd, by simp, fun a ha b hb => ?_⟩
    have : b = k := List.mem_singleton.mp hb
    rw [this]
    rintro rfl
    exact hn ((h.mem _).mp ha)
  · rw [List.map_append, List.mem_append, List.mem_append, h.mem k']
    rfl
/-- a set of ints on the heap -/
def ISet (h : Heap) (a : Addr) (b : Bool) (ns : List Int) : Prop := ∃ o es ep t, h.get? a = some o ∧ o.ExactSet ∧ o.data = .set es ep t ∧ EsOk es.toList ns ∧ t.fits es.size = true ∧ TabOk b t
theorem ISet.at {h h' : Heap} {a : Addr} {b : Bool} {ns : List Int} (x : ISet h a b ns) (k : ∀ o, h.get? a = some o → h'.get? a = some o) : ISet h' a b ns := let ⟨o, es, ep, t, ho, r⟩ := x; ⟨o, es, ep, t, k o ho, r⟩
section
variable {P : Program} {w : World} {A : Around} {E : Value → Shared → Prop} {s : Shared}
end
end L2

namespace L2
open PySem PySem.Spec PyProof.Rows
/-! ### going through a set -/
section
variable {P : Program} {w : World} {A : Around} {E : Value → Shared → Prop} {s : Shared}
section
variable {it a : Addr} {o : Obj} {es : Array (Int × Value)} {ep : Nat} {t : SetTable}
end
end
end L2

namespace L2
open PySem PySem.Spec PyProof.Rows
section
variable {P : Program} {w : World} {A : Around} {E : Value → Shared → Prop} {s : Shared}
end
end L2

namespace L2
open PySem PySem.Spec PyProof.Rows
section
variable {P : Program} {w : World} {A : Around} {E : Value → Shared → Prop} {s : Shared}
end
end L2

namespace L2
open PySem PySem.Spec PyProof.Rows
section
variable {P : Program} {w : World} {A : Around} {E : Value → Shared → Prop} {s : Shared}
end
end L2

namespace L2
open PySem PySem.Spec PyProof.Rows
section
variable {P : Program} {w : World} {A : Around} {E : Value → Shared → Prop} {s : Shared} {R : Result → Shared → Prop}
end
end L2

namespace L2
open PySem PySem.Spec PyProof.Rows
end L2

namespace L2
open PySem PySem.Spec PyProof.Rows
/-! ### sum(lists, []) -/
section
variable {X : Cx} {pins : List (Addr × Obj)} {σ : St} {A : Around} {R : Result → Shared → Prop} {it l S : Addr} {as : List Addr} {xss : List (List V)}
/-- lists at as -/
def ListsAt (H : Hp) (as : List Addr) (xss : List (List V)) : Prop := Paired (fun a xs => H a = some (.lst xs)) as xss
theorem ListsAt.same {H H' : Hp} (S : Same H H') (h : ListsAt H as xss) : ListsAt H' as xss := Paired.imp' (fun a xs e => S _ _ e) h
end
end L2

namespace L2
open PySem PySem.Spec PyProof.Rows
/-! ### sorted of a list of tuples of pairs, the first of which is empty -/
theorem CP.uniq {h : Heap} {u : Value} {c c' : List Int} (a : CP h u c) (b : CP h u c') : c = c' := by
  obtain ⟨p, a, b, t1, t2, rfl, hp, rfl⟩ := a
  obtain ⟨p', a', b', t1', t2', e, hp', rfl⟩ := b
  cases e
  have e := isTup_inj hp hp'
  simp only [Array.mk.injEq, List.cons.injEq, Value.int.injEq] at e
  rw [e.1.1, e.2.1.1]
theorem CP.keep {h h' : Heap} {u : Value} {c : List Int} (k : ∀ b o, h.get? b = some o → h'.get? b = some o) (a : CP h u c) : CP h' u c := by
  obtain ⟨p, a, b, t1, t2, rfl, hp, rfl⟩ := a
  exact ⟨p, a, b, t1, t2, rfl, isTup_keep k hp, rfl⟩
end L2

namespace L2
open PySem PySem.Spec PyProof.Rows
/-! ### a comprehension whose own names an inner one takes hold of -/
def blkOkC (N : List Str) (scope : Scope) : Bool := scope.kind == .function && scope.names.all (fun y => y.2 != .free && (y.2 != .local || scope.names.lookup y.1 == some .local))
structure BlkOkC (scope : Scope) : Prop where
  kind : scope.kind = .function
  free : ∀ y ∈ scope.names, y.2 ≠ .free
  names : ∀ y ∈ scope.names, y.2 = .local → scope.names.lookup y.1 = some .local
theorem blkC_of {N : List Str} {scope : Scope} (h : blkOkC N scope = true) : BlkOkC scope := by
  unfold blkOkC at h
  simp only [Bool.and_eq_true, List.all_eq_true, beq_iff_eq, bne_iff_ne, Bool.or_eq_true] at h
  obtain ⟨h1, h2⟩ := h
  refine ⟨h1, fun y hy => (h2 y hy).1, fun y hy hl => ?_⟩
  rcases (h2 y hy).2 with z | z
  · exact absurd hl z
  · exact z
theorem closure_nil {env : Env} {scope : Scope} (h : ∀ y ∈ scope.names, y.2 ≠ .free) : closureFor scope env = pure [] := by
  have key : ∀ (names : List (Str × NameKind)), (∀ y ∈ names, y.2 ≠ .free) → (forIn names ([] : List (Str × Addr)) fun (x : Str × NameKind) (r : List (Str × Addr)) => if (x.2 == NameKind.free) = true then do let a ← cellOf env x.1; pure (ForInStep.yield ((x.1, a) :: r)) else pure (ForInStep.yield r) : Sem (List (Str × Addr))) = pure [] := by
    intro names
    induction names with
    | nil => intro _; rfl
    | cons x r ih =>
      intro hn
      have hx : ¬ (x.2 == NameKind.free) = true := fun z => hn x List.mem_cons_self (by simpa using z)
      rw [List.forIn_cons]
      simp only [hx, if_false]
      exact ih fun y hy => hn y (List.mem_cons_of_mem _ hy)
  unfold closureFor
  have e := key scope.names h
  show (do let r ← forIn scope.names ([] : List (Str × Addr)) _; pure r) = _
  exact (congrArg (fun m : Sem (List (Str × Addr)) => (m >>= pure)) e).trans (by rfl)
theorem cells_has : ∀ (names : List (Str × NameKind)) (lo : Nat) (acc : List (Str × Addr)) (x : Str), ((∃ c, acc.lookup x = some c) ∨ (x, NameKind.cell) ∈ names) → ∃ c, (cellsFrom lo names acc).lookup x = some c
  | [], _, acc, x, h => by
    rcases h with h | h
    · exact h
    · simp at h
  | (n, k) :: r, lo, acc, x, h => by
    unfold cellsFrom
    split
    · refine cells_has r _ _ x ?_
      cases hx : x == n with
      | true => exact .inl ⟨lo, by rw [List.lookup_cons, hx]⟩
      | false =>
        rcases h with ⟨c, h⟩ | h
        · exact .inl ⟨c, by rw [List.lookup_cons, hx]; exact h⟩
        · rcases List.mem_cons.mp h with z | z
          · cases z; simp at hx
          · exact .inr z
    · rename_i hk
      refine cells_has r _ _ x ?_
      rcases h with h | h
      · exact .inl h
      · rcases List.mem_cons.mp h with z | z
        · cases z; simp at hk
        · exact .inr z
theorem relabel_same {env : Env} : ∀ {names : List (Str × NameKind)}, (∀ y ∈ names, y.2 ≠ .free) → (names.map fun (n, k) => if (k == NameKind.free && env.scope.kind == .function && env.kindOf n == some .cell) then (n, NameKind.cell) else (n, k)) = names
  | [], _ => rfl
  | (n, k) :: r, h => by
    have hk : (k == NameKind.free) = false := by
      have := h (n, k) List.mem_cons_self
      simpa using this
    rw [List.map_cons, relabel_same fun y hy => h y (List.mem_cons_of_mem _ hy)]
    simp only [hk, Bool.false_and, Bool.false_eq_true, if_false]
theorem lookup_mem {x : Str} {k : NameKind} : ∀ {l : List (Str × NameKind)}, l.lookup x = some k → (x, k) ∈ l
  | y :: r, z => by
    rw [List.lookup_cons] at z
    cases hxy : x == y.1 with
    | true =>
      rw [hxy] at z
      have := beq_iff_eq.mp hxy
      have z2 : y.2 = k := Option.some.inj z
      rw [this, ← z2]; exact List.mem_cons_self
    | false => rw [hxy] at z; exact List.mem_cons_of_mem _ (lookup_mem z)
abbrev Cx.blkC (X : Cx) (N : List Str) (scope : Scope) (cs : List (Str × Addr)) (C : Addr) (s3 : Shared) (H3 : Hp) (fp : List Addr) : Cx :=
  { X with N := N, s₀ := s3, H₀ := H3, env := compEnvC scope cs C X.env, outer := X.stack, ex := fp, fn := fun _ => true, pn := [], xe := fun _ _ => False }
section
variable {X : Cx} {N : List Str} {scope : Scope} {C : Addr} {s3 : Shared} {H3 : Hp} {fp : List Addr} {pins : List (Addr × Obj)} {σ : St}
theorem newEnvC {M : Model} {A : Around} {E : Value → Shared → Prop} {s : Shared} {env : Env} {Q : Env → Shared → Prop}
    (h : Q { scope := scope, locals := s.heap.objs.size, globals := env.globals, cells := cellsFrom (s.heap.objs.size + 1) scope.names [], qual := env.qual, func := none, code := env.code, frame := env.frame, builtins := env.builtins } { s with heap := pushCells (s.heap.push { cls := .type "dict", data := .dict #[] }) scope.names }) :
    wpAny M A (newFunctionEnv scope env.globals [] [] env.qual none .none (some env)) Q E s := by
  simp only [newFunctionEnv, Option.isSome_some, if_true]
  refine wpAny_bind (wpAny_alloc ?_)
  refine wpAny_bind (wpAny_layCells _ (fun name kind cells => by cases hkc : kind == NameKind.cell <;> simp [hkc]) _ _ _ _ ?_)
  rw [show ({ s with heap := s.heap.push { cls := .type "dict", data := .dict #[] } } : Shared).heap.objs.size = s.heap.objs.size + 1 from Heap.size_push ..]
  refine wpAny_bind ?_
  rw [List.forIn_nil]
  exact wpAny_pure (wpAny_pure h)
theorem blk_inC {h4 : Heap} {m : Str → Option Value} {tk : Nat} {cs : List (Str × Addr)} (I : Inv X pins σ H3 s3) (ok : BlkOkC scope) (hcs : CellsOk h4 (s3.heap.objs.size + 1) cs) (has : ∀ x, (x, NameKind.cell) ∈ scope.names → ∃ c, cs.lookup x = some c)
    (hf : ∀ b ∈ fp, FpOk X pins H3 b ∧ b < s3.heap.objs.size) (hC : s3.heap.objs.size = C) (hn : h4.Ns C m) (hk : ∀ b o, s3.heap.get? b = some o → h4.get? b = some o) :
    Inv (X.blkC N scope cs C s3 H3 fp) [] (N.map fun _ => none) H3 { s3 with heap := h4, toks := tk } := by
  have ge : ∀ x c, cs.lookup x = some c → s3.heap.objs.size + 1 ≤ c := fun x c e => (hcs.empty x c (mem_of_lookup e)).2
  have fr : H3 C = none := I.hok.fresh (Nat.le_of_eq hC)
  refine ⟨⟨I.ok.mod, ?_, I.ok.glob, I.ok.blt, ?_, fun x y c e1 e2 => name_of_addr hcs.apart (mem_of_lookup e1) (mem_of_lookup e2), fun x hx => ?_, fun x c _ e => Nat.le_of_succ_le (ge x c e), I.ok.hd, I.ok.frames, .inl rfl, fun b hb => ⟨?_, fun x c e => ?_⟩,
    I.bs, Nat.le_trans I.ok.bsz I.sz, fun b o e hb => ?_, fun b hb hb2 => ?_, I.stack, I.stkFree⟩, rfl, I.bare, Un.kept hk, ⟨m, hn, fun j x v e1 e2 e3 => ?_⟩, fun x c e => ⟨none, (hcs.empty x c (mem_of_lookup e)).1⟩, fr, fun x c e => I.hok.fresh (Nat.le_of_succ_le (ge x c e)), fun p hp => ?_, I.hok.kept hk, ?_⟩
  · exact ok.kind
  · exact Nat.le_of_eq hC
  · have hx' : ∃ k', (k' = NameKind.cell ∨ k' = NameKind.free) ∧ (relabel scope X.env).names.lookup x = some k' := by
      rcases hx with z | z
      · exact ⟨_, .inl rfl, z⟩
      · exact ⟨_, .inr rfl, z⟩
    obtain ⟨k', hk', z⟩ := hx'
    have z' : scope.names.lookup x = some k' := by
      have e : (relabel scope X.env).names = scope.names := relabel_same ok.free
      rw [e] at z; exact z
    have hm := lookup_mem z'
    rcases hk' with rfl | rfl
    · exact has x hm
    · exact absurd rfl (ok.free _ hm)
  · exact Nat.ne_of_lt (hC ▸ (hf b hb).2)
  · have h1 := ge x c e
    have h2 := (hf b hb).2
    exact Nat.ne_of_gt (Nat.lt_of_lt_of_le h2 (Nat.le_of_succ_le h1))
  · rcases (hf b hb).1.2.2.2.1 with z | z
    · exact I.ok.noex b o e z
    · exact absurd (Nat.lt_of_lt_of_le (Heap.lt_size e) (Nat.le_trans I.ok.bsz z)) (Nat.lt_irrefl _)
  · rcases List.mem_cons.mp (I.stkSub b hb2) with z | z
    · exact (hf b hb).1.2.1 z
    · exact (hf b hb).1.2.2.1 z
  · rw [List.getElem?_map] at e2
    cases hj : N[j]? with
    | none => rw [hj] at e2; cases e2
    | some y => rw [hj] at e2; cases e2
  · exact nomatch hp
  · exact List.length_map _
theorem blk_outC {σ' : St} {H' : Hp} {s' : Shared} {h' : Heap} {cs : List (Str × Addr)} (I : Inv X pins σ H3 s3) (I' : Inv (X.blkC N scope cs C s3 H3 fp) [] σ' H' s') (hf : ∀ b ∈ fp, FpOk X pins H3 b) (hs : Heap.SameBut C s'.heap h') (hC : s3.heap.objs.size = C) :
    Inv X pins σ H' { s' with heap := h' } := by
  have hb := I'.base
  have neC : ∀ b o, s3.heap.get? b = some o → b ≠ C := fun b o e => Nat.ne_of_lt (hC ▸ Heap.lt_size e)
  have ext : ∀ b o, b ≠ C → s'.heap.get? b = some o → h'.get? b = some o := fun b o n e => hs.extBut b o n e
  refine I.call' (ch := fp) I'.os ⟨fun b o e n h1 h2 => ext b o (neC b o e) (hb.keep b o e n h1 h2), fun b o e n h1 h2 => ?_, fun b o e n h2 => hb.free b o e n h2, fun b o e h2 => ?_, hb.tups, hb.frzs, hb.tbls⟩ (fun b u e => ?_) I'.bare fun b hb => ?_
  · obtain ⟨sl, q⟩ := hb.slot b o e n h1 h2
    exact ⟨sl, ext b _ (neC b o e) q⟩
  · obtain ⟨o', q⟩ := hb.there b o e h2
    exact ⟨o', ext b o' (neC b o e) q⟩
  · have fr : H' C = none := I'.free
    refine (I'.hok b u e).stay (fun c v hc q => ext c v ?_ q) (fun _ q => q) fun _ _ q => q
    rintro rfl
    rcases hc with z | z
    · rw [← z, fr] at e; cases e
    · rw [fr] at z; cases z
  · obtain ⟨f0, f1, f2, f3, f4, f5⟩ := hf b hb
    exact ⟨f3, f1, f4, f5⟩
end
section
variable {X : Cx} {elt tg iter : Expr} {ifs : List Expr} {rest : List Comprehension} {scope : Scope} {pos : Pos} {N : List Str} {wi : TI} {g : TG} {t : TT} {b : Addr → TB}
theorem comp_blockC {pins : List (Addr × Obj)} {σ : St} {Q : VK} {s2 : Shared} {itv : Value} {RR : Value → Addr → Result → Shared → Prop} (hc : X.calm = true) (ok : BlkOkC scope)
    (hb : ∀ cs C s3 H3 fp, PG (X.blkC N scope cs C s3 H3 fp) tg g ∧ PTs (X.blkC N scope cs C s3 H3 fp) ifs t ∧ ∀ it acc, PAf (X.blkC N scope cs C s3 H3 fp) elt (⟨tg, iter, ifs, 0⟩ :: rest) scope pos 0 (.ref it) (.ref acc) (b acc))
    (h : PIE X pins σ tg (fun J H1 => ∀ acc, H1 acc = none → bWalk J g t (b acc) (fun _ H2 => Q (.ref acc) H2) (N.map fun _ => none) (upd H1 acc (.lst []))) itv s2)
    (hR : ∀ (acc C : Addr) (H' : Hp) (s' : Shared) (m : Str → Option Value), s'.heap.Ns C m → (∀ h', Heap.SameBut C s'.heap h' → Inv X pins σ H' { s' with heap := h' }) → Q (.ref acc) H' → RR (.ref acc) C (.ok .next) s') :
    wpAny (model X.prog X.w) X.A (newList []) (fun acc s₃ => wpAny (model X.prog X.w) X.A (newFunctionEnv scope X.env.globals [] [] X.env.qual none .none (some X.env)) (fun cenv s₄ =>
      codeAny (model X.prog X.w) X.A (.compStart (.ListComp elt (⟨tg, iter, ifs, 0⟩ :: rest) scope pos) 0 itv acc { cenv with scope := relabel scope X.env }) (fun r s' => match r with | .ok _ => RR acc cenv.locals (.ok .next) s' | .error _ => False) s₄) X.xe s₃) X.xe s2 := by
  obtain ⟨it, fp, tn, J, H2, e, I2, T, st2, f2, q⟩ := h
  subst e
  refine wpAny_newObj_type (newEnvC ?_)
  have I3 := I2.lnew (its := []) (ys := []) (t' := s2.toks) .nil (Nat.zero_le _)
  have fr : H2 s2.heap.objs.size = none := I2.hok.fresh (Nat.le_refl _)
  have hlt : ∀ b ∈ fp, b < s2.heap.objs.size := fun b hb => by
    obtain ⟨o, e, _⟩ := T.obj 0 _ st2 b hb
    exact Heap.lt_size e
  generalize hS3 : ({ s2 with heap := s2.heap.push { cls := .type "list", dict := none, data := .seq ([] : List Value).toArray } } : Shared) = s3 at *
  have hS : s3.heap = s2.heap.push { cls := .type "list", dict := none, data := .seq ([] : List Value).toArray } := by rw [← hS3]
  have hsz : s3.heap.objs.size = s2.heap.objs.size + 1 := by rw [hS, Heap.size_push]
  have I3' : Inv X pins σ (upd H2 s2.heap.objs.size (.lst [])) s3 := I3
  have hf3 : ∀ b ∈ fp, FpOk X pins (upd H2 s2.heap.objs.size (.lst [])) b ∧ b < s3.heap.objs.size := fun b hb => by
    have hl := hlt b hb
    refine ⟨⟨?_, (f2 b hb).2⟩, ?_⟩
    · rw [upd_ne (Nat.ne_of_lt hl)]; exact (f2 b hb).1
    · rw [hsz]; exact Nat.lt_succ_of_lt hl
  have hok : CellsOk (pushCells (s3.heap.push { cls := .type "dict", data := .dict #[] }) scope.names) (s3.heap.objs.size + 1) (cellsFrom (s3.heap.objs.size + 1) scope.names []) := by
    have := cellsFrom_ok scope.names (s3.heap.push { cls := .type "dict", data := .dict #[] }) (s3.heap.objs.size + 1) [] ⟨fun _ _ hm => (nomatch hm), List.Pairwise.nil⟩ (by rw [Heap.size_push]; exact Nat.le_refl _)
    rw [Heap.size_push] at this
    exact this
  have hns : (pushCells (s3.heap.push { cls := .type "dict", data := .dict #[] }) scope.names).Ns s3.heap.objs.size (fun _ => none) := (Heap.Ns.new s3.heap (.type "dict")).keeps (pushCells_keeps _ _)
  have kp : ∀ b o, s3.heap.get? b = some o → (pushCells (s3.heap.push { cls := .type "dict", data := .dict #[] }) scope.names).get? b = some o := fun b o e => pushCells_keeps _ _ b o (Heap.get?_push_of_some _ e)
  have kp2 : ∀ b o, s2.heap.get? b = some o → (pushCells (s3.heap.push { cls := .type "dict", data := .dict #[] }) scope.names).get? b = some o := fun b o e => kp b o (by rw [hS]; exact Heap.get?_push_of_some _ e)
  generalize hcs : cellsFrom (s3.heap.objs.size + 1) scope.names [] = cs at hok ⊢
  have has : ∀ x, (x, NameKind.cell) ∈ scope.names → ∃ c, cs.lookup x = some c := fun x hx => by
    rw [← hcs]
    exact cells_has _ _ _ x (.inr hx)
  generalize pushCells (s3.heap.push { cls := .type "dict", data := .dict #[] }) scope.names = h₁ at hok hns kp kp2 ⊢
  obtain ⟨hb1, hb2, hb3⟩ := hb cs s3.heap.objs.size s3 (upd H2 s2.heap.objs.size (.lst [])) fp
  show codeAny _ _ (.compStart _ 0 (.ref it) (.ref s2.heap.objs.size) (compEnvC scope cs s3.heap.objs.size X.env)) _ _
  have I4 : Inv (X.blkC N scope cs s3.heap.objs.size s3 (upd H2 s2.heap.objs.size (.lst [])) fp) [] (N.map fun _ => none) (upd H2 s2.heap.objs.size (.lst [])) { s3 with heap := h₁, toks := s3.toks } :=
    blk_inC (tk := s3.toks) I3' ok hok has hf3 rfl hns kp
  have f4 : ∀ b ∈ fp, FpOk (X.blkC N scope cs s3.heap.objs.size s3 (upd H2 s2.heap.objs.size (.lst [])) fp) [] (upd H2 s2.heap.objs.size (.lst [])) b := fun b hb => by
    obtain ⟨⟨g0, g1, g2, g3, g4, g5⟩, g6⟩ := hf3 b hb
    refine ⟨g0, Nat.ne_of_lt g6, fun z => ?_, .inl hb, fun x c e => ?_, fun p hp => nomatch hp⟩
    · rcases List.mem_cons.mp (I3'.stkSub b z) with z | z
      · exact g1 z
      · exact g2 z
    · have h1 := (hok.empty x c (mem_of_lookup e)).2
      exact Nat.ne_of_gt (Nat.lt_of_lt_of_le g6 (Nat.le_of_succ_le h1))
  have st4 : tn 0 h₁ := T.keep 0 _ _ st2 fun b hb o e => kp2 b o e
  have lp : ∀ s4 : Shared, s4 = { s3 with heap := h₁, toks := s3.toks } → codeAny (model X.prog X.w) X.A (.compLoop (.ListComp elt (⟨tg, iter, ifs, 0⟩ :: rest) scope pos) 0 (.ref it) (.ref s2.heap.objs.size) (compEnvC scope cs s3.heap.objs.size X.env)) (fun r s' => match r with | .ok _ => RR (.ref s2.heap.objs.size) s3.heap.objs.size (.ok .next) s' | .error _ => False) s4 := by
    intro s4 e4
    rw [e4]
    have lp := comp_loop (X := X.blkC N scope cs s3.heap.objs.size s3 (upd H2 s2.heap.objs.size (.lst [])) fp) (d := 0) (N := fun _ H2' => Q (.ref s2.heap.objs.size) H2') rfl hc rfl hb1 hb2 (hb3 it s2.heap.objs.size) T I4 st4 f4 (q _ fr)
    refine codeAny_mono lp fun r s' hr => ?_
    cases r with
    | error e => exact hr
    | ok f =>
      obtain ⟨σ', H', I', q'⟩ := hr
      obtain ⟨m, hn, _⟩ := I'.loc
      exact hR _ _ H' s' m hn (fun h' hs => blk_outC I3' I' (fun b hb => (hf3 b hb).1) hs rfl) q'
  refine comp_start rfl (lp _ ?_) (T.self _ 0 _ _ _ st4 (lp _ ?_))
  · rw [← hS3]
  · rw [← hS3]
theorem pe_compC (hc : X.calm = true) (hok : blkOkC N scope = true) (hi : PI X tg iter wi)
    (hb : ∀ cs C s3 H3 fp, PG (X.blkC N scope cs C s3 H3 fp) tg g ∧ PTs (X.blkC N scope cs C s3 H3 fp) ifs t ∧ ∀ it acc, PAf (X.blkC N scope cs C s3 H3 fp) elt (⟨tg, iter, ifs, 0⟩ :: rest) scope pos 0 (.ref it) (.ref acc) (b acc))
    (hs : ∀ x, foldedSetIterable iter X.env x = pure x := by intro _; rfl) : PE X (.ListComp elt (⟨tg, iter, ifs, 0⟩ :: rest) scope pos) (tComp wi (N.map fun _ => none) g t b) := by
  intro pins s σ H Q I h
  have ok := blkC_of hok
  have hcap : capt (N.map fun _ => none) σ = N.map fun _ => none := by
    unfold capt
    rw [List.map_map]
    rfl
  rw [eval_ListComp]
  refine wpAny_comprehension_free (use := none) rfl hs (closure_nil ok.free) ok.kind ok.names (thn (hi pins s σ H _ I h) fun v s1 h1 => thn h1 fun itv s2 h2 => ?_)
  rw [hcap] at h2
  refine thn (comp_blockC (RR := fun acc C => compPost (model X.prog X.w) X.A X.xe none (EP X pins σ Q) acc C) hc ok hb h2 ?_) fun acc s3 h3 => thn h3 fun cenv s4 h4 => codeAny_mono h4 fun r s' hr => ?_
  · intro acc C H' s' m hn hI q
    exact ⟨m, hn, fun h' hs' => ⟨.ref acc, H', hI h' hs', rfl, q⟩⟩
  · cases r with
    | ok f => exact hr
    | error e => exact False.elim hr
end
end L2

namespace L2
open PySem PySem.Spec PyProof.Rows
/-! ### C(text), an exception that is made and not raised -/
def tMkx (C : Addr) (t : TA) : TE := fun σ H Q => t σ H fun vs H1 => vs.length ≤ sizeLine ∧ ∀ a, H1 a = none → Q (.ref a) (upd H1 a (.ext (ExcAt a C)))
section
variable {X : Cx}
theorem pe_mkx {x : Str} {C : Addr} {e : Expr} {np cpos : Pos} {t : TA} (f : Full X) (hg : Gl X x) (hm : X.mg x = some (.ref C)) (hx : PySem.W.excIn X.K C bmV "ValueError.__new__" = true) (ha : PA X [e] t)
    (hs : starEach [e] X.env = [(false, eval e X.env)] := by rfl) (hd : (x == ("__debug__" : Str)) = false := by decide) : PE X (.Call (.Name x np) [e] [] cpos) (tMkx C t) := by
  intro pins s σ H Q I h
  obtain ⟨bm, N, nm, qn, bs, hdct, sn, sub, ab, col, dd, k0, k1, k2, k3, k5, mN, hC, hN, hni, T⟩ := exc_of_in I.ok.mod.kin hx
  refine wpAny_Call_Name_kw (ld_glob I hg hm ?_ hd)
  unfold callWith
  have ha' := ha cpos pins s σ H _ I h
  rw [hs] at ha' ⊢
  refine wpAny_bind (wpAny_holding (wpAny_mono (Calls.evalArgs_plain (Q := fun a s₂ => a.kw = [] ∧ ∃ vs H1, Inv X pins σ H1 s₂ ∧ Vals vs a.pos ∧ (vs.length ≤ sizeLine ∧ ∀ a, H1 a = none → Q (.ref a) (upd H1 a (.ext (ExcAt a C))))) (thn ha' fun us s1 ⟨vs, H1, I1, r, q⟩ => ⟨rfl, vs, H1, I1, r, q⟩)) (fun a s₂ h₂ => wpAny_bind (wpAny_standAt ?_)) fun _ _ x => x))
  obtain ⟨apos, akw⟩ := a
  obtain ⟨hkw, vs, H1, I1, r, hl, q⟩ := h₂
  obtain rfl : akw = [] := hkw
  have keep : ∀ b o, X.base.get? b = some o → s₂.heap.get? b = some o := I1.bk
  have hlen : apos.length ≤ sizeLine := by rw [← r.length]; exact hl
  have hC' := keep _ _ hC
  have hN' := hN.keeps keep
  have T' := T.keeps keep
  obtain ⟨hp, g, d, tk, os⟩ := s₂
  have hplain : (backTo cpos [(false, eval e X.env)]).any (·.1) = false := rfl
  simp only [hplain]
  refine wpAny_bind (wpAny_keeperOf_exc hC' ?_)
  refine wpAny_bind (wpAny_call_exc_subU (hrest := hlen) F.excBase_ValueError (by decide +kernel) F.excBase_ValueError T' hC' hN' hni fun h' a hmd => wpAny_bind (wpAny_holding (wpAny_point (wpAny_pure ?_))))
  obtain ⟨tt, he, _, _⟩ := hmd.there
  have I2 : Inv X pins σ H1 { heap := h', gens := g, drawn := d, toks := tk, os := os } := I1.kept (t' := tk) hmd.keeps
  have Fl : Fly X pins σ H1 { heap := h', gens := g, drawn := d, toks := tk, os := os } a C none := ⟨I2, ⟨_, _, he, rfl, rfl, rfl⟩, I1.nw f hmd.new, fun t e => by cases e⟩
  exact ⟨.ref a, _, Fl.track, rfl, q a Fl.na.2.1⟩
end
end L2

namespace L2
open PySem PySem.Spec PyProof.Rows
/-! ### a display of texts that are constants -/
def strsOf : List Expr → Option (List Str)
  | [] => some []
  | .Constant (.str x) _ _ :: r => (strsOf r).map (x :: ·)
  | _ :: _ => none
theorem pa_strs {X : Cx} : ∀ {es : List Expr} (ws : List Str), strsOf es = some ws → PA X es (fun σ H Q => Q (ws.map V.str) H)
  | [], ws, h => by
    have e : ws = [] := by
      have : some ([] : List Str) = some ws := h
      injection this with this
      exact this.symm
    subst e
    exact pa_nil
  | .Constant (.str x) k p :: r, ws, h => by
    have h' : (strsOf r).map (x :: ·) = some ws := h
    obtain ⟨l, hl, rfl⟩ := Option.map_eq_some_iff.mp h'
    exact pa_cons (pe_str) (pa_strs l hl) rfl
end L2

namespace L2
open PySem PySem.Spec PyProof.Rows
/-! ### the places that a set's search goes through -/
end L2

namespace L2
open PySem PySem.Spec PyProof.Rows
/-! ### a set's table: a free place is found -/
structure TabP (b : Bool) (t : SetTable) (n : Nat) : Prop where
  ok : TabOk b t
  pow : ∃ k, 1 ≤ k ∧ t.mask + 1 = 2 ^ k
  size : t.place.size = n
  le : ∀ j ∈ t.place.toList, j ≤ t.mask
  room : n ≤ t.mask
theorem nodup_sub_len : ∀ (l m : List Nat), l.Nodup → (∀ x ∈ l, x ∈ m) → l.length ≤ m.length
  | [], _, _, _ => Nat.zero_le _
  | x :: l, m, hn, hs => by
    obtain ⟨h1, h2⟩ := List.nodup_cons.mp hn
    have hx := hs x List.mem_cons_self
    have ih := nodup_sub_len l (m.erase x) h2 fun y hy => (List.mem_erase_of_ne (fun e : y = x => h1 (by rw [← e]; exact hy))).mpr (hs y (List.mem_cons_of_mem _ hy))
    rw [List.length_erase_of_mem hx] at ih
    have := List.length_pos_of_mem hx
    rw [List.length_cons]
    omega
theorem TabP.free {b : Bool} {t : SetTable} {n : Nat} (h : TabP b t n) : ∃ e, e ≤ t.mask ∧ e ∉ t.place.toList := by
  by_cases q : ∃ e, e ≤ t.mask ∧ e ∉ t.place.toList
  · exact q
  · exfalso
    have hall : ∀ x ∈ List.range (t.mask + 1), x ∈ t.place.toList := fun x hx => by
      by_cases z : x ∈ t.place.toList
      · exact z
      · exact absurd ⟨x, by have := List.mem_range.mp hx; omega, z⟩ q
    have := nodup_sub_len _ _ List.nodup_range hall
    rw [List.length_range, Array.length_toList, h.size] at this
    have := h.room
    omega
section
variable {b : Bool} {t : SetTable} {hashAt : Nat → Int} {h : Int}
theorem below_out {xs : Array Nat} (hr : Rise xs) {j : Nat} (hj : j ∉ xs.toList) : xs[SetTable.below xs j]? ≠ some j := fun e => hj (Array.mem_toList_iff.mpr (Array.mem_of_getElem? e))
theorem insertAt_list {α : Type} (xs : Array α) (p : Nat) (x : α) : (SetTable.insertAt xs p x).toList = xs.toList.take p ++ x :: xs.toList.drop p := by
  unfold SetTable.insertAt
  rw [Array.toList_append, Array.toList_push, Array.toList_extract, Array.toList_extract, List.extract_eq_take_drop, List.extract_eq_take_drop, List.drop_zero, Nat.sub_zero, List.append_assoc]
  congr 1
  show x :: ((xs.toList.drop p).take (xs.size - p)) = _
  rw [List.take_of_length_le (by rw [List.length_drop, Array.length_toList]; exact Nat.le_refl _)]
/-- one place more is taken -/
theorem TabP.put {n : Nat} (T : TabP b t n) {j : Nat} (hj : j ∉ t.place.toList) (hm : j ≤ t.mask) : TabOk b (t.put j).1 ∧ (t.put j).1.place.size = n + 1 ∧ (t.put j).1.mask = t.mask ∧ (∀ x ∈ (t.put j).1.place.toList, x ≤ t.mask) ∧ (t.put j).1.dummies = #[] ∧ (t.put j).1.plain = t.plain := by
  have hd : (t.put j).1.dummies = #[] := by
    show (if SetTable.has t.dummies j = true then _ else t.dummies) = #[]
    rw [T.ok.dum, has_empty]
    rfl
  have hp : (t.put j).1.place = SetTable.insertAt t.place (SetTable.below t.place j) j := rfl
  refine ⟨⟨T.ok.led, by rw [hp]; exact rise_insert T.ok.rise (below_out T.ok.rise hj), hd⟩, ?_, rfl, ?_, hd, rfl⟩
  · rw [hp, ← Array.length_toList, insertAt_list, List.length_append, List.length_cons, List.length_take, List.length_drop, Array.length_toList, T.size]
    omega
  · intro x hx
    rw [hp, insertAt_list] at hx
    rcases List.mem_append.mp hx with q | q
    · exact T.le x (List.mem_of_mem_take q)
    · rcases List.mem_cons.mp q with rfl | q
      · exact hm
      · exact T.le x (List.mem_of_mem_drop q)
end
end L2

namespace L2
open PySem PySem.Spec PyProof.Rows
/-! ### a set's table laid anew -/
end L2

namespace L2
open PySem PySem.Spec PyProof.Rows
/-! ### a def of the top, as a caller wants it -/
structure DefAt (K : PySem.W.Frag) (mg : Str → Option Value) (x : Str) (st : Stmt) (ps : List Str) (f : Addr) (fd : FuncData) : Prop where
  fn : Fun K x x st f fd
  mg : mg x = some (.ref f)
  bd : Binds K fd ps []
/-- a walk's kinds, one or the other -/
theorem PI.or {X : Cx} {tg it : Expr} {wi wi' : TI} (h : PI X tg it wi) (h' : PI X tg it wi') : PI X tg it (fun σ H R => wi σ H R ∨ wi' σ H R) := fun pins s σ H R I q => by
  rcases q with q | q
  · exact h pins s σ H R I q
  · exact h' pins s σ H R I q
end L2
namespace My
open PySem L2
def top (i : Nat) : Stmt := PySem.Challenge.pw_toldsums_k02_texts_of_no_row.main.body.getD i (.Pass ⟨0, 0, 0, 0⟩)
/-- what is no name of the module -/
structure Txt (mg : Str → Option Value) : Prop where
  b_len : mg "len" = none
  b_sum : mg "sum" = none
  b_range : mg "range" = none
  b_tuple : mg "tuple" = none
  b_list : mg "list" = none
  b_int : mg "int" = none
  b_str : mg "str" = none
  b_bool : mg "bool" = none
  b_isinstance : mg "isinstance" = none
  b_min : mg "min" = none
  b_max : mg "max" = none
  b_zip : mg "zip" = none
  b_reversed : mg "reversed" = none
  b_sorted : mg "sorted" = none
  b_abs : mg "abs" = none
  b_all : mg "all" = none
  b_any : mg "any" = none
  b_set : mg "set" = none
  b_ValueError : mg "ValueError" = none
/-- what else stood, stands -/
def Sv (d c : Addr) (H H' : Hp) : Prop := ∀ b o, H b = some o → b ≠ d → b ≠ c → H' b = some o
theorem Sv.refl {d c : Addr} (H : Hp) : Sv d c H H := fun _ _ h _ _ => h
theorem Sv.trans {d c : Addr} {H H1 H2 : Hp} (a : Sv d c H H1) (b : Sv d c H1 H2) : Sv d c H H2 := fun x o h n1 n2 => b x o (a x o h n1 n2) n1 n2
structure Deck (H : Hp) (d c : Addr) : Prop where
  dk : ∃ (a sd : Int), H d = some (.lst [.ref c, .int a, .int sd])
  cs : ∃ ns : List Int, H c = some (.lst (ns.map V.int)) ∧ 0 < ns.length
theorem Deck.ne {H : Hp} {d c : Addr} (D : Deck H d c) : d ≠ c := by
  obtain ⟨⟨a, sd, h1⟩, ns, h2, hn⟩ := D
  refine ne_of h1 h2 fun e => ?_
  injection e with e
  cases ns with
  | nil => cases e
  | cons n r => rw [List.map_cons] at e; injection e with e1 _; cases e1
def spTake : Sp := fun vs H Q _ => ∃ (d c : Addr) (many : Int), vs = [.ref d, .int many] ∧ Deck H d c ∧ 0 < many ∧ many < 18446744073709551616 ∧
  ∀ (r : Int) (H' : Hp), 0 ≤ r → r < many → Deck H' d c → Sv d c H H' → Q (.int r) H'
theorem mod_lt (x m : Int) (h : 0 < m) : 0 ≤ x % m ∧ x % m < m := ⟨Int.emod_nonneg _ (by omega), Int.emod_lt_of_pos _ h⟩
theorem mulL {x : Int} (y m : Int) (h : 0 < m) (hm : m < 2 ^ 64) : CMul (x % m) y := by
  have := mod_lt x m h
  left
  omega
section
variable {P : Program} {w : World} {K : PySem.W.Frag} {mg : Str → Option Value} {base : Heap}
abbrev s_law_take : Stmt := top 13
theorem sc_law_take : FnScope ["deck", "many", "at", "cell", "one"] ["deck", "many"] (defScope s_law_take) := ⟨rfl, rfl, rfl, by decide +kernel, rfl, by decide +kernel, by decide +kernel⟩
theorem ok_take {f : Addr} {fd : FuncData} (F : Fun K "_law_take" "_law_take" s_law_take f fd) (T : Txt mg) : FnOk P w K mg base CX0 1 f fd ["deck", "many"] spTake := by
  refine F.ok sc_law_take (fun vs H Q E h => ?_) (fun cdv A outer s H vs Q E hr h => ?_)
  · obtain ⟨d, c, many, rfl, _⟩ := h
    rfl
  · obtain ⟨d, c, many, rfl, D, h0, h1, k⟩ := h
    have ndc := D.ne
    obtain ⟨⟨a, sd, hd⟩, ns, hc, hn⟩ := D
    refine ⟨_, (pss_cons (ps_set (i := 2) sc_law_take.nd rfl (Or.inl rfl) (pe_op op_mod (pe_ix (ixL (K := K) rfl) (pv 0) pe_int (fun _ _ => rfl)) (pe_callB (cLen (K := K) rfl) (by rfl) T.b_len PyProof.Rows.Boot.«len» (pa_cons (pe_ix (ixL (K := K) rfl) (pv 0) pe_int (fun _ _ => rfl)) pa_nil))))
      (pss_cons (ps_asg (pe_op op_add (pe_ix (ixL (K := K) rfl) (pv 0) pe_int (fun _ _ => rfl)) pe_int) (pg_sub (pv 0) pe_int set_list))
      (pss_cons (ps_set (i := 3) sc_law_take.nd rfl (Or.inl rfl) (pe_ix (ixL (K := K) rfl) (pe_ix (ixL (K := K) rfl) (pv 0) pe_int (fun _ _ => rfl)) (pv 2) (fun _ _ => rfl)))
      (pss_cons (ps_if (PW.pt (pw_or (pt_cmpR op_eq (pv 3) pe_int (nomark _)) (pw_or1 (pt_cmpR op_eq (pv 3) (pe_un un_neg pe_int) (nomark _)))))
        (pss_cons (ps_set (i := 4) sc_law_take.nd rfl (Or.inl rfl) (pe_op op_mod (pe_op op_mul (pe_op op_mod (pe_op op_add (pe_ix (ixL (K := K) rfl) (pv 0) pe_int (fun _ _ => rfl)) (pe_op op_mul pe_int (pe_ix (ixL (K := K) rfl) (pv 0) pe_int (fun _ _ => rfl)))) pe_int) pe_int) pe_int))
        (pss_cons (ps_set (i := 4) sc_law_take.nd rfl (Or.inl rfl) (pe_op op_mod (pe_op op_mul (pe_op op_mod (pe_op op_add (pe_op op_mul (pv 4) (pv 4)) (pe_op op_mul pe_int (pe_ix (ixL (K := K) rfl) (pv 0) pe_int (fun _ _ => rfl)))) pe_int) pe_int) pe_int))
        (pss_one (ps_ret (pe_op op_mod (pe_op op_fdivW (pv 4) pe_int) (pv 1))))))
        pss_nil)
      (pss_cons (ps_asg (pe_op op_fdivW (pv 3) (pv 1)) (pg_sub (pe_ix (ixL (K := K) rfl) (pv 0) pe_int (fun _ _ => rfl)) (pv 2) set_list))
      (pss_one (ps_ret (pe_op op_mod (pv 3) (pv 1))))))))), ?_⟩
    have hl : (0 : Int) < ((ns.map V.int).length : Int) := by rw [List.length_map]; omega
    -- at = deck[1] % len(deck[0])
    refine ⟨_, rfl, d, _, 1, _, rfl, rfl, SqL.of hd, rfl, _, rfl, d, _, 0, _, rfl, rfl, SqL.of hd, rfl, c, _, rfl, .inl (SqL.of hc), _, _, rfl, rfl, hl, ?_⟩
    -- deck[1] = deck[1] + 1
    refine ⟨_, rfl, d, _, 1, _, rfl, rfl, SqL.of hd, rfl, _, _, rfl, rfl, _, rfl, d, _, 1, 1, rfl, rfl, hd, rfl, ?_⟩
    have hd1 : ∀ o, (upd H d o) d = some o := fun o => upd_same
    have hc1 : ∀ o, (upd H d o) c = some (.lst (ns.map V.int)) := fun o => by rw [upd_ne (Ne.symm ndc)]; exact hc
    have ⟨m0, m1⟩ := mod_lt a ((ns.map V.int).length : Int) hl
    obtain ⟨j, hj⟩ : ∃ j : Nat, a % ((ns.map V.int).length : Int) = (j : Int) := ⟨(a % ((ns.map V.int).length : Int)).toNat, by omega⟩
    have hjl : j < ns.length := by rw [List.length_map] at m1 hj; omega
    have hat : (ns.map V.int)[j]? = some (V.int (ns[j])) := by rw [List.getElem?_map, List.getElem?_eq_getElem hjl]; rfl
    have hix : ixN (ns.map V.int).length (a % ((ns.map V.int).length : Int)) = some j := by
      rw [hj]; unfold ixN; rw [if_pos (by omega), if_pos (by rw [List.length_map]; omega)]; simp
    -- cell = deck[0][at]
    refine ⟨_, rfl, d, _, 0, _, rfl, rfl, SqL.of upd_same, rfl, _, rfl, c, _, _, V.int ns[j], rfl, rfl, SqL.of (hc1 _), by rw [hj]; exact atI_nat hat, ?_⟩
    have D1 : Deck (upd H d (.lst [.ref c, .int (a + 1), .int sd])) d c := ⟨⟨_, _, upd_same⟩, ns, hc1 _, hn⟩
    have S1 : Sv d c H (upd H d (.lst [.ref c, .int (a + 1), .int sd])) := fun b o e n1 n2 => by rw [upd_ne n1]; exact e
    -- if cell == 0 or cell == -1
    refine ⟨_, rfl, rfl, _, rfl, ite2 (fun e => iteT ?b1) (fun e => ⟨_, rfl, 1, rfl, rfl, _, rfl, ite2 (fun e => ?b2) (fun e => ?rest)⟩)⟩
    case b1 | b2 =>
      refine ⟨_, rfl, d, _, 2, _, rfl, rfl, SqL.of upd_same, rfl, _, rfl, d, _, 1, _, rfl, rfl, SqL.of upd_same, rfl, _, _, rfl, rfl, .inl ⟨by decide, by decide⟩, _, _, rfl, rfl, _, _, rfl, rfl, (by show (0 : Int) < _; decide), _, _, rfl, rfl, mulL _ _ (by decide) (by decide), _, _, rfl, rfl, (by show (0 : Int) < _; decide), ?_⟩
      refine ⟨_, rfl, _, rfl, _, _, rfl, rfl, mulL _ _ (by decide) (by decide), _, rfl, d, _, 1, _, rfl, rfl, SqL.of upd_same, rfl, _, _, rfl, rfl, .inl ⟨by decide, by decide⟩, _, _, rfl, rfl, _, _, rfl, rfl, (by show (0 : Int) < _; decide), _, _, rfl, rfl, mulL _ _ (by decide) (by decide), _, _, rfl, rfl, (by show (0 : Int) < _; decide), ?_⟩
      refine ⟨_, rfl, _, _, rfl, rfl, ⟨by decide, by decide⟩, _, rfl, _, _, rfl, rfl, h0, ?_⟩
      exact k _ _ (mod_lt _ _ h0).1 (mod_lt _ _ h0).2 D1 S1
    case rest =>
      -- deck[0][at] = cell // many; return cell % many
      refine ⟨_, rfl, _, rfl, _, _, rfl, rfl, ⟨h0, h1⟩, _, rfl, d, _, 0, _, rfl, rfl, SqL.of upd_same, rfl, _, rfl, c, _, _, j, rfl, rfl, hc1 _, hix, ?_⟩
      refine ⟨_, rfl, _, rfl, _, _, rfl, rfl, h0, ?_⟩
      refine k _ _ (mod_lt _ _ h0).1 (mod_lt _ _ h0).2 ⟨⟨_, _, (upd_ne ndc).trans upd_same⟩, ns.set j (ns[j] / many), ?_, by rw [List.length_set]; exact hn⟩ fun b o e n1 n2 => ?_
      · rw [upd_same, List.map_set]
      · rw [upd_ne n2, upd_ne n1]; exact e
end
end My

namespace L2
open PySem PySem.Spec PyProof.Rows
/-! ### the forms of a comprehension's walk that one uses -/
theorem walk_range {lo : Int} {n : Nat} {g : TG} {t : TT} {b : TB} {N : St → Hp → Prop} {σ : St} {H : Hp} (Pv : Nat → St → Hp → Prop) (h0 : Pv 0 σ H)
    (hs : ∀ i σ H, i < n → Pv i σ H → g (.int (lo + i)) σ H fun σ2 H2 => t σ2 H2 fun k H3 => if k = true then b σ2 H3 (Pv (i + 1)) else Pv (i + 1) σ2 H3) (hd : ∀ σ H, Pv n σ H → N σ H) : bWalk (Itr lo n) g t b N σ H :=
  for_range (tb := fun D σ2 H2 => t σ2 H2 fun k H3 => if k = true then b σ2 H3 D.nx else D.nx σ2 H3) (D := { nx := N, rt := fun _ _ => True }) Pv h0 hs hd
theorem walk_list {K : PySem.W.Frag} {a : Addr} {xs : List V} {g : TG} {t : TT} {b : TB} {N : St → Hp → Prop} {σ : St} {H : Hp} (Pv : Nat → St → Hp → Prop) (h0 : Pv 0 σ H) (hl : ∀ i σ H, i ≤ xs.length → Pv i σ H → SqL K H a xs)
    (hs : ∀ i x σ H, xs[i]? = some x → Pv i σ H → g x σ H fun σ2 H2 => t σ2 H2 fun k H3 => if k = true then b σ2 H3 (Pv (i + 1)) else Pv (i + 1) σ2 H3) (hd : ∀ σ H, Pv xs.length σ H → N σ H) : bWalk (Itl K a) g t b N σ H :=
  for_list (tb := fun D σ2 H2 => t σ2 H2 fun k H3 => if k = true then b σ2 H3 D.nx else D.nx σ2 H3) (D := { nx := N, rt := fun _ _ => True }) Pv h0 hl hs hd
theorem walk_tup {K : PySem.W.Frag} {a : Addr} {xs : List V} {g : TG} {t : TT} {b : TB} {N : St → Hp → Prop} {σ : St} {H : Hp} (Pv : Nat → St → Hp → Prop) (h0 : Pv 0 σ H) (hl : ∀ i σ H, i ≤ xs.length → Pv i σ H → SqT K H a xs)
    (hs : ∀ i x σ H, xs[i]? = some x → Pv i σ H → g x σ H fun σ2 H2 => t σ2 H2 fun k H3 => if k = true then b σ2 H3 (Pv (i + 1)) else Pv (i + 1) σ2 H3) (hd : ∀ σ H, Pv xs.length σ H → N σ H) : bWalk (Itt K a) g t b N σ H :=
  for_tup (tb := fun D σ2 H2 => t σ2 H2 fun k H3 => if k = true then b σ2 H3 D.nx else D.nx σ2 H3) (D := { nx := N, rt := fun _ _ => True }) Pv h0 hl hs hd
theorem walk_zip {K : PySem.W.Frag} {b1 b2 : Bool} {a1 a2 : Addr} {xs ys : List V} {g : TG} {t : TT} {b : TB} {N : St → Hp → Prop} {σ : St} {H : Hp} (Pv : Nat → St → Hp → Prop) (h0 : Pv 0 σ H)
    (hl : ∀ i σ H, i ≤ min xs.length ys.length → Pv i σ H → SqB K b1 H a1 xs ∧ SqB K b2 H a2 ys)
    (hs : ∀ i x y p σ H, xs[i]? = some x → ys[i]? = some y → H p = none → Pv i σ H → g (.ref p) σ (upd H p (.tup [x, y])) fun σ2 H2 => t σ2 H2 fun k H3 => if k = true then b σ2 H3 (Pv (i + 1)) else Pv (i + 1) σ2 H3) (hd : ∀ σ H, Pv (min xs.length ys.length) σ H → N σ H) :
    bWalk (Itz K b1 b2 a1 a2) g t b N σ H := by
  refine ⟨fun i m σ H => m = min xs.length ys.length - i ∧ i ≤ min xs.length ys.length ∧ Pv i σ H, ⟨_, rfl, Nat.zero_le _, h0⟩, ?_⟩
  rintro i m σ H ⟨rfl, hi, p⟩
  obtain ⟨q1, q2⟩ := hl i σ H hi p
  by_cases hlt : i < min xs.length ys.length
  · have h1 : i < xs.length := by omega
    have h2 : i < ys.length := by omega
    refine .inr ⟨⟨xs, ys, _, _, q1, q2, List.getElem?_eq_getElem h1, List.getElem?_eq_getElem h2⟩, Pv (i + 1), fun σ' H' p' => ⟨_, by omega, rfl, hlt, p'⟩, fun v H' y => ?_⟩
    obtain ⟨a, x, z, rfl, hn, rfl, y1, y2⟩ := y
    exact hs i x z a σ H (y1 xs q1) (y2 ys q2) hn p
  · have e : i = min xs.length ys.length := by omega
    subst e
    exact .inl ⟨⟨xs, ys, q1, q2, by omega⟩, hd σ H p⟩
theorem atI_ints (ns : List Int) {r : Int} (h0 : 0 ≤ r) (h1 : r < ns.length) : ∃ n, atI (ns.map V.int) r = some (.int n) ∧ n ∈ ns ∧ ns[r.toNat]? = some n := by
  obtain ⟨j, rfl⟩ := Int.eq_ofNat_of_zero_le h0
  have hj : j < ns.length := by omega
  refine ⟨ns[j], atI_nat ?_, List.getElem_mem hj, ?_⟩
  · rw [List.getElem?_map, List.getElem?_eq_getElem hj]; rfl
  · rw [Int.toNat_natCast]; exact List.getElem?_eq_getElem hj
theorem size_le {n : Nat} (h : n ≤ 1000000) : n ≤ sizeLine := Nat.le_trans h (by decide)
theorem size_lt {n : Nat} (h : n ≤ 1000000) : n < sizeLine := Nat.lt_of_le_of_lt h (by decide)
end L2
namespace My
open PySem L2
theorem Deck.lay {H : Hp} {d c p : Addr} {o : HO} (D : Deck H d c) (h : H p = none) : Deck (upd H p o) d c := by
  obtain ⟨⟨a, sd, h1⟩, ns, h2, hn⟩ := D
  exact ⟨⟨a, sd, by rw [upd_ne (ne_of_none h1 h)]; exact h1⟩, ns, by rw [upd_ne (ne_of_none h2 h)]; exact h2, hn⟩
/-- a list that is not the deck's is written -/
theorem Deck.wr {H : Hp} {d c p : Addr} {o : HO} (D : Deck H d c) (h1 : p ≠ d) (h2 : p ≠ c) : Deck (upd H p o) d c := by
  obtain ⟨⟨a, sd, q1⟩, ns, q2, hn⟩ := D
  exact ⟨⟨a, sd, by rw [upd_ne (Ne.symm h1)]; exact q1⟩, ns, by rw [upd_ne (Ne.symm h2)]; exact q2, hn⟩
theorem Deck.nd {H : Hp} {d c p : Addr} (D : Deck H d c) (h : H p = none) : p ≠ d ∧ p ≠ c := by
  obtain ⟨⟨a, sd, h1⟩, ns, h2, hn⟩ := D
  exact ⟨Ne.symm (ne_of_none h1 h), Ne.symm (ne_of_none h2 h)⟩
theorem Sv.lay {d c p : Addr} {H : Hp} {o : HO} (h : H p = none) : Sv d c H (upd H p o) := fun b o' e _ _ => by rw [upd_ne (ne_of_none e h)]; exact e
theorem Sv.lay2 {d c p : Addr} {H H' : Hp} {o : HO} (s : Sv d c H H') (h : H p = none) : Sv d c H (L2.upd H' p o) := fun b o' e n1 n2 => by rw [upd_ne (ne_of_none e h)]; exact s b o' e n1 n2
theorem Sv.none {d c p : Addr} {H H' : Hp} (D : Deck H d c) (s : Sv d c H H') (h : H' p = none) (n1 : p ≠ d) (n2 : p ≠ c) : H p = Option.none := by
  cases q : H p with
  | none => rfl
  | some o => rw [s p o q n1 n2] at h; cases h
theorem e6 : (10 : Int) ^ (Int.toNat 6) = 1000000 := by decide
theorem e12 : (10 : Int) ^ (Int.toNat 12) = 1000000000000 := by decide
def Bnd (n : Int) : Prop := -1000000000000 < n ∧ n < 1000000000000
def spSome : Sp := fun vs H Q _ => ∃ (d c : Addr) (kind : Int), vs = [.ref d, .int kind] ∧ Deck H d c ∧ ∀ (r : Int) (H' : Hp), Bnd r → Deck H' d c → Sv d c H H' → Q (.int r) H'
section
variable {P : Program} {w : World} {K : PySem.W.Frag} {mg : Str → Option Value} {base : Heap}
abbrev s_law_some_number : Stmt := top 14
theorem sc_law_some_number : FnScope ["deck", "kind", "whole"] ["deck", "kind"] (defScope s_law_some_number) := ⟨rfl, rfl, rfl, by decide +kernel, rfl, by decide +kernel, by decide +kernel⟩
theorem ok_some {f ft : Addr} {fd fdt : FuncData} (F : Fun K "_law_some_number" "_law_some_number" s_law_some_number f fd) (T : Txt mg) (D__law_take : DefAt K mg "_law_take" s_law_take ["deck", "many"] ft fdt) : FnOk P w K mg base CX0 2 f fd ["deck", "kind"] spSome := by
  have G__law_take : FnOk P w K mg base CX0 1 ft fdt ["deck", "many"] spTake := ok_take D__law_take.fn T
  refine F.ok sc_law_some_number (fun vs H Q E h => ?_) (fun cdv A outer s H vs Q E hr h => ?_)
  · obtain ⟨d, c, kind, rfl, _⟩ := h
    rfl
  · obtain ⟨d, c, kind, rfl, D, k⟩ := h
    refine ⟨_, (pss_cons (ps_if (pt_cmpR op_eq (pv 1) pe_int (nomark _))
        (pss_one (ps_ret (pe_op op_sub (pe_call G__law_take (hr.mono (by first | decide | exact Nat.le_refl _)) rfl D__law_take.mg D__law_take.fn.kp D__law_take.bd .nil pass0 (pa_cons (pv 0) (pa_cons pe_int pa_nil))) pe_int)))
        pss_nil)
      (pss_cons (ps_if (pt_cmpR op_eq (pv 1) pe_int (nomark _))
        (pss_one (ps_ret (pe_op op_mul (pe_op op_mul (pe_call G__law_take (hr.mono (by first | decide | exact Nat.le_refl _)) rfl D__law_take.mg D__law_take.fn.kp D__law_take.bd .nil pass0 (pa_cons (pv 0) (pa_cons pe_int pa_nil))) (pe_callTy call_int1 (by rfl) T.b_int PyProof.Rows.Boot.«int» (pa_cons (pe_cmpR op_eq (pe_call G__law_take (hr.mono (by first | decide | exact Nat.le_refl _)) rfl D__law_take.mg D__law_take.fn.kp D__law_take.bd .nil pass0 (pa_cons (pv 0) (pa_cons pe_int pa_nil))) pe_int (nomark _)) pa_nil))) (pe_ix (ixL (K := K) rfl) (pe_lst (pa_cons pe_int (pa_cons (pe_un un_neg pe_int) pa_nil))) (pe_call G__law_take (hr.mono (by first | decide | exact Nat.le_refl _)) rfl D__law_take.mg D__law_take.fn.kp D__law_take.bd .nil pass0 (pa_cons (pv 0) (pa_cons pe_int pa_nil))) (fun _ _ => rfl)))))
        pss_nil)
      (pss_cons (ps_if (pt_cmpR op_eq (pv 1) pe_int (nomark _))
        (pss_one (ps_ret (pe_op op_sub (pe_call G__law_take (hr.mono (by first | decide | exact Nat.le_refl _)) rfl D__law_take.mg D__law_take.fn.kp D__law_take.bd .nil pass0 (pa_cons (pv 0) (pa_cons pe_int pa_nil))) pe_int)))
        pss_nil)
      (pss_cons (ps_set (i := 2) sc_law_some_number.nd rfl (Or.inl rfl) (pe_op op_add (pe_op op_mul (pe_call G__law_take (hr.mono (by first | decide | exact Nat.le_refl _)) rfl D__law_take.mg D__law_take.fn.kp D__law_take.bd .nil pass0 (pa_cons (pv 0) (pa_cons (pe_op op_pow pe_int pe_int) pa_nil))) (pe_op op_pow pe_int pe_int)) (pe_call G__law_take (hr.mono (by first | decide | exact Nat.le_refl _)) rfl D__law_take.mg D__law_take.fn.kp D__law_take.bd .nil pass0 (pa_cons (pv 0) (pa_cons (pe_op op_pow pe_int pe_int) pa_nil)))))
      (pss_one (ps_ret (pe_ix (ixL (K := K) rfl) (pe_lst (pa_cons (pv 2) (pa_cons (pe_op op_sub pe_int (pv 2)) (pa_cons (pe_op op_sub (pe_op op_pow pe_int pe_int) pe_int) (pa_cons (pe_op op_sub pe_int (pe_op op_pow pe_int pe_int)) pa_nil))))) (pe_call G__law_take (hr.mono (by first | decide | exact Nat.le_refl _)) rfl D__law_take.mg D__law_take.fn.kp D__law_take.bd .nil pass0 (pa_cons (pv 0) (pa_cons pe_int pa_nil))) (fun _ _ => rfl)))))))), ?_⟩
    refine ⟨_, rfl, rfl, _, rfl, ite2 (fun e => ?_) (fun e => ?_)⟩
    · refine ⟨_, rfl, d, c, _, rfl, D, by decide, by decide, fun r H1 r0 r1 D1 S1 => ⟨_, _, rfl, rfl, k _ _ ?_ D1 S1⟩⟩
      unfold Bnd; omega
    refine ⟨_, rfl, rfl, _, rfl, ite2 (fun e => ?_) (fun e => ?_)⟩
    · refine ⟨_, rfl, d, c, _, rfl, D, by decide, by decide, fun r H1 r0 r1 D1 S1 => ⟨_, rfl, d, c, _, rfl, D1, by decide, by decide, fun q H2 q0 q1 D2 S2 => ⟨rfl, .inr ⟨_, rfl, _, _, rfl, rfl, .inl (by omega), 1, rfl, by show 2 ≤ sizeLine; decide, fun p hp => ⟨_, rfl, d, c, _, rfl, D2.lay hp, by decide, by decide, fun z H3 z0 z1 D3 S3 => ?_⟩⟩⟩⟩⟩
      obtain ⟨v, hv, hm, _⟩ := atI_ints [1, -1] z0 z1
      obtain ⟨n1, n2⟩ := D2.nd hp
      refine ⟨p, _, _, _, rfl, rfl, SqL.of (S3 _ _ upd_same n1 n2), hv, _, _, rfl, rfl, ?_, k _ _ ?_ D3 (S1.trans (S2.trans ((Sv.lay hp).trans S3)))⟩
      · left
        split <;> omega
      · have : v = 1 ∨ v = -1 := by simpa using hm
        unfold Bnd
        rcases this with rfl | rfl <;> split <;> omega
    refine ⟨_, rfl, rfl, _, rfl, ite2 (fun e => ?_) (fun e => ?_)⟩
    · refine ⟨_, rfl, d, c, _, rfl, D, by decide, by decide, fun r H1 r0 r1 D1 S1 => ⟨_, _, rfl, rfl, k _ _ ?_ D1 S1⟩⟩
      unfold Bnd; omega
    -- whole = ..
    refine ⟨_, rfl, _, _, rfl, rfl, ⟨by decide, by decide, by decide⟩, d, c, _, rfl, D, by decide, by decide, fun r H1 r0 r1 D1 S1 => ?_⟩
    rw [e6] at r1
    refine ⟨_, _, rfl, rfl, ⟨by decide, by decide, by decide⟩, _, _, rfl, rfl, .inl (by omega), _, rfl, _, _, rfl, rfl, ⟨by decide, by decide, by decide⟩, d, c, _, rfl, D1, by decide, by decide, fun q H2 q0 q1 D2 S2 => ?_⟩
    rw [e6] at q1
    refine ⟨_, _, rfl, rfl, ?_⟩
    -- return [..][..]
    refine ⟨_, rfl, _, rfl, _, _, rfl, rfl, _, _, rfl, rfl, ⟨by decide, by decide, by decide⟩, _, _, rfl, rfl, _, _, rfl, rfl, ⟨by decide, by decide, by decide⟩, _, _, rfl, rfl, by show 4 ≤ sizeLine; decide, fun p hp => ⟨_, rfl, d, c, _, rfl, D2.lay hp, by decide, by decide, fun z H3 z0 z1 D3 S3 => ?_⟩⟩
    obtain ⟨v, hv, hm, _⟩ := atI_ints [r * 10 ^ (Int.toNat 6) + q, 0 - (r * 10 ^ (Int.toNat 6) + q), 10 ^ (Int.toNat 12) - 1, 1 - 10 ^ (Int.toNat 12)] z0 z1
    obtain ⟨n1, n2⟩ := D2.nd hp
    refine ⟨p, _, _, _, rfl, rfl, SqL.of (S3 _ _ upd_same n1 n2), hv, k _ _ ?_ D3 (S1.trans (S2.trans ((Sv.lay hp).trans S3)))⟩
    rw [e6, e12] at hm
    simp only [List.mem_cons, List.not_mem_nil, or_false] at hm
    unfold Bnd
    rcases hm with rfl | rfl | rfl | rfl <;> omega
end
end My

namespace My
open PySem L2
theorem comp_draws {d c acc : Addr} {n : Nat} {lo : Int} {te : TE} {Bd : Int → Prop} {N : St → Hp → Prop} {H1 : Hp} (sh : Option V → St) (R : Hp → Prop) (hsh : ∀ v x, (sh v).set 0 (some x) = sh (some x))
    (hR : ∀ H H' : Hp, (∀ b o, H b = some o → b ≠ d → b ≠ c → b ≠ acc → H' b = some o) → R H → R H')
    (hte : ∀ (z : Int) (H : Hp) (Qk : VK), lo ≤ z → Deck H d c → R H → (∀ r H', Bd r → Deck H' d c → Sv d c H H' → Qk (.int r) H') → te (sh (some (.int z))) H Qk)
    (D : Deck H1 d c) (r0 : R H1) (hacc : H1 acc = none) (hn : n ≤ 1000000)
    (hN : ∀ σ (rs : List Int) H', rs.length = n → (∀ r ∈ rs, Bd r) → Deck H' d c → H' acc = some (.lst (rs.map V.int)) → Sv d c H1 H' → N σ H') :
    bWalk (Itr lo n) (gName 0) tYes (bEmit acc te) N (sh none) (upd H1 acc (.lst [])) := by
  obtain ⟨nd, nc⟩ := D.nd hacc
  refine walk_range (fun i σ H => ∃ (v : Option V) (rs : List Int), σ = sh v ∧ rs.length = i ∧ (∀ r ∈ rs, Bd r) ∧ Deck H d c ∧ R H ∧ H acc = some (.lst (rs.map V.int)) ∧ Sv d c H1 H) ?_ ?_ ?_
  · exact ⟨none, [], rfl, rfl, (fun _ h => nomatch h), D.lay hacc, hR _ _ (fun b o e _ _ n3 => by rw [upd_ne n3]; exact e) r0, upd_same, Sv.lay hacc⟩
  · rintro i σ H hi ⟨v, rs, rfl, hl, hb, DH, r, ha, S⟩
    show te ((sh v).set 0 (some (.int (lo + i)))) H _
    rw [hsh]
    refine hte (lo + i) H _ (by omega) DH r fun q H' hq D' S' => ⟨_, S' _ _ ha nd nc, size_lt (by rw [List.length_map]; omega), some (.int (lo + i)), rs ++ [q], rfl, by simp [hl], ?_, D'.wr nd nc, ?_, ?_, ?_⟩
    · intro x hx
      rcases List.mem_append.mp hx with h | h
      · exact hb x h
      · have : x = q := by simpa using h
        rw [this]; exact hq
    · exact hR _ _ (fun b o e n1 n2 n3 => by rw [upd_ne n3]; exact S' b o e n1 n2) r
    · rw [upd_same, List.map_append]; rfl
    · exact fun b o e n1 n2 => by rw [upd_ne (ne_of_none e hacc)]; exact S' b o (S b o e n1 n2) n1 n2
  · rintro σ H ⟨v, rs, rfl, hl, hb, DH, r, ha, S⟩
    exact hN _ rs H hl hb DH ha S
theorem cut1 (x : V) (xs : List V) : cutV (x :: xs) (some 1) none = xs := by
  unfold cutV HT.sIx
  simp
/-- the differences of neighbours -/
theorem comp_diffs {K : PySem.W.Frag} {d c acc a1 a2 : Addr} {xs : List Int} {N : St → Hp → Prop} {H1 : Hp} (D : Deck H1 d c) (hacc : H1 acc = none) (h1 : H1 a1 = some (.lst ((0 :: xs).map V.int))) (h2 : H1 a2 = some (.lst (xs.map V.int)))
    (n1 : a1 ≠ d ∧ a1 ≠ c) (n2 : a2 ≠ d ∧ a2 ≠ c) (hb : ∀ x ∈ xs, -500000000000 ≤ x ∧ x < 500000000000) (hlen : xs.length ≤ 1000000)
    (hN : ∀ σ (rs : List Int) H', rs.length = xs.length → (∀ r ∈ rs, Bnd r) → Deck H' d c → H' acc = some (.lst (rs.map V.int)) → Sv d c H1 H' → N σ H') :
    bWalk (Itz K false false a1 a2) (gTup K 2 (gCons (gName 0) (gCons (gName 1) gNil))) tYes (bEmit acc (tOp (rI0 fun i j => .int (i - j)) (tVar 1) (tVar 0))) N [none, none] (upd H1 acc (.lst [])) := by
  obtain ⟨nd, nc⟩ := D.nd hacc
  refine walk_zip (xs := (0 :: xs).map V.int) (ys := xs.map V.int) (fun i σ H => ∃ (v1 v2 : Option V) (rs : List Int), σ = [v1, v2] ∧ rs.length = i ∧ (∀ r ∈ rs, Bnd r) ∧ Deck H d c ∧ H acc = some (.lst (rs.map V.int)) ∧ Sv d c H1 H) ?_ ?_ ?_ ?_
  · exact ⟨none, none, [], rfl, rfl, (fun _ h => nomatch h), D.lay hacc, upd_same, Sv.lay hacc⟩
  · rintro i σ H hi ⟨v1, v2, rs, rfl, hl, hr, DH, ha, S⟩
    exact ⟨SqL.of (S _ _ h1 n1.1 n1.2), SqL.of (S _ _ h2 n2.1 n2.2)⟩
  · rintro i x y p σ H hx hy hp ⟨v1, v2, rs, rfl, hl, hr, DH, ha, S⟩
    obtain ⟨x', hx', rfl⟩ : ∃ x', (0 :: xs)[i]? = some x' ∧ V.int x' = x := by rw [List.getElem?_map] at hx; exact Option.map_eq_some_iff.mp hx
    obtain ⟨y', hy', rfl⟩ : ∃ y', xs[i]? = some y' ∧ V.int y' = y := by rw [List.getElem?_map] at hy; exact Option.map_eq_some_iff.mp hy
    have hiy : i < xs.length := (List.getElem?_eq_some_iff.mp hy').1
    refine ⟨p, _, rfl, SqT.of upd_same, rfl, _, _, rfl, _, _, rfl, rfl, ?_⟩
    have hap : acc ≠ p := ne_of_none ha hp
    refine ⟨_, rfl, _, rfl, _, _, rfl, rfl, _, (upd_ne hap).trans ha, size_lt (by rw [List.length_map]; omega), _, _, rs ++ [y' - x'], rfl, by simp [hl], ?_, (DH.lay hp).wr nd nc, ?_, ?_⟩
    · intro r h
      rcases List.mem_append.mp h with h | h
      · exact hr r h
      · have e : r = y' - x' := by simpa using h
        have b1 := hb y' (List.mem_of_getElem? hy')
        have b2 : -500000000000 ≤ x' ∧ x' < 500000000000 := by
          rcases List.mem_cons.mp (List.mem_of_getElem? hx') with z | z
          · rw [z]; decide
          · exact hb x' z
        rw [e]; unfold Bnd; omega
    · rw [upd_same, List.map_append]; rfl
    · exact fun b o e m1 m2 => by rw [upd_ne (ne_of_none e hacc), upd_ne (ne_of_none (S b o e m1 m2) hp)]; exact S b o e m1 m2
  · rintro σ H ⟨v1, v2, rs, rfl, hl, hr, DH, ha, S⟩
    refine hN _ rs H ?_ hr DH ha S
    rw [hl]; simp only [List.length_map, List.length_cons]; omega
def spRow : Sp := fun vs H Q _ => ∃ (d c : Addr) (most : Int), vs = [.ref d, .int most] ∧ Deck H d c ∧ 0 ≤ most ∧ most ≤ 1000 ∧
  ∀ (p : Addr) (ns : List Int) (H' : Hp), H p = none → H' p = some (.tup (ns.map V.int)) → (ns.length : Int) ≤ most → (∀ n ∈ ns, Bnd n) → Deck H' d c → Sv d c H H' → Q (.ref p) H'
section
variable {P : Program} {w : World} {K : PySem.W.Frag} {mg : Str → Option Value} {base : Heap}
abbrev s_law_row : Stmt := top 15
theorem sc_law_row : FnScope ["deck", "most", "many", "kind", "way", "some", "ahead"] ["deck", "most"] (defScope s_law_row) := ⟨rfl, rfl, rfl, by decide +kernel, rfl, by decide +kernel, by decide +kernel⟩
theorem ok_row {f ft fs : Addr} {fd fdt fds : FuncData} (F : Fun K "_law_row" "_law_row" s_law_row f fd) (T : Txt mg) (D__law_take : DefAt K mg "_law_take" s_law_take ["deck", "many"] ft fdt)
    (D__law_some_number : DefAt K mg "_law_some_number" s_law_some_number ["deck", "kind"] fs fds) : FnOk P w K mg base CX0 3 f fd ["deck", "most"] spRow := by
  have G__law_take : FnOk P w K mg base CX0 1 ft fdt ["deck", "many"] spTake := ok_take D__law_take.fn T
  have G__law_some_number : FnOk P w K mg base CX0 2 fs fds ["deck", "kind"] spSome := ok_some D__law_some_number.fn T D__law_take
  refine F.ok sc_law_row (fun vs H Q E h => ?_) (fun cdv A outer s H vs Q E hr h => ?_)
  · obtain ⟨d, c, most, rfl, _⟩ := h
    rfl
  · obtain ⟨d, c, most, rfl, D, m0, m1, k⟩ := h
    refine ⟨_, (pss_cons (ps_set (i := 2) sc_law_row.nd rfl (Or.inl rfl) (pe_ix (ixL (K := K) rfl) (pe_lst (pa_cons (pe_call G__law_take (hr.mono (by first | decide | exact Nat.le_refl _)) rfl D__law_take.mg D__law_take.fn.kp D__law_take.bd .nil pass0 (pa_cons (pv 0) (pa_cons pe_int pa_nil))) (pa_cons (pe_call G__law_take (hr.mono (by first | decide | exact Nat.le_refl _)) rfl D__law_take.mg D__law_take.fn.kp D__law_take.bd .nil pass0 (pa_cons (pv 0) (pa_cons pe_int pa_nil))) (pa_cons (pe_call G__law_take (hr.mono (by first | decide | exact Nat.le_refl _)) rfl D__law_take.mg D__law_take.fn.kp D__law_take.bd .nil pass0 (pa_cons (pv 0) (pa_cons (pe_op op_add (pv 1) pe_int) pa_nil))) (pa_cons (pv 1) pa_nil))))) (pe_call G__law_take (hr.mono (by first | decide | exact Nat.le_refl _)) rfl D__law_take.mg D__law_take.fn.kp D__law_take.bd .nil pass0 (pa_cons (pv 0) (pa_cons pe_int pa_nil))) (fun _ _ => rfl)))
      (pss_cons (ps_set (i := 2) sc_law_row.nd rfl (Or.inl rfl) (pe_callB (call_min2 rfl) (by rfl) T.b_min PyProof.Rows.Boot.«min» (pa_cons (pv 2) (pa_cons (pv 1) pa_nil))))
      (pss_cons (ps_set (i := 3) sc_law_row.nd rfl (Or.inr rfl) (pe_call G__law_take (hr.mono (by first | decide | exact Nat.le_refl _)) rfl D__law_take.mg D__law_take.fn.kp D__law_take.bd .nil pass0 (pa_cons (pv 0) (pa_cons pe_int pa_nil))))
      (pss_cons (ps_set (i := 4) sc_law_row.nd rfl (Or.inl rfl) (pe_call G__law_take (hr.mono (by first | decide | exact Nat.le_refl _)) rfl D__law_take.mg D__law_take.fn.kp D__law_take.bd .nil pass0 (pa_cons (pv 0) (pa_cons pe_int pa_nil))))
      (pss_cons (ps_if (pt_cmpR op_eq (pv 4) pe_int (nomark _))
        (pss_cons (ps_set (i := 5) sc_law_row.nd rfl (Or.inr rfl) (pe_comp (N := ["k", "deck", "kind"]) (cap := [none, some 0, some 3]) rfl (show blkOk ["deck", "most", "many", "kind", "way", "some", "ahead"] (defScope s_law_row) ["k", "deck", "kind"] [none, some 0, some 3] _ = true by decide +kernel) (pi_range1 (by rfl) T.b_range (pa_cons (pe_op op_add pe_int (pe_call G__law_take (hr.mono (by first | decide | exact Nat.le_refl _)) rfl D__law_take.mg D__law_take.fn.kp D__law_take.bd .nil pass0 (pa_cons (pv 0) (pa_cons pe_int pa_nil)))) pa_nil)) (fun cl C s3 H3 fp => ⟨(pg_name (i := 0) (show (["k", "deck", "kind"] : List Str).Nodup by decide +kernel) rfl (Or.inl rfl)), pts_nil, fun it acc => (paf_emit rfl (pe_call G__law_some_number (hr.mono (by first | decide | exact Nat.le_refl _)) rfl D__law_some_number.mg D__law_some_number.fn.kp D__law_some_number.bd .nil pass0 (pa_cons (pv 1) (pa_cons (pv 2) pa_nil))))⟩)))
        (pss_one (ps_ret (pe_callTy (cTuple (K := K) rfl) (by rfl) T.b_tuple PyProof.Rows.Boot.«tuple» (pa_cons (pe_comp (N := ["k", "some"]) (cap := [none, some 5]) rfl (show blkOk ["deck", "most", "many", "kind", "way", "some", "ahead"] (defScope s_law_row) ["k", "some"] [none, some 5] _ = true by decide +kernel) (pi_range1 (by rfl) T.b_range (pa_cons (pv 2) pa_nil)) (fun cl C s3 H3 fp => ⟨(pg_name (i := 0) (show (["k", "some"] : List Str).Nodup by decide +kernel) rfl (Or.inl rfl)), pts_nil, fun it acc => (paf_emit rfl (pe_ix (ixL (K := K) rfl) (pv 1) (pe_op op_mod (pv 0) (pe_callB (cLen (K := K) rfl) (by rfl) T.b_len PyProof.Rows.Boot.«len» (pa_cons (pv 1) pa_nil))) (fun _ _ => rfl)))⟩)) pa_nil)))))
        pss_nil)
      (pss_cons (ps_if (pt_cmpR op_eq (pv 4) pe_int (nomark _))
        (pss_cons (ps_set (i := 5) sc_law_row.nd rfl (Or.inr rfl) (pe_comp (N := ["k", "deck", "kind"]) (cap := [none, some 0, some 3]) rfl (show blkOk ["deck", "most", "many", "kind", "way", "some", "ahead"] (defScope s_law_row) ["k", "deck", "kind"] [none, some 0, some 3] _ = true by decide +kernel) (pi_range1 (by rfl) T.b_range (pa_cons (pe_op op_add pe_int (pe_call G__law_take (hr.mono (by first | decide | exact Nat.le_refl _)) rfl D__law_take.mg D__law_take.fn.kp D__law_take.bd .nil pass0 (pa_cons (pv 0) (pa_cons pe_int pa_nil)))) pa_nil)) (fun cl C s3 H3 fp => ⟨(pg_name (i := 0) (show (["k", "deck", "kind"] : List Str).Nodup by decide +kernel) rfl (Or.inl rfl)), pts_nil, fun it acc => (paf_emit rfl (pe_op op_fdiv (pe_call G__law_some_number (hr.mono (by first | decide | exact Nat.le_refl _)) rfl D__law_some_number.mg D__law_some_number.fn.kp D__law_some_number.bd .nil pass0 (pa_cons (pv 1) (pa_cons (pv 2) pa_nil))) pe_int))⟩)))
        (pss_cons (ps_set (i := 6) sc_law_row.nd rfl (Or.inl rfl) (pe_op op_cat (pe_lst (pa_cons pe_int pa_nil)) (pe_comp (N := ["k", "deck", "some"]) (cap := [none, some 0, some 5]) rfl (show blkOk ["deck", "most", "many", "kind", "way", "some", "ahead"] (defScope s_law_row) ["k", "deck", "some"] [none, some 0, some 5] _ = true by decide +kernel) (pi_range1 (by rfl) T.b_range (pa_cons (pv 2) pa_nil)) (fun cl C s3 H3 fp => ⟨(pg_name (i := 0) (show (["k", "deck", "some"] : List Str).Nodup by decide +kernel) rfl (Or.inl rfl)), pts_nil, fun it acc => (paf_emit rfl (pe_ix (ixL (K := K) rfl) (pv 2) (pe_call G__law_take (hr.mono (by first | decide | exact Nat.le_refl _)) rfl D__law_take.mg D__law_take.fn.kp D__law_take.bd .nil pass0 (pa_cons (pv 1) (pa_cons (pe_callB (cLen (K := K) rfl) (by rfl) T.b_len PyProof.Rows.Boot.«len» (pa_cons (pv 2) pa_nil)) pa_nil))) (fun _ _ => rfl)))⟩))))
        (pss_one (ps_ret (pe_callTy (cTuple (K := K) rfl) (by rfl) T.b_tuple PyProof.Rows.Boot.«tuple» (pa_cons (pe_comp (N := ["one", "other"]) (cap := [none, none]) rfl (show blkOk ["deck", "most", "many", "kind", "way", "some", "ahead"] (defScope s_law_row) ["one", "other"] [none, none] _ = true by decide +kernel) (piZ (K := K) rfl false false (by rfl) T.b_zip (pa_cons (pv 6) (pa_cons (pe_slice (slL (K := K) rfl) (pv 6) (po_some pe_int) po_none) pa_nil))) (fun cl C s3 H3 fp => ⟨(pgT (K := K) (n := 2) rfl rfl (pgs_cons (pg_name (i := 0) (show (["one", "other"] : List Str).Nodup by decide +kernel) rfl (Or.inl rfl)) (pgs_cons (pg_name (i := 1) (show (["one", "other"] : List Str).Nodup by decide +kernel) rfl (Or.inl rfl)) pgs_nil))), pts_nil, fun it acc => (paf_emit rfl (pe_op op_sub (pv 1) (pv 0)))⟩)) pa_nil))))))
        pss_nil)
      (pss_one (ps_ret (pe_callTy (cTuple (K := K) rfl) (by rfl) T.b_tuple PyProof.Rows.Boot.«tuple» (pa_cons (pe_comp (N := ["k", "deck", "kind"]) (cap := [none, some 0, some 3]) rfl (show blkOk ["deck", "most", "many", "kind", "way", "some", "ahead"] (defScope s_law_row) ["k", "deck", "kind"] [none, some 0, some 3] _ = true by decide +kernel) (pi_range1 (by rfl) T.b_range (pa_cons (pv 2) pa_nil)) (fun cl C s3 H3 fp => ⟨(pg_name (i := 0) (show (["k", "deck", "kind"] : List Str).Nodup by decide +kernel) rfl (Or.inl rfl)), pts_nil, fun it acc => (paf_emit rfl (pe_call G__law_some_number (hr.mono (by first | decide | exact Nat.le_refl _)) rfl D__law_some_number.mg D__law_some_number.fn.kp D__law_some_number.bd .nil pass0 (pa_cons (pv 1) (pa_cons (pv 2) pa_nil))))⟩)) pa_nil)))))))))), ?_⟩
    -- many = [..][..]
    refine ⟨_, rfl, d, c, _, rfl, D, by decide, by decide, fun r1 H1 _ _ D1 S1 => ⟨_, rfl, d, c, _, rfl, D1, by decide, by decide, fun r2 H2 _ _ D2 S2 => ⟨_, rfl, _, rfl, _, _, rfl, rfl, d, c, _, rfl, D2, by omega, by omega, fun r3 H3 _ _ D3 S3 => ⟨_, rfl, by show 4 ≤ sizeLine; decide, fun p hp => ⟨_, rfl, d, c, _, rfl, D3.lay hp, by decide, by decide, fun z H4 z0 z1 D4 S4 => ?_⟩⟩⟩⟩⟩
    obtain ⟨v, hv, hm, _⟩ := atI_ints [r1, r2, r3, most] z0 z1
    have hv0 : 0 ≤ v := by
      simp only [List.mem_cons, List.not_mem_nil, or_false] at hm
      rcases hm with rfl | rfl | rfl | rfl <;> assumption
    obtain ⟨np1, np2⟩ := D3.nd hp
    have SA : Sv d c H H4 := S1.trans (S2.trans (S3.trans ((Sv.lay hp).trans S4)))
    refine ⟨p, _, _, _, rfl, rfl, SqL.of (S4 _ _ upd_same np1 np2), hv, ?_⟩
    -- many = min(many, most)
    refine ⟨_, rfl, _, rfl, _, _, rfl, ?_⟩
    obtain ⟨mn, hmn, mn0, mn1⟩ : ∃ mn : Int, (if most < v then most else v) = mn ∧ 0 ≤ mn ∧ mn ≤ most := ⟨_, rfl, by split <;> omega, by split <;> omega⟩
    rw [hmn]
    -- kind, way
    refine ⟨_, rfl, d, c, _, rfl, D4, by decide, by decide, fun kd H5 _ _ D5 S5 => ⟨_, rfl, d, c, _, rfl, D5, by decide, by decide, fun wy H6 _ _ D6 S6 => ?_⟩⟩
    have SB : Sv d c H H6 := SA.trans (S5.trans S6)
    have fin : ∀ (acc : Addr) (rs : List Int) (H' : Hp), (rs.length : Int) ≤ most → (∀ r ∈ rs, Bnd r) → Deck H' d c → H' acc = some (.lst (rs.map V.int)) → Sv d c H H' → ∀ l, H' l = none → Q (.ref l) (upd H' l (.tup (rs.map V.int))) := fun acc rs H' hl hb D' ha S' l hl' =>
      k l rs _ (S'.none D hl' (D'.nd hl').1 (D'.nd hl').2) upd_same hl hb (D'.lay hl') (S'.lay2 (S'.none D hl' (D'.nd hl').1 (D'.nd hl').2))
    refine ⟨_, rfl, rfl, _, rfl, ite2 (fun e => ?_) (fun e => ?_)⟩
    · -- way 0
      refine ⟨_, rfl, d, c, _, rfl, D6, by decide, by decide, fun t H7 t0 t1 D7 S7 => ⟨_, _, rfl, rfl, _, rfl, by omega, by omega, fun acc hacc => ?_⟩⟩
      refine comp_draws (Bd := Bnd) (fun v => [v, some (.ref d), some (.int kd)]) (fun _ => True) (fun _ _ => rfl) (fun _ _ _ _ => trivial) (fun z H' Qk _ D' _ q => ⟨_, rfl, _, rfl, d, c, _, rfl, D', q⟩) D7 trivial hacc (by omega) ?_
      intro σ' rs H8 hl8 hb8 D8 ha8 S8
      have hrs : 0 < rs.length := by omega
      obtain ⟨na1, na2⟩ := D7.nd hacc
      refine ⟨_, rfl, _, rfl, by omega, by omega, fun acc2 hacc2 => ?_⟩
      refine comp_draws (d := d) (c := c) (Bd := Bnd) (fun v => [v, some (.ref acc)]) (fun H' => H' acc = some (.lst (rs.map V.int))) (fun _ _ => rfl) (fun H' H'' st e => st acc _ e na1 na2 (ne_of_none ha8 hacc2)) ?_ D8 ha8 hacc2 (by omega) ?_
      · intro z H' Qk z0 D' e' q
        have ⟨w0, w1⟩ := mod_lt z ((rs.map V.int).length : Int) (by rw [List.length_map]; omega)
        rw [List.length_map] at w1
        obtain ⟨x, hx, hxm, _⟩ := atI_ints rs (r := z % ((rs.map V.int).length : Int)) w0 (by rw [List.length_map]; rw [List.length_map] at w0; omega)
        exact ⟨_, rfl, _, rfl, _, rfl, acc, _, rfl, .inl (SqL.of e'), _, _, rfl, rfl, (by show (0 : Int) < _; rw [List.length_map]; omega), acc, _, _, _, rfl, rfl, SqL.of e', hx, q _ _ (hb8 x hxm) D' (Sv.refl _)⟩
      · intro σ'' rs2 H9 hl9 hb9 D9 ha9 S9
        exact ⟨acc2, _, rfl, .inl ⟨SqL.of ha9, fin acc2 rs2 H9 (by omega) hb9 D9 ha9 (SB.trans (S7.trans (S8.trans S9)))⟩⟩
    refine ⟨_, rfl, rfl, _, rfl, ite2 (fun e => ?_) (fun e => ?_)⟩
    · -- way 1
      refine ⟨_, rfl, d, c, _, rfl, D6, by decide, by decide, fun t H7 t0 t1 D7 S7 => ⟨_, _, rfl, rfl, _, rfl, by omega, by omega, fun acc hacc => ?_⟩⟩
      refine comp_draws (Bd := fun x => -500000000000 ≤ x ∧ x < 500000000000) (fun v => [v, some (.ref d), some (.int kd)]) (fun _ => True) (fun _ _ => rfl) (fun _ _ _ _ => trivial)
        (fun z H' Qk _ D' _ q => ⟨_, rfl, _, rfl, d, c, _, rfl, D', fun r H'' hb D'' S'' => ⟨_, _, rfl, rfl, ⟨by decide, by decide⟩, q _ _ (by unfold Bnd at hb; omega) D'' S''⟩⟩) D7 trivial hacc (by omega) ?_
      intro σ' rs H8 hl8 hb8 D8 ha8 S8
      have hrs : 0 < rs.length := by omega
      obtain ⟨na1, na2⟩ := D7.nd hacc
      -- ahead = [0] + [..]
      refine ⟨by show 1 ≤ sizeLine; decide, fun l0 hl0 => ⟨_, rfl, _, rfl, by omega, by omega, fun acc2 hacc2 => ?_⟩⟩
      have D8' : Deck (upd H8 l0 (.lst [.int 0])) d c := D8.lay hl0
      have n0 : acc ≠ l0 := ne_of_none ha8 hl0
      refine comp_draws (d := d) (c := c) (Bd := fun x => -500000000000 ≤ x ∧ x < 500000000000) (fun v => [v, some (.ref d), some (.ref acc)]) (fun H' => H' acc = some (.lst (rs.map V.int)))
        (fun _ _ => rfl) (fun H' H'' st e => st acc _ e na1 na2 (ne_of_none ((upd_ne n0).trans ha8) hacc2)) ?_ D8' ((upd_ne n0).trans ha8) hacc2 (by omega) ?_
      · intro z H' Qk z0 D' e' q
        refine ⟨_, rfl, _, rfl, _, rfl, acc, _, rfl, .inl (SqL.of e'), d, c, _, rfl, D', by rw [List.length_map]; omega, by rw [List.length_map]; omega, fun r H'' r0 r1 D'' S'' => ?_⟩
        rw [List.length_map] at r1
        obtain ⟨x, hx, hxm, _⟩ := atI_ints rs r0 r1
        exact ⟨acc, _, _, _, rfl, rfl, SqL.of (S'' _ _ e' na1 na2), hx, q _ _ (hb8 x hxm) D'' S''⟩
      · intro σ'' rs2 H9 hl9 hb9 D9 ha9 S9
        obtain ⟨nl1, nl2⟩ := D8.nd hl0
        have hl9' : H9 l0 = some (.lst [.int 0]) := S9 _ _ upd_same nl1 nl2
        refine ⟨l0, acc2, _, _, rfl, rfl, hl9', ha9, size_le (by simp only [List.length_map, List.length_cons, List.length_nil]; omega), fun l1 hl1 => ?_⟩
        -- return tuple([..])
        refine ⟨_, rfl, _, rfl, 1, rfl, l1, _, rfl, SqL.of upd_same, fun l2 hl2 => ⟨l1, l2, _, _, rfl, SqL.of ((upd_ne (ne_of_none upd_same hl2)).trans upd_same), SqL.of upd_same, fun acc3 hacc3 => ?_⟩⟩
        have D10 : Deck (upd H9 l1 (.lst ((0 :: rs2).map V.int))) d c := D9.lay hl1
        obtain ⟨nk1, nk2⟩ := D9.nd hl1
        obtain ⟨nk3, nk4⟩ := D10.nd hl2
        refine comp_diffs (xs := rs2) (D10.lay hl2) hacc3 ((upd_ne (ne_of_none upd_same hl2)).trans upd_same) (by rw [upd_same]; exact congrArg (fun z => some (HO.lst z)) (cut1 (V.int 0) (rs2.map V.int))) ⟨nk1, nk2⟩ ⟨nk3, nk4⟩ hb9 (by omega) ?_
        intro σ3 rs3 H11 hl11 hb11 D11 ha11 S11
        refine ⟨acc3, _, rfl, .inl ⟨SqL.of ha11, fin acc3 rs3 H11 (by omega) hb11 D11 ha11 ?_⟩⟩
        exact SB.trans (S7.trans (S8.trans ((Sv.lay hl0).trans (S9.trans ((Sv.lay hl1).trans ((Sv.lay hl2).trans S11))))))
    · -- else
      refine ⟨_, rfl, _, rfl, by omega, by omega, fun acc hacc => ?_⟩
      refine comp_draws (Bd := Bnd) (fun v => [v, some (.ref d), some (.int kd)]) (fun _ => True) (fun _ _ => rfl) (fun _ _ _ _ => trivial) (fun z H' Qk _ D' _ q => ⟨_, rfl, _, rfl, d, c, _, rfl, D', q⟩) D6 trivial hacc (by omega) ?_
      intro σ' rs H8 hl8 hb8 D8 ha8 S8
      exact ⟨acc, _, rfl, .inl ⟨SqL.of ha8, fin acc rs H8 (by omega) hb8 D8 ha8 (SB.trans S8)⟩⟩
end
end My

namespace My
open PySem L2
theorem Sv.same {d c : Addr} {H H' : Hp} (h : Same H H') : Sv d c H H' := fun b o e _ _ => h b o e
theorem Deck.same {d c : Addr} {H H' : Hp} (D : Deck H d c) (h : Same H H') : Deck H' d c := by
  obtain ⟨⟨a, sd, h1⟩, ns, h2, hn⟩ := D
  exact ⟨⟨a, sd, h _ _ h1⟩, ns, h _ _ h2, hn⟩
theorem Deck.ntup {d c p : Addr} {H : Hp} {xs : List V} (D : Deck H d c) (h : H p = some (.tup xs)) : p ≠ d ∧ p ≠ c := by
  obtain ⟨⟨a, sd, h1⟩, ns, h2, hn⟩ := D
  exact ⟨ne_of h h1 (by intro e; cases e), ne_of h h2 (by intro e; cases e)⟩
section
variable {P : Program} {w : World} {K : PySem.W.Frag} {mg : Str → Option Value} {base : Heap}
def spDeck (K : PySem.W.Frag) : Sp := fun vs H Q _ => ∃ (a : Addr) (ns : List Int), vs = [.ref a] ∧ SqL K H a (ns.map V.int) ∧ ns.length ≤ 63 ∧ ∀ (d c : Addr) (H' : Hp), H d = none → H c = none → Deck H' d c → Same H H' → Q (.ref d) H'
abbrev s_law_deck : Stmt := top 12
theorem sc_law_deck : FnScope ["script", "cells", "seed", "k", "mixed"] ["script"] (defScope s_law_deck) := ⟨rfl, rfl, rfl, by decide +kernel, rfl, by decide +kernel, by decide +kernel⟩
theorem ok_deck {f : Addr} {fd : FuncData} (F : Fun K "_law_deck" "_law_deck" s_law_deck f fd) (T : Txt mg) : FnOk P w K mg base CX0 1 f fd ["script"] (spDeck K) := by
  refine F.ok sc_law_deck (fun vs H Q E h => ?_) (fun cdv A outer s H vs Q E hr h => ?_)
  · obtain ⟨a, ns, rfl, _⟩ := h
    rfl
  · obtain ⟨a, ns, rfl, hS, hl, k⟩ := h
    refine ⟨_, (pss_cons (ps_set (i := 1) sc_law_deck.nd rfl (Or.inl rfl) (pe_op op_cat (pe_slice (slL (K := K) rfl) (pv 0) po_none (po_some pe_int)) (pe_lst (pa_cons (pe_callB (cLen (K := K) rfl) (by rfl) T.b_len PyProof.Rows.Boot.«len» (pa_cons (pv 0) pa_nil)) pa_nil))))
      (pss_cons (ps_set (i := 2) sc_law_deck.nd rfl (Or.inl rfl) (pe_op op_mod (pe_op op_add (pe_op op_add (pe_op op_mul (pe_callB (cSum (K := K) rfl rfl false) (by rfl) T.b_sum PyProof.Rows.Boot.«sum» (pa_cons (pe_slice (slL (K := K) rfl) (pv 0) po_none (po_some pe_int)) pa_nil)) pe_int) (pe_op op_mul pe_int (pe_callB (cLen (K := K) rfl) (by rfl) T.b_len PyProof.Rows.Boot.«len» (pa_cons (pv 0) pa_nil)))) pe_int) pe_int))
      (pss_cons (ps_if (pt_cmpR op_eq (pe_op op_mod (pe_callB (cSum (K := K) rfl rfl false) (by rfl) T.b_sum PyProof.Rows.Boot.«sum» (pa_cons (pe_slice (slL (K := K) rfl) (pv 0) po_none (po_some pe_int)) pa_nil)) pe_int) pe_int (nomark _))
        (pss_one (ps_for PassesOwn.never rfl (pi_range1 (by rfl) T.b_range (pa_cons (pe_callB (cLen (K := K) rfl) (by rfl) T.b_len PyProof.Rows.Boot.«len» (pa_cons (pv 1) pa_nil)) pa_nil)) (pg_name (i := 3) sc_law_deck.nd rfl (Or.inl rfl))
          (pss_cons (ps_set (i := 4) sc_law_deck.nd rfl (Or.inl rfl) (pe_op op_mod (pe_op op_mul (pe_op op_add (pe_op op_add (pe_op op_mod (pe_ix (ixL (K := K) rfl) (pv 1) (pv 3) (fun _ _ => rfl)) pe_int) (pe_op op_mul pe_int (pv 3))) pe_int) pe_int) pe_int))
          (pss_cons (ps_set (i := 4) sc_law_deck.nd rfl (Or.inl rfl) (pe_op op_mod (pe_op op_mul (pe_op op_mod (pe_op op_add (pe_op op_mul (pv 4) (pv 4)) (pe_op op_mul pe_int (pv 3))) pe_int) pe_int) pe_int))
          (pss_one (ps_asg (pe_op op_add (pe_op op_mul (pe_op op_mul (pv 4) (pv 4)) pe_int) (pe_op op_mod (pe_op op_mul (pv 4) pe_int) pe_int)) (pg_sub (pv 1) (pv 3) set_list)))))))
        pss_nil)
      (pss_one (ps_ret (pe_lst (pa_cons (pv 1) (pa_cons pe_int (pa_cons (pv 2) pa_nil))))))))), ?_⟩
    -- cells
    refine ⟨_, rfl, _, rfl, a, _, rfl, hS, fun p1 hp1 => ⟨_, rfl, a, _, rfl, .inl ((Same.lay hp1).seq hS), by show 1 ≤ sizeLine; decide, fun p2 hp2 => ?_⟩⟩
    have cl := cutV_length (ns.map V.int) none (some 63)
    rw [List.length_map] at cl
    refine ⟨p1, p2, _, _, rfl, rfl, (upd_ne (ne_of_none upd_same hp2)).trans upd_same, upd_same, size_le (by simp only [List.length_cons, List.length_nil]; omega), fun p3 hp3 => ?_⟩
    have S3 : Same H (upd (upd (upd H p1 (.lst (cutV (ns.map V.int) none (some 63)))) p2 (.lst [.int ((ns.map V.int).length : Int)])) p3 (.lst (cutV (ns.map V.int) none (some 63) ++ [.int ((ns.map V.int).length : Int)]))) := (Same.lay hp1).trans ((Same.lay hp2).trans (Same.lay hp3))
    obtain ⟨cs, hcs⟩ : ∃ cs : List Int, cutV (ns.map V.int) none (some 63) ++ [.int ((ns.map V.int).length : Int)] = cs.map V.int := ⟨cutL ns none (some 63) ++ [((ns.map V.int).length : Int)], by rw [cutV_map, List.map_append]; rfl⟩
    have hcl : 0 < cs.length ∧ cs.length ≤ 64 := by
      have e := congrArg List.length hcs
      rw [List.length_append, cutV_map] at e
      simp only [List.length_map] at e
      have e2 := cutL_len ns none (some 63)
      simp only [List.length_cons, List.length_nil] at e
      omega
    rw [hcs] at S3 ⊢
    generalize hH3 : upd (upd (upd H p1 (.lst (cutV (ns.map V.int) none (some 63)))) p2 (.lst [.int ((ns.map V.int).length : Int)])) p3 (.lst (cs.map V.int)) = H3 at S3 ⊢
    have h3 : H3 p3 = some (.lst (cs.map V.int)) := by rw [← hH3, upd_same]
    have hn3 : H p3 = none := ((Same.lay hp1).trans (Same.lay hp2)).free hp3
    -- seed
    refine ⟨_, rfl, _, rfl, a, _, rfl, S3.seq hS, fun p4 hp4 => ⟨p4, cutL ns none (some 63), rfl, by rw [← cutV_map]; exact SqL.of upd_same, _, _, rfl, rfl, .inr ⟨by decide, by decide⟩, _, rfl, a, _, rfl, .inl ((S3.trans (Same.lay hp4)).seq hS), _, _, rfl, rfl, .inl ⟨by decide, by decide⟩, _, _, rfl, rfl, _, _, rfl, rfl, _, _, rfl, rfl, (by show (0 : Int) < _; decide), ?_⟩⟩
    have S4 : Same H (upd H3 p4 (.lst (cutV (ns.map V.int) none (some 63)))) := S3.trans (Same.lay hp4)
    -- if sum(..) % 2 == 1
    refine ⟨_, rfl, _, rfl, a, _, rfl, S4.seq hS, fun p5 hp5 => ⟨p5, cutL ns none (some 63), rfl, by rw [← cutV_map]; exact SqL.of upd_same, _, _, rfl, rfl, (by show (0 : Int) < _; decide), rfl, _, rfl, ?_⟩⟩
    have S5 : Same H3 (upd (upd H3 p4 (.lst (cutV (ns.map V.int) none (some 63)))) p5 (.lst (cutV (ns.map V.int) none (some 63)))) := (Same.lay hp4).trans (Same.lay hp5)
    generalize upd (upd H3 p4 (.lst (cutV (ns.map V.int) none (some 63)))) p5 (.lst (cutV (ns.map V.int) none (some 63))) = H5 at S5 ⊢
    have h5 := S5 _ _ h3
    have fin : ∀ (H' : Hp) (cs' : List Int), 0 < cs'.length → H' p3 = some (.lst (cs'.map V.int)) → Same H H' → ∀ d, H' d = none → Q (.ref d) (upd H' d (.lst [.ref p3, .int 0, .int (((cutL ns none (some 63)).sum * 48271 + 7 * ((ns.map V.int).length : Int) + 5) % 2147483647)])) := fun H' cs' hc' hp' S' d hd =>
      k d p3 _ (S'.free hd) hn3 ⟨⟨_, _, upd_same⟩, cs', (upd_ne (ne_of_none hp' hd)).trans hp', hc'⟩ (S'.trans (Same.lay hd))
    refine ite2 (fun e => ?_) (fun e => ?_)
    · refine ⟨_, rfl, p3, _, rfl, .inl (SqL.of h5), _, rfl, by rw [List.length_map]; omega, by rw [List.length_map]; omega, ?_⟩
      refine for_range (n := (((cs.map V.int).length : Nat) : Int).toNat) (fun i σ H' => ∃ (v4 v5 : Option V) (cs' : List Int), σ = [some (.ref a), some (.ref p3), some (.int (((cutL ns none (some 63)).sum * 48271 + 7 * ((ns.map V.int).length : Int) + 5) % 2147483647)), v4, v5] ∧ H' p3 = some (.lst (cs'.map V.int)) ∧ cs'.length = cs.length ∧ Same H H') ⟨none, none, cs, rfl, h5, rfl, S3.trans S5⟩ ?_ ?_
      · rintro i σ H' hi ⟨v4, v5, cs', rfl, hp', hc', S'⟩
        rw [Int.toNat_natCast, List.length_map] at hi
        have hi' : (i : Int) < 64 := by omega
        obtain ⟨x, hx, _, _⟩ := atI_ints cs' (r := 0 + (i : Int)) (by omega) (by omega)
        refine ⟨_, rfl, _, rfl, p3, _, _, _, rfl, rfl, SqL.of hp', hx, _, _, rfl, rfl, (by show (0 : Int) < _; decide), _, rfl, _, _, rfl, rfl, .inl ⟨by decide, by decide⟩, _, _, rfl, rfl, _, _, rfl, rfl, _, _, rfl, rfl, .inr ⟨by decide, by decide⟩, _, _, rfl, rfl, (by show (0 : Int) < _; decide), ?_⟩
        refine ⟨_, rfl, _, rfl, _, _, rfl, rfl, mulL _ _ (by decide) (by decide), _, rfl, _, _, rfl, rfl, .inl ⟨by decide, by decide⟩, _, _, rfl, rfl, _, _, rfl, rfl, (by show (0 : Int) < _; decide), _, _, rfl, rfl, mulL _ _ (by decide) (by decide), _, _, rfl, rfl, (by show (0 : Int) < _; decide), ?_⟩
        have hix : ixN (cs'.map V.int).length (0 + (i : Int)) = some i := by
          unfold ixN; rw [if_pos (by omega), if_pos (by rw [List.length_map]; omega)]; congr 1; omega
        refine ⟨_, rfl, _, rfl, _, _, rfl, rfl, mulL _ _ (by decide) (by decide), _, _, rfl, rfl, .inr ⟨by decide, by decide⟩, _, rfl, _, _, rfl, rfl, mulL _ _ (by decide) (by decide), _, _, rfl, rfl, (by show (0 : Int) < _; decide), _, _, rfl, rfl, _, rfl, _, rfl, p3, _, _, i, rfl, rfl, hp', hix, ?_⟩
        exact ⟨_, _, cs'.set i _, rfl, by rw [upd_same, List.map_set], by rw [List.length_set]; exact hc', fun b o e' => by rw [upd_ne (ne_of_none e' hn3)]; exact S' b o e'⟩
      · rintro σ H' ⟨v4, v5, cs', rfl, hp', hc', S'⟩
        exact ⟨_, rfl, _, rfl, by show 3 ≤ sizeLine; decide, fin H' cs' (by omega) hp' S'⟩
    · exact ⟨_, rfl, _, rfl, by show 3 ≤ sizeLine; decide, fin H5 cs hcl.1 h5 (S3.trans S5)⟩
end
end My

namespace My
open PySem L2
/-- two values that look alike, to a depth -/
def Alike (H : Hp) : Nat → V → V → Prop
  | 0, x, y => x = y ∧ ((∃ i, x = .int i) ∨ x = .non ∨ ∃ s, x = .str s)
  | n + 1, x, y => (x = y ∧ ((∃ i, x = .int i) ∨ x = .non ∨ ∃ s, x = .str s)) ∨ ∃ (b : Bool) (a1 a2 : Addr) (xs ys : List V), x = .ref a1 ∧ y = .ref a2 ∧ H a1 = some (if b then .tup xs else .lst xs) ∧ H a2 = some (if b then .tup ys else .lst ys) ∧ xs.length = ys.length ∧
      ∀ (i : Nat) (x' y' : V), xs[i]? = some x' → ys[i]? = some y' → Alike H n x' y'
theorem Alike.mono {H H' : Hp} (s : Same H H') : ∀ {n : Nat} {x y : V}, Alike H n x y → Alike H' n x y
  | 0, _, _, h => h
  | n + 1, _, _, h => by
    rcases h with h | ⟨b, a1, a2, xs, ys, e1, e2, h1, h2, hl, hi⟩
    · exact .inl h
    · exact .inr ⟨b, a1, a2, xs, ys, e1, e2, s _ _ h1, s _ _ h2, hl, fun i x' y' g1 g2 => (hi i x' y' g1 g2).mono s⟩
def spSame (n : Nat) : Sp := fun vs H Q _ => ∃ x y, vs = [x, y] ∧ Alike H n x y ∧ ∀ H', Same H H' → Q (.bl true) H'
theorem iteB {A B : Prop} (h : B) : if (!true) = true then A else B := h
theorem sqB_of {K : PySem.W.Frag} {H : Hp} {b : Bool} {a : Addr} {xs : List V} (h : H a = some (if b then .tup xs else .lst xs)) : SqB K b H a xs := by
  cases b with
  | true => exact SqT.of h
  | false => exact SqL.of h
theorem tyB_of {K : PySem.W.Frag} {H : Hp} {b : Bool} {a : Addr} {xs : List V} (h : H a = some (if b then .tup xs else .lst xs)) : TyOf K H (.ref a) (.type (if b then "tuple" else "list")) := by
  cases b with
  | true => exact .tup h
  | false => exact .lst h
section
variable {P : Program} {w : World} {K : PySem.W.Frag} {mg : Str → Option Value} {base : Heap}
abbrev s_law_same : Stmt := top 18
theorem sc_law_same : FnScope ["found", "due"] ["found", "due"] (defScope s_law_same) := ⟨rfl, rfl, rfl, by decide +kernel, rfl, by decide +kernel, by decide +kernel⟩
theorem same_body {f : Addr} {fd : FuncData} (n : Nat) (sp' : Sp) (hsp : ∀ m x y H (Q : VK) E, n = m + 1 → Alike H m x y → (∀ H', Same H H' → Q (.bl true) H') → sp' [x, y] H Q E) (T : Txt mg)
    (D__law_same : DefAt K mg "_law_same" s_law_same ["found", "due"] f fd) (G__law_same : FnOk P w K mg base CX0 n f fd ["found", "due"] sp') : FnOk P w K mg base CX0 (n + 1) f fd ["found", "due"] (spSame n) := by
  refine D__law_same.fn.ok sc_law_same (fun vs H Q E h => ?_) (fun cdv A outer s H vs Q E hr h => ?_)
  · obtain ⟨x, y, rfl, _⟩ := h
    rfl
  · obtain ⟨x, y, rfl, hA, k⟩ := h
    have hu := hr.units0
    refine ⟨_, (pss_cons (ps_if (pt_val (pe_callB (cIsi (K := K) rfl) (by rfl) T.b_isinstance PyProof.Rows.Boot.«isinstance» (pa_cons (pv 1) (pa_cons (pe_tup (pa_cons (pe_ty (by rfl) T.b_tuple PyProof.Rows.Boot.«tuple») (pa_cons (pe_ty (by rfl) T.b_list PyProof.Rows.Boot.«list») pa_nil))) pa_nil))))
        (pss_cons (ps_if (PW.pt (pw_or (pt_cmpR op_ne (pe_callB (cIsi (K := K) rfl) (by rfl) T.b_isinstance PyProof.Rows.Boot.«isinstance» (pa_cons (pv 0) (pa_cons (pe_ty (by rfl) T.b_tuple PyProof.Rows.Boot.«tuple») pa_nil))) (pe_callB (cIsi (K := K) rfl) (by rfl) T.b_isinstance PyProof.Rows.Boot.«isinstance» (pa_cons (pv 1) (pa_cons (pe_ty (by rfl) T.b_tuple PyProof.Rows.Boot.«tuple») pa_nil))) (nomark _)) (pw_or1 (pt_cmpR op_ne (pe_callB (cIsi (K := K) rfl) (by rfl) T.b_isinstance PyProof.Rows.Boot.«isinstance» (pa_cons (pv 0) (pa_cons (pe_ty (by rfl) T.b_list PyProof.Rows.Boot.«list») pa_nil))) (pe_callB (cIsi (K := K) rfl) (by rfl) T.b_isinstance PyProof.Rows.Boot.«isinstance» (pa_cons (pv 1) (pa_cons (pe_ty (by rfl) T.b_list PyProof.Rows.Boot.«list») pa_nil))) (nomark _)))))
          (pss_one (ps_ret pe_bl))
          pss_nil)
        (pss_cons (ps_if (pt_cmpR op_ne (pe_callB (cLen (K := K) rfl) (by rfl) T.b_len PyProof.Rows.Boot.«len» (pa_cons (pv 0) pa_nil)) (pe_callB (cLen (K := K) rfl) (by rfl) T.b_len PyProof.Rows.Boot.«len» (pa_cons (pv 1) pa_nil)) (nomark _))
          (pss_one (ps_ret pe_bl))
          pss_nil)
        (pss_one (ps_ret (pe_cmpR (oEq (K := K) rfl false hu) (pe_comp (N := ["one", "other"]) (cap := [none, none]) rfl (show blkOk ["found", "due"] (defScope s_law_same) ["one", "other"] [none, none] _ = true by decide +kernel) (PI.or (piZ (K := K) rfl true true (by rfl) T.b_zip (pa_cons (pv 0) (pa_cons (pv 1) pa_nil))) (piZ (K := K) rfl false false (by rfl) T.b_zip (pa_cons (pv 0) (pa_cons (pv 1) pa_nil)))) (fun cl C s3 H3 fp => ⟨(pgT (K := K) (n := 2) rfl rfl (pgs_cons (pg_name (i := 0) (show (["one", "other"] : List Str).Nodup by decide +kernel) rfl (Or.inl rfl)) (pgs_cons (pg_name (i := 1) (show (["one", "other"] : List Str).Nodup by decide +kernel) rfl (Or.inl rfl)) pgs_nil))), (pts_one (pt_not (pt_val (pe_call G__law_same (hr.mono (by first | decide | exact Nat.le_refl _)) rfl D__law_same.mg D__law_same.fn.kp D__law_same.bd .nil pass0 (pa_cons (pv 0) (pa_cons (pv 1) pa_nil)))))), fun it acc => (paf_emit rfl pe_int)⟩)) (pe_lst pa_nil) (nomark _))))))
        pss_nil)
      (pss_cons (ps_if (PW.pt (pw_or (pt_cmpR op_isN (pv 1) pe_non (nomark _)) (pw_or1 (pt_val (pe_callB (cIsi (K := K) rfl) (by rfl) T.b_isinstance PyProof.Rows.Boot.«isinstance» (pa_cons (pv 1) (pa_cons (pe_ty (by rfl) T.b_str PyProof.Rows.Boot.«str») pa_nil)))))))
        (pss_one (ps_ret (pe_and (pe_cmpR op_eq (pv 0) (pv 1) (nomark _)) (pe_one (pe_cmpR op_eq (pe_callB (cIsi (K := K) rfl) (by rfl) T.b_isinstance PyProof.Rows.Boot.«isinstance» (pa_cons (pv 0) (pa_cons (pe_ty (by rfl) T.b_str PyProof.Rows.Boot.«str») pa_nil))) (pe_callB (cIsi (K := K) rfl) (by rfl) T.b_isinstance PyProof.Rows.Boot.«isinstance» (pa_cons (pv 1) (pa_cons (pe_ty (by rfl) T.b_str PyProof.Rows.Boot.«str») pa_nil))) (nomark _))))))
        pss_nil)
      (pss_one (ps_ret (pe_and (pe_callB (cIsi (K := K) rfl) (by rfl) T.b_isinstance PyProof.Rows.Boot.«isinstance» (pa_cons (pv 0) (pa_cons (pe_ty (by rfl) T.b_int PyProof.Rows.Boot.«int») pa_nil))) (pe_and (pe_not (pe_callB (cIsi (K := K) rfl) (by rfl) T.b_isinstance PyProof.Rows.Boot.«isinstance» (pa_cons (pv 0) (pa_cons (pe_ty (by rfl) T.b_bool PyProof.Rows.Boot.«bool») pa_nil)))) (pe_one (pe_cmpR op_eq (pv 0) (pv 1) (nomark _))))))))), ?_⟩
    have scal : (x = y ∧ ((∃ i, x = .int i) ∨ x = .non ∨ ∃ s, x = .str s)) ∨ ∃ m, n = m + 1 ∧ ∃ (b : Bool) (a1 a2 : Addr) (xs ys : List V), x = .ref a1 ∧ y = .ref a2 ∧ H a1 = some (if b then .tup xs else .lst xs) ∧ H a2 = some (if b then .tup ys else .lst ys) ∧ xs.length = ys.length ∧
      ∀ (i : Nat) (x' y' : V), xs[i]? = some x' → ys[i]? = some y' → Alike H m x' y' := by
      cases n with
      | zero => exact .inl hA
      | succ m =>
        rcases hA with h | h
        · exact .inl h
        · exact .inr ⟨m, rfl, h⟩
    rcases scal with ⟨rfl, hsc⟩ | ⟨m, hm, b, a1, a2, xs, ys, rfl, rfl, h1, h2, hl, hi⟩
    · rcases hsc with ⟨i, rfl⟩ | rfl | ⟨z, rfl⟩
      · refine ⟨_, rfl, by show 2 ≤ sizeLine; decide, fun p hp => ⟨_, _, _, false, rfl, .int i, .inr ⟨p, ["tuple", "list"], rfl, upd_same, rfl⟩, _, rfl, ?_⟩⟩
        refine ⟨_, rfl, rfl, _, rfl, _, rfl, _, _, _, false, rfl, .int i, .inl ⟨"str", rfl, rfl⟩, _, rfl, ?_⟩
        refine ⟨_, rfl, _, _, _, true, rfl, .int i, .inl ⟨"int", rfl, rfl⟩, _, rfl, _, rfl, _, _, _, false, rfl, .int i, .inl ⟨"bool", rfl, rfl⟩, _, rfl, _, rfl, ?_⟩
        refine ⟨_, rfl, _, rfl, rfl, ?_⟩
        rw [decide_eq_true rfl]
        exact k _ (Same.lay hp)
      · refine ⟨_, rfl, by show 2 ≤ sizeLine; decide, fun p hp => ⟨_, _, _, false, rfl, .non, .inr ⟨p, ["tuple", "list"], rfl, upd_same, rfl⟩, _, rfl, ?_⟩⟩
        refine ⟨_, rfl, rfl, _, rfl, ?_⟩
        refine ⟨_, rfl, _, rfl, rfl, _, rfl, _, rfl, _, _, _, false, rfl, .non, .inl ⟨"str", rfl, rfl⟩, _, rfl, _, _, _, false, rfl, .non, .inl ⟨"str", rfl, rfl⟩, rfl, ?_⟩
        exact k _ (Same.lay hp)
      · refine ⟨_, rfl, by show 2 ≤ sizeLine; decide, fun p hp => ⟨_, _, _, false, rfl, .str z, .inr ⟨p, ["tuple", "list"], rfl, upd_same, rfl⟩, _, rfl, ?_⟩⟩
        refine ⟨_, rfl, rfl, _, rfl, _, rfl, _, _, _, true, rfl, .str z, .inl ⟨"str", rfl, rfl⟩, _, rfl, ?_⟩
        refine ⟨_, rfl, _, rfl, rfl, _, rfl, ?_⟩
        rw [decide_eq_true rfl]
        refine iteT ⟨_, rfl, _, _, _, true, rfl, .str z, .inl ⟨"str", rfl, rfl⟩, _, rfl, _, _, _, true, rfl, .str z, .inl ⟨"str", rfl, rfl⟩, rfl, ?_⟩
        exact k _ (Same.lay hp)
    · refine ⟨_, rfl, by show 2 ≤ sizeLine; decide, fun p hp => ?_⟩
      have g1 : upd H p (.tup [.ty "tuple", .ty "list"]) a1 = some (if b then .tup xs else .lst xs) := (upd_ne (ne_of_none h1 hp)).trans h1
      have g2 : upd H p (.tup [.ty "tuple", .ty "list"]) a2 = some (if b then .tup ys else .lst ys) := (upd_ne (ne_of_none h2 hp)).trans h2
      have S1 : Same H (upd H p (.tup [.ty "tuple", .ty "list"])) := Same.lay hp
      refine ⟨_, _, _, true, rfl, tyB_of g2, .inr ⟨p, ["tuple", "list"], rfl, upd_same, by cases b <;> rfl⟩, _, rfl, ?_⟩
      refine ⟨_, rfl, _, _, _, b, rfl, tyB_of g1, .inl ⟨"tuple", rfl, by cases b <;> rfl⟩, _, rfl, _, _, _, b, rfl, tyB_of g2, .inl ⟨"tuple", rfl, by cases b <;> rfl⟩, rfl, _, rfl, iteNS rfl ?_⟩
      refine ⟨_, rfl, _, _, _, !b, rfl, tyB_of g1, .inl ⟨"list", rfl, by cases b <;> rfl⟩, _, rfl, _, _, _, !b, rfl, tyB_of g2, .inl ⟨"list", rfl, by cases b <;> rfl⟩, rfl, _, rfl, iteNS rfl ?_⟩
      have sq : ∀ {a : Addr} {zs : List V}, upd H p (.tup [.ty "tuple", .ty "list"]) a = some (if b then .tup zs else .lst zs) → SqL K (upd H p (.tup [.ty "tuple", .ty "list"])) a zs ∨ SqT K (upd H p (.tup [.ty "tuple", .ty "list"])) a zs := fun {a zs} h => by
        cases b with
        | true => exact .inr (SqT.of h)
        | false => exact .inl (SqL.of h)
      refine ⟨_, rfl, a1, _, rfl, sq g1, _, rfl, a2, _, rfl, sq g2, rfl, _, rfl, iteNS (by rw [hl]) ?_⟩
      -- the items
      have walk : ∀ acc, upd H p (.tup [.ty "tuple", .ty "list"]) acc = none → ∀ N : St → Hp → Prop, (∀ σ H', Same H H' → H' acc = some (.lst []) → N σ H') →
          bWalk (Itz K b b a1 a2) (gTup K 2 (gCons (gName 0) (gCons (gName 1) gNil))) (tNot (tB (tCall sp' [] E0 (tCons (tVar 0) (tCons (tVar 1) tNil))))) (bEmit acc (tC (.int 1))) N [none, none] (upd (upd H p (.tup [.ty "tuple", .ty "list"])) acc (.lst [])) := by
        intro acc hacc N hN
        refine walk_zip (xs := xs) (ys := ys) (fun i σ H' => ∃ (v1 v2 : Option V), σ = [v1, v2] ∧ Same H H' ∧ H' acc = some (.lst [])) ?_ ?_ ?_ ?_
        · exact ⟨none, none, rfl, S1.trans (Same.lay hacc), upd_same⟩
        · rintro i σ H' _ ⟨v1, v2, rfl, S', _⟩
          exact ⟨sqB_of (S' _ _ h1), sqB_of (S' _ _ h2)⟩
        · rintro i x' y' q σ H' hx hy hq ⟨v1, v2, rfl, S', ha⟩
          refine ⟨q, _, rfl, SqT.of upd_same, rfl, _, _, rfl, _, _, rfl, rfl, _, rfl, _, rfl, ?_⟩
          refine hsp m x' y' _ _ _ hm ((hi i x' y' hx hy).mono (S'.trans (Same.lay hq))) fun H2 S2 => ⟨true, rfl, iteB ?_⟩
          exact ⟨_, _, rfl, S'.trans ((Same.lay hq).trans S2), S2 _ _ ((upd_ne (ne_of_none ha hq)).trans ha)⟩
        · rintro σ H' ⟨v1, v2, rfl, S', ha⟩
          exact hN _ H' S' ha
      have fin : ∀ (acc : Addr) (σ : St) (H' : Hp), Same H H' → H' acc = some (.lst []) → tLst tNil σ H' fun y H2 => rEqS K false false (.ref acc) y H2 Q := by
        intro acc σ H' S' ha
        refine ⟨by show 0 ≤ sizeLine; decide, fun l hl' => ⟨acc, l, [], [], rfl, rfl, SqL.of ((upd_ne (ne_of_none ha hl')).trans ha), SqL.of upd_same, rfl, rfl, k _ (S'.trans (Same.lay hl'))⟩⟩
      cases b with
      | true => exact .inl ⟨_, rfl, _, rfl, a1, a2, xs, ys, rfl, SqT.of g1, SqT.of g2, fun acc hacc => walk acc hacc _ fun σ H' S' ha => fin acc _ H' S' ha⟩
      | false => exact .inr ⟨_, rfl, _, rfl, a1, a2, xs, ys, rfl, SqL.of g1, SqL.of g2, fun acc hacc => walk acc hacc _ fun σ H' S' ha => fin acc _ H' S' ha⟩
theorem ok_same {f : Addr} {fd : FuncData} (T : Txt mg) (D : DefAt K mg "_law_same" s_law_same ["found", "due"] f fd) : ∀ n, FnOk P w K mg base CX0 (n + 1) f fd ["found", "due"] (spSame n)
  | 0 => same_body 0 (fun _ _ _ _ => False) (fun m _ _ _ _ _ e _ _ => by cases e) T D ⟨fun _ _ _ _ h => h.elim, fun _ _ _ _ _ _ _ _ _ _ _ _ _ h => h.elim⟩
  | n + 1 => same_body (n + 1) (spSame n) (fun m x y H Q E e hA q => by cases e; exact ⟨x, y, rfl, hA, q⟩) T D (ok_same T D n)
end
end My

namespace L2
open PySem PySem.Spec PyProof.Rows
/-! ### the program's classes of exceptions -/
structure XSp (K : PySem.W.Frag) (mg : Str → Option Value) (x : Str) (C : Addr) : Prop where
  mg : mg x = some (.ref C)
  sup : XSup K C
structure XRz (K : PySem.W.Frag) (mg : Str → Option Value) (x : Str) (C : Addr) : Prop where
  mg : mg x = some (.ref C)
  ex : PySem.W.excIn K C bmV "ValueError.__new__" = true
  cl : XCls K C
end L2

namespace My
open PySem L2
/-! ### rows as texts -/
def c_FIGURES : Str := "0123456789"
def spIsNum : Sp := fun vs H Q _ => ∃ z : Str, vs = [.str z] ∧ z.length ≤ 100000 ∧ ∀ H', Same H H' → Q (.bl (isNumL z.cps.toList)) H'
theorem fig_in (c : Nat) : (!(Builtin.Str.occurrences c_FIGURES ⟨#[c]⟩ 0 c_FIGURES.length 1).isEmpty) = decide (48 ≤ c ∧ c ≤ 57) := by
  rw [StrLaws.found_one]
  have e : c_FIGURES.cps.toList = [48, 49, 50, 51, 52, 53, 54, 55, 56, 57] := by decide
  rw [e]
  apply decide_eq_decide.mpr
  simp only [List.mem_cons, List.not_mem_nil, or_false]
  omega
def okC (c : Nat) : Bool := decide (48 ≤ c ∧ c ≤ 57)
theorem map_take_succ {α β : Type} (f : α → β) {l : List α} {i : Nat} {x : α} (h : l[i]? = some x) : (l.take (i + 1)).map f = (l.take i).map f ++ [f x] := by
  rw [List.take_add_one, h, List.map_append]; rfl
theorem str_cps_inj {x y : Str} (h : x.cps.toList = y.cps.toList) : x = y := by
  obtain ⟨⟨x⟩⟩ := x
  obtain ⟨⟨y⟩⟩ := y
  have h' : x = y := h
  rw [h']
section
variable {P : Program} {w : World} {K : PySem.W.Frag} {mg : Str → Option Value} {base : Heap}
abbrev s_is_number : Stmt := top 10
theorem sc_is_number : FnScope ["word", "figures"] ["word"] (defScope s_is_number) := ⟨rfl, rfl, rfl, by decide +kernel, rfl, by decide +kernel, by decide +kernel⟩
theorem rmp_len (z : Str) : (Txt.removeprefix z ⟨#[45]⟩).length ≤ z.length := by
  have e : ∀ y : Str, y.length = y.cps.toList.length := fun y => by simp [Str.length]
  rw [e, e, rmp_figs]
  unfold figs
  split
  · rename_i r h; rw [h]; simp
  · exact Nat.le_refl _
theorem minus_eq : ("-" : Str) = ⟨#[45]⟩ := by decide
theorem ok_is_number {f : Addr} {fd : FuncData} {tF : Tok} (F : Fun K "is_number" "is_number" s_is_number f fd) (T : Txt mg) (C_FIGURES : mg "FIGURES" = some (.str c_FIGURES tF)) : FnOk P w K mg base CX0 1 f fd ["word"] spIsNum := by
  refine F.ok sc_is_number (fun vs H Q E h => ?_) (fun cdv A outer s H vs Q E hr h => ?_)
  · obtain ⟨z, rfl, _⟩ := h
    rfl
  · obtain ⟨z, rfl, hl, k⟩ := h
    have hsl := sizeLine_eq
    have hfl := rmp_len z
    have hfg := rmp_figs z
    refine ⟨_, (pss_cons (ps_set (i := 1) sc_is_number.nd rfl (Or.inl rfl) (pe_bm PySem.F.plainAttrs_str PySem.F.slot_str_removeprefix PySem.F.type_str_removeprefix mt_removeprefix (pv 0) (pa_cons pe_str pa_nil)))
      (pss_cons (ps_if (pt_cmpR op_eq (pv 1) pe_str (nomark _))
        (pss_one (ps_ret pe_bl))
        pss_nil)
      (pss_cons (ps_if (pt_not (pt_val (pe_callB (call_all rfl) (by rfl) T.b_all PyProof.Rows.Boot.«all» (pa_cons (pe_comp (N := ["sign"]) (cap := [none]) rfl (show blkOk ["word", "figures"] (defScope s_is_number) ["sign"] [none] _ = true by decide +kernel) (pi_str (pv 1)) (fun cl C s3 H3 fp => ⟨(pg_name (i := 0) (show (["sign"] : List Str).Nodup by decide +kernel) rfl (Or.inl rfl)), pts_nil, fun it acc => (paf_emit rfl (pe_cmpR op_in_str (pv 0) (pe_glob (v := .str c_FIGURES) (by rfl) C_FIGURES ⟨_, rfl⟩) (by with_unfolding_all rfl)))⟩)) pa_nil))))
        (pss_one (ps_ret pe_bl))
        pss_nil)
      (pss_one (ps_ret (pe_or (pe_cmpR op_eq (pv 0) pe_str (nomark _)) (pe_one (pe_cmpR op_ne (pe_ix ix_str (pv 1) pe_int (fun _ _ => rfl)) pe_str (nomark _))))))))), ?_⟩
    refine ⟨_, rfl, rfl, z, ("-" : Str), rfl, rfl, by omega, ?_⟩
    rw [minus_eq]
    generalize Txt.removeprefix z ⟨#[45]⟩ = fg at hfl hfg
    dsimp only [gName]
    have hem : ∀ b : Bool, (decide (V.str fg = V.str ("" : Str))) = b → b = fg.cps.toList.isEmpty := by
      rintro b rfl
      rw [Bool.eq_iff_iff, decide_eq_true_iff, List.isEmpty_iff]
      constructor
      · intro h
        injection h with h
        rw [h]; rfl
      · intro h
        rw [show fg = ("" : Str) from str_cps_inj (by rw [h]; rfl)]
    refine ⟨_, rfl, rfl, _, rfl, ite2 (fun e => ?_) (fun e => ?_)⟩
    · have e' := hem _ rfl
      rw [e] at e'
      have : isNumL z.cps.toList = false := by unfold isNumL; rw [← hfg, ← e']; rfl
      exact this ▸ k H (Same.refl H)
    · have e' := hem _ rfl
      have e0 : fg.cps.toList.isEmpty = false := by rw [← e']; exact Bool.not_eq_true _ |>.mp e
      refine ⟨_, rfl, fg, rfl, fun acc hacc => ?_⟩
      refine walk_str (fun i σ H' => ∃ v : Option V, σ = [v] ∧ H' acc = some (.lst (((fg.cps.toList.take i).map okC).map V.bl)) ∧ Same H H') ⟨none, rfl, upd_same, Same.lay hacc⟩ ?_ ?_
      · rintro i c σ H1 hc ⟨v, rfl, ha, S1⟩
        have hc' : fg.cps.toList[i]? = some c := by simpa using hc
        have hi : i < fg.cps.toList.length := (List.getElem?_eq_some_iff.mp hc').1
        have hfl2 : fg.cps.toList.length = fg.length := by simp [Str.length]
        refine ⟨_, rfl, ⟨#[c]⟩, c_FIGURES, rfl, rfl, _, ha, size_lt (by rw [List.length_map, List.length_map, List.length_take]; omega), ?_⟩
        refine ⟨_, rfl, ?_, fun b o e => by rw [upd_ne (ne_of_none e hacc)]; exact S1 _ _ e⟩
        rw [upd_same, map_take_succ okC hc', List.map_append, fig_in]
        rfl
      · rintro σ H1 ⟨v, rfl, ha, S1⟩
        rw [show fg.cps.size = fg.cps.toList.length by simp, List.take_length] at ha
        have hall : (fg.cps.toList.map okC).all id = fg.cps.toList.all okC := by rw [List.all_map]; rfl
        refine ⟨acc, _, rfl, ha, _, rfl, ?_⟩
        rw [hall]
        refine ite2 (fun e2 => ?_) (fun e2 => ?_)
        · have : isNumL z.cps.toList = false := by
            unfold isNumL
            rw [← hfg, e0]
            have e3 : fg.cps.toList.all (fun c => decide (48 ≤ c ∧ c ≤ 57)) = false := (Bool.not_eq_true' _).mp e2
            rw [e3]; rfl
          exact this ▸ k H1 S1
        · have e3 : fg.cps.toList.all (fun c => decide (48 ≤ c ∧ c ≤ 57)) = true := by
            cases hq : fg.cps.toList.all okC with
            | false => rw [hq] at e2; exact absurd rfl e2
            | true => exact hq
          have hz : decide (V.str z = V.str ("0" : Str)) = (z.cps.toList == [48]) := by
            rw [Bool.eq_iff_iff, decide_eq_true_iff, beq_iff_eq]
            constructor
            · intro h
              injection h with h
              rw [h]; rfl
            · intro h
              rw [show z = ("0" : Str) from str_cps_inj (by rw [h]; rfl)]
          cases hcs : fg.cps.toList with
          | nil => rw [hcs] at e0; cases e0
          | cons c r =>
            have hres : isNumL z.cps.toList = (z.cps.toList == [48] || !decide (c = 48)) := by
              unfold isNumL
              rw [← hfg, e3, e0, hcs, Bool.not_false, Bool.true_and, Bool.true_and]
              rfl
            refine ⟨_, rfl, rfl, _, rfl, ?_⟩
            rw [hz]
            refine ite2 (fun e4 => ?_) (fun e4 => ?_)
            · have : isNumL z.cps.toList = true := by rw [hres, e4]; rfl
              exact this ▸ k H1 S1
            · have e5 : (z.cps.toList == [48]) = false := Bool.not_eq_true _ |>.mp e4
              refine ⟨_, rfl, fg, 0, c, rfl, rfl, by omega, by rw [hcs]; exact atI_nat (j := 0) (by rfl), rfl, ?_⟩
              have hc0 : decide (V.str ⟨#[c]⟩ = V.str ("0" : Str)) = decide (c = 48) := by
                apply decide_eq_decide.mpr
                constructor
                · intro h
                  injection h with h
                  have h2 : (⟨#[c]⟩ : Str).cps.toList = ("0" : Str).cps.toList := by rw [h]
                  have h3 : [c] = [48] := h2
                  injection h3
                · intro h
                  subst h
                  rfl
              rw [hc0]
              have : isNumL z.cps.toList = !decide (c = 48) := by rw [hres, e5]; rfl
              exact this ▸ k H1 S1
end
end My

namespace My
open PySem L2
/-! ### texts: words, numbers, how long words are -/
theorem strlen (z : Str) : z.length = z.cps.toList.length := by simp [Str.length]
def isN (z : Str) : Bool := isNumL z.cps.toList
def numOf (z : Str) : Int := (PySem.intText? z).getD 0
theorem isN_reads {z : Str} (h : isN z = true) (hl : z.length ≤ 4300) : PySem.intText? z = some (numOf z) := by
  have e : ∀ {n : Int}, PySem.intText? z = some n → PySem.intText? z = some (numOf z) := fun q => by unfold numOf; rw [q]; rfl
  unfold isN isNumL at h
  rw [Bool.and_eq_true, Bool.and_eq_true] at h
  obtain ⟨⟨h1, h2⟩, _⟩ := h
  have h2' : PySem.NumText.AllDigits (figs z.cps.toList) := fun c hc => of_decide_eq_true (List.all_eq_true.mp h2 c hc)
  have h1' : figs z.cps.toList ≠ [] := fun q => by rw [q] at h1; simp at h1
  cases hz : z.cps.toList with
  | nil => rw [hz] at h1'; exact absurd rfl h1'
  | cons c r =>
    by_cases hc : c = 45
    · subst hc
      rw [hz] at h1' h2'
      exact e (PySem.intText_neg hz h2' h1' hl)
    · have ef : figs (c :: r) = c :: r := by
        unfold figs
        split
        · rename_i r' q; injection q with q1 _; exact absurd q1 hc
        · rfl
      rw [hz, ef] at h1' h2'
      exact e (PySem.intText_digits (by rw [hz]; exact h2') (by rw [hz]; exact h1') hl)
def wsOf (z : Str) : List Str := if z = Str.empty then [] else Txt.split z blank
def allN (z : Str) : Bool := (wsOf z).all isN
def intsOf (z : Str) : List Int := (wsOf z).map numOf
/-! no blank-free piece of more than m signs -/
def Run (m : Nat) (l : List Nat) : Prop := ∀ a u b, l = a ++ u ++ b → 32 ∉ u → u.length ≤ m
theorem Run.mono {m k : Nat} {l : List Nat} (h : Run m l) (hk : m ≤ k) : Run k l := fun a u b e f => Nat.le_trans (h a u b e f) hk
theorem Run.of_len {m : Nat} {l : List Nat} (h : l.length ≤ m) : Run m l := fun a u b e _ => by
  rw [e, List.length_append, List.length_append] at h
  omega
theorem Run.part {m : Nat} {p l q : List Nat} (h : Run m (p ++ l ++ q)) : Run m l := fun a u b e f => h (p ++ a) u (b ++ q) (by rw [e]; simp) f
theorem Run.take {m : Nat} {l : List Nat} (h : Run m l) (k : Nat) : Run m (l.take k) := Run.part (p := []) (q := l.drop k) (by rw [List.nil_append, List.take_append_drop]; exact h)
theorem Run.drop {m : Nat} {l : List Nat} (h : Run m l) (k : Nat) : Run m (l.drop k) := Run.part (p := l.take k) (q := []) (by rw [List.append_nil, List.take_append_drop]; exact h)
theorem cut_two {a u b p q : List Nat} (e : p ++ q = a ++ u ++ b) : ∃ u1 u2, u = u1 ++ u2 ∧ (∃ a1 b1, p = a1 ++ u1 ++ b1) ∧ ∃ a2 b2, q = a2 ++ u2 ++ b2 := by
  by_cases h1 : p.length ≤ a.length
  · refine ⟨[], u, rfl, ⟨p, [], by simp⟩, a.drop p.length, b, ?_⟩
    have := congrArg (List.drop p.length) e
    rw [List.drop_left, List.append_assoc, List.drop_append_of_le_length h1] at this
    rw [this, List.append_assoc]
  · by_cases h2 : p.length ≤ a.length + u.length
    · refine ⟨u.take (p.length - a.length), u.drop (p.length - a.length), (List.take_append_drop _ _).symm, ⟨a, [], ?_⟩, [], b, ?_⟩
      · have := congrArg (List.take p.length) e
        rw [List.take_left, List.append_assoc, List.take_append, List.take_of_length_le (by omega), List.take_append_of_le_length (by omega)] at this
        rw [List.append_nil]; exact this
      · have := congrArg (List.drop p.length) e
        rw [List.drop_left, List.append_assoc, List.drop_append, List.drop_eq_nil_of_le (by omega), List.nil_append, List.drop_append_of_le_length (by omega)] at this
        rw [List.nil_append]; exact this
    · refine ⟨u, [], (List.append_nil _).symm, ⟨a, b.take (p.length - a.length - u.length), ?_⟩, q, [], by simp⟩
      have := congrArg (List.take p.length) e
      rw [List.take_left, List.take_append, List.take_of_length_le (by rw [List.length_append]; omega), List.length_append, show p.length - (a.length + u.length) = p.length - a.length - u.length by omega] at this
      exact this
theorem Run.append {m k : Nat} {p q : List Nat} (hp : Run m p) (hq : Run k q) : Run (m + k) (p ++ q) := fun a u b e f => by
  obtain ⟨u1, u2, rfl, ⟨a1, b1, e1⟩, a2, b2, e2⟩ := cut_two e
  have h1 := hp a1 u1 b1 e1 fun z => f (List.mem_append.mpr (.inl z))
  have h2 := hq a2 u2 b2 e2 fun z => f (List.mem_append.mpr (.inr z))
  rw [List.length_append]
  omega
theorem Run.sep {m : Nat} {p q : List Nat} (hp : Run m p) (hq : Run m q) : Run m (p ++ 32 :: q) := fun a u b e f => by
  by_cases h1 : a.length + u.length ≤ p.length
  · have := congrArg (List.take p.length) e
    rw [List.take_left, List.take_append, List.take_of_length_le (by rw [List.length_append]; omega)] at this
    exact hp a u _ this f
  · by_cases h2 : a.length ≤ p.length
    · exfalso
      have g : (a ++ u ++ b)[p.length]? = some 32 := by rw [← e, List.getElem?_append_right (Nat.le_refl _), Nat.sub_self]; rfl
      rw [List.append_assoc, List.getElem?_append_right h2, List.getElem?_append_left (by omega)] at g
      exact f (List.mem_of_getElem? g)
    · have := congrArg (List.drop (p.length + 1)) e
      rw [List.drop_append, List.drop_eq_nil_of_le (by omega), List.nil_append, show p.length + 1 - p.length = 1 by omega, List.drop_succ_cons, List.drop_zero, List.append_assoc, List.drop_append_of_le_length (by omega), ← List.append_assoc] at this
      exact hq _ u b this f
theorem runs_join {m : Nat} : ∀ (ws : List (List Nat)), (∀ u ∈ ws, Run m u) → Run m (joinC ws)
  | [], _ => Run.of_len (Nat.zero_le _)
  | [u], h => h u (List.mem_singleton.mpr rfl)
  | u :: y :: r, h => Run.sep (h u (List.mem_cons_self ..)) (runs_join (y :: r) fun v hv => h v (List.mem_cons_of_mem _ hv))
theorem join_part : ∀ {ws : List (List Nat)} {u : List Nat}, u ∈ ws → ∃ a b, joinC ws = a ++ u ++ b
  | [v], u, h => by rw [List.mem_singleton.mp h]; exact ⟨[], [], by simp [joinC]⟩
  | v :: y :: r, u, h => by
    rcases List.mem_cons.mp h with rfl | h
    · exact ⟨[], 32 :: joinC (y :: r), by simp [joinC]⟩
    · obtain ⟨a, b, e⟩ := join_part h
      exact ⟨v ++ 32 :: a, b, by show v ++ 32 :: joinC (y :: r) = _; rw [e]; simp⟩
def RunS (m : Nat) (z : Str) : Prop := Run m z.cps.toList
theorem split_cps (z : Str) : joinC ((Txt.split z blank).map (·.cps.toList)) = z.cps.toList := by
  rw [← join_cps, StrLaws.join_split z blank]
theorem split_run {m : Nat} {z u : Str} (h : RunS m z) (hu : u ∈ Txt.split z blank) : u.length ≤ m := by
  obtain ⟨a, b, e⟩ := join_part (List.mem_map_of_mem (f := fun x : Str => x.cps.toList) hu)
  rw [split_cps] at e
  have hf := StrLaws.split_free z 32 u
  rw [← blank_eq] at hf
  have := h a u.cps.toList b e (hf hu)
  rw [strlen]; exact this
theorem split_ne (z : Str) : Txt.split z blank ≠ [] := fun e => by
  have h := StrLaws.join_split z blank
  rw [e] at h
  have h' : z = Str.empty := h.symm
  subst h'
  exact absurd e (by decide)
theorem split_count (z : Str) : (Txt.split z blank).length ≤ z.length + 1 := by
  have h := join_count blank (by decide) (Txt.split z blank)
  rw [StrLaws.join_split z blank] at h
  exact h
end My

namespace My
open PySem L2
theorem emp_eq : ("" : Str) = Str.empty := by decide
theorem wsOf_ne {z : Str} (h : z ≠ Str.empty) : wsOf z = Txt.split z blank := by unfold wsOf; rw [if_neg h]
theorem wsOf_nil : wsOf Str.empty = [] := by unfold wsOf; rw [if_pos rfl]
def spRead : Sp := fun vs H Q _ => ∃ (z : Str), vs = [.str z] ∧ z.length ≤ 10000 ∧ allN z = true ∧ (∀ u ∈ wsOf z, u.length ≤ 640) ∧ ∀ q H', H' q = some (.tup ((intsOf z).map V.int)) → Same H H' → Q (.ref q) H'
def spReadB (R : Addr) : Sp := fun vs H Q E => ∃ (z : Str), vs = [.str z] ∧ z.length ≤ 10000 ∧ allN z = false ∧ ∀ H', Same H H' → E (.ref R) none H'
theorem strs_at {ws : List Str} {i : Nat} {x : V} (h : (ws.map V.str)[i]? = some x) : ∃ u, ws[i]? = some u ∧ V.str u = x := by
  rw [List.getElem?_map] at h
  exact Option.map_eq_some_iff.mp h
theorem word_len {z u : Str} (h : u ∈ Txt.split z blank) : u.length ≤ z.length := by
  obtain ⟨a, b, e⟩ := join_part (List.mem_map_of_mem (f := fun x : Str => x.cps.toList) h)
  rw [split_cps] at e
  rw [strlen, strlen, e, List.length_append, List.length_append]
  omega
section
variable {P : Program} {w : World} {K : PySem.W.Frag} {mg : Str → Option Value} {base : Heap}
abbrev s_read_row : Stmt := top 9
theorem sc_read_row : FnScope ["text", "words", "word"] ["text"] (defScope s_read_row) := ⟨rfl, rfl, rfl, by decide +kernel, rfl, by decide +kernel, by decide +kernel⟩
theorem ok_read_row {f fn : Addr} {fd fdn : FuncData} (F : Fun K "read_row" "read_row" s_read_row f fd) (T : Txt mg) (D_is_number : DefAt K mg "is_number" s_is_number ["word"] fn fdn) (G_is_number : FnOk P w K mg base CX0 1 fn fdn ["word"] spIsNum) : FnOk P w K mg base CX0 2 f fd ["text"] spRead := by
  refine F.ok sc_read_row (fun vs H Q E h => ?_) (fun cdv A outer s H vs Q E hr h => ?_)
  · obtain ⟨z, rfl, _⟩ := h
    rfl
  · obtain ⟨z, rfl, hl, hall, hw, k⟩ := h
    have hsl := sizeLine_eq
    refine ⟨_, (pss_cons (ps_if (pt_cmpR op_eq (pv 0) pe_str (nomark _))
        (pss_one (ps_ret (pe_tup pa_nil)))
        pss_nil)
      (pss_cons (ps_set (i := 1) sc_read_row.nd rfl (Or.inl rfl) (pe_bm PySem.F.plainAttrs_str PySem.F.slot_str_split PySem.F.type_str_split mt_split (pv 0) (pa_cons pe_str pa_nil)))
      (pss_cons (ps_for PassesOwn.never rfl (piL (K := K) rfl (pv 1)) (pg_name (i := 2) sc_read_row.nd rfl (Or.inl rfl))
        (pss_one (ps_if (pt_not (pt_val (pe_call G_is_number (hr.mono (by first | decide | exact Nat.le_refl _)) rfl D_is_number.mg D_is_number.fn.kp D_is_number.bd .nil pass0 (pa_cons (pv 2) pa_nil))))
          (pss_one ps_no)
          pss_nil)))
      (pss_one (ps_ret (pe_callTy (cTuple (K := K) rfl) (by rfl) T.b_tuple PyProof.Rows.Boot.«tuple» (pa_cons (pe_comp (N := ["word"]) (cap := [none]) rfl (show blkOk ["text", "words", "word"] (defScope s_read_row) ["word"] [none] _ = true by decide +kernel) (piL (K := K) rfl (pv 1)) (fun cl C s3 H3 fp => ⟨(pg_name (i := 0) (show (["word"] : List Str).Nodup by decide +kernel) rfl (Or.inl rfl)), pts_nil, fun it acc => (paf_emit rfl (pe_callTy call_int_text (by rfl) T.b_int PyProof.Rows.Boot.«int» (pa_cons (pv 0) pa_nil)))⟩)) pa_nil))))))), ?_⟩
    refine ⟨_, rfl, rfl, _, rfl, ite2 (fun e => ?_) (fun e => ?_)⟩
    · have e' : V.str z = V.str ("" : Str) := of_decide_eq_true e
      injection e' with e'
      rw [emp_eq] at e'
      subst e'
      refine ⟨by show 0 ≤ sizeLine; omega, fun q hq => k q _ ?_ (Same.lay hq)⟩
      unfold intsOf
      rw [wsOf_nil]
      exact upd_same
    · have hn : z ≠ Str.empty := fun q => e (decide_eq_true (by rw [q, emp_eq]))
      have hws := wsOf_ne hn
      unfold allN at hall
      unfold intsOf at k
      rw [hws] at hall hw k
      have hcount := split_count z
      have hlen : ∀ u ∈ Txt.split z blank, u.length ≤ z.length := fun u hu => word_len hu
      refine ⟨_, rfl, rfl, z, blank, rfl, rfl, by decide, by omega, fun ws hws => ?_⟩
      dsimp only [gName]
      generalize Txt.split z blank = us at hall hw k hcount hlen
      have S1 : Same H (upd H ws (.lst (us.map V.str))) := Same.lay hws
      have e1 : upd H ws (.lst (us.map V.str)) ws = some (.lst (us.map V.str)) := upd_same
      generalize upd H ws (.lst (us.map V.str)) = H1 at S1 e1
      refine ⟨_, rfl, ws, rfl, ⟨_, SqL.of e1⟩, ?_⟩
      refine for_list (xs := us.map V.str) (fun i σ H' => ∃ v : Option V, σ = [some (.str z), some (.ref ws), v] ∧ Same H1 H') ⟨none, rfl, Same.refl _⟩ ?_ ?_ ?_
      · rintro i σ H2 hi ⟨v, rfl, S2⟩
        exact SqL.of (S2 _ _ e1)
      · rintro i x σ H2 hx ⟨v, rfl, S2⟩
        obtain ⟨u, hu, rfl⟩ := strs_at hx
        have hm := List.mem_of_getElem? hu
        have h1 := hlen u hm
        refine ⟨_, rfl, u, rfl, by omega, fun H3 S3 => ?_⟩
        rw [show isNumL u.cps.toList = true from List.all_eq_true.mp hall u hm]
        exact ⟨_, rfl, iteF ⟨_, rfl, S2.trans S3⟩⟩
      · rintro σ H2 ⟨v, rfl, S2⟩
        have e2 := S2 _ _ e1
        refine ⟨_, rfl, ws, rfl, ⟨_, SqL.of e2⟩, fun acc hacc => ?_⟩
        refine walk_list (xs := us.map V.str) (fun i σ H' => ∃ v : Option V, σ = [v] ∧ H' acc = some (.lst (((us.take i).map numOf).map V.int)) ∧ Same H2 H') ⟨none, rfl, upd_same, Same.lay hacc⟩ ?_ ?_ ?_
        · rintro i σ H3 hi ⟨v, rfl, ha, S3⟩
          exact SqL.of (S3 _ _ e2)
        · rintro i x σ H3 hx ⟨v, rfl, ha, S3⟩
          obtain ⟨u, hu, rfl⟩ := strs_at hx
          have hm := List.mem_of_getElem? hu
          have hi : i < us.length := (List.getElem?_eq_some_iff.mp hu).1
          have h2 := hw u hm
          refine ⟨_, rfl, u, numOf u, rfl, isN_reads (List.all_eq_true.mp hall u hm) (by omega), h2, _, ha, size_lt (by rw [List.length_map, List.length_map, List.length_take]; omega), ?_⟩
          refine ⟨_, rfl, ?_, fun b o e => by rw [upd_ne (ne_of_none e hacc)]; exact S3 _ _ e⟩
          rw [upd_same, map_take_succ numOf hu, List.map_append]
          rfl
        · rintro σ H3 ⟨v, rfl, ha, S3⟩
          rw [List.length_map, List.take_length] at ha
          refine ⟨acc, _, rfl, .inl ⟨SqL.of ha, fun q hq => k q _ upd_same (((S1.trans S2).trans S3).trans (Same.lay hq))⟩⟩
theorem bad_read_row {f fn R : Addr} {fd fdn : FuncData} (F : Fun K "read_row" "read_row" s_read_row f fd) (T : Txt mg) (D_is_number : DefAt K mg "is_number" s_is_number ["word"] fn fdn) (G_is_number : FnOk P w K mg base CX0 1 fn fdn ["word"] spIsNum) (X_NoText : XRz K mg "NoText" R) : FnOk P w K mg base (CXx P w) 2 f fd ["text"] (spReadB R) := by
  refine F.okX sc_read_row (fun vs H Q E h => ?_) (fun cdv A outer s H vs Q E hr h => ?_)
  · obtain ⟨z, rfl, _⟩ := h
    rfl
  · obtain ⟨z, rfl, hl, hall, k⟩ := h
    have hsl := sizeLine_eq
    refine ⟨_, (pss_cons (ps_if (pt_cmpR op_eq (pv 0) pe_str (nomark _))
        (pss_one (ps_ret (pe_tup pa_nil)))
        pss_nil)
      (pss_cons (ps_set (i := 1) sc_read_row.nd rfl (Or.inl rfl) (pe_bm PySem.F.plainAttrs_str PySem.F.slot_str_split PySem.F.type_str_split mt_split (pv 0) (pa_cons pe_str pa_nil)))
      (pss_cons (ps_for PassesOwn.leaving rfl (piL (K := K) rfl (pv 1)) (pg_name (i := 2) sc_read_row.nd rfl (Or.inl rfl))
        (pss_one (ps_if (pt_not (pt_val (pe_call G_is_number (hr.mono (by first | decide | exact Nat.le_refl _)) rfl D_is_number.mg D_is_number.fn.kp D_is_number.bd .nil pass0 (pa_cons (pv 2) pa_nil))))
          (pss_one (ps_raise full_of rfl rfl X_NoText.mg X_NoText.ex (pa_cons pe_str pa_nil) raiseX))
          pss_nil)))
      (pss_one (ps_ret (pe_callTy (cTuple (K := K) rfl) (by rfl) T.b_tuple PyProof.Rows.Boot.«tuple» (pa_cons (pe_comp (N := ["word"]) (cap := [none]) rfl (show blkOk ["text", "words", "word"] (defScope s_read_row) ["word"] [none] _ = true by decide +kernel) (piL (K := K) rfl (pv 1)) (fun cl C s3 H3 fp => ⟨(pg_name (i := 0) (show (["word"] : List Str).Nodup by decide +kernel) rfl (Or.inl rfl)), pts_nil, fun it acc => (paf_emit rfl (pe_callTy call_int_text (by rfl) T.b_int PyProof.Rows.Boot.«int» (pa_cons (pv 0) pa_nil)))⟩)) pa_nil))))))), ?_⟩
    refine ⟨_, rfl, rfl, _, rfl, ite2 (fun e => ?_) (fun e => ?_)⟩
    · have e' : V.str z = V.str ("" : Str) := of_decide_eq_true e
      injection e' with e'
      rw [emp_eq] at e'
      subst e'
      unfold allN at hall
      rw [wsOf_nil] at hall
      cases hall
    · have hn : z ≠ Str.empty := fun q => e (decide_eq_true (by rw [q, emp_eq]))
      have hws := wsOf_ne hn
      unfold allN at hall
      rw [hws] at hall
      have hcount := split_count z
      have hlen : ∀ u ∈ Txt.split z blank, u.length ≤ z.length := fun u hu => word_len hu
      refine ⟨_, rfl, rfl, z, blank, rfl, rfl, by decide, by omega, fun ws hws => ?_⟩
      dsimp only [gName]
      generalize Txt.split z blank = us at hall hcount hlen
      have S1 : Same H (upd H ws (.lst (us.map V.str))) := Same.lay hws
      have e1 : upd H ws (.lst (us.map V.str)) ws = some (.lst (us.map V.str)) := upd_same
      generalize upd H ws (.lst (us.map V.str)) = H1 at S1 e1
      refine ⟨_, rfl, ws, rfl, ⟨_, SqL.of e1⟩, ?_⟩
      refine for_list (xs := us.map V.str) (fun i σ H' => ∃ v : Option V, σ = [some (.str z), some (.ref ws), v] ∧ (us.take i).all isN = true ∧ Same H1 H') ⟨none, rfl, rfl, Same.refl _⟩ ?_ ?_ ?_
      · rintro i σ H2 hi ⟨v, rfl, _, S2⟩
        exact SqL.of (S2 _ _ e1)
      · rintro i x σ H2 hx ⟨v, rfl, ht, S2⟩
        obtain ⟨u, hu, rfl⟩ := strs_at hx
        have hm := List.mem_of_getElem? hu
        have h1 := hlen u hm
        refine ⟨_, rfl, u, rfl, by omega, fun H3 S3 => ?_⟩
        cases hq : isNumL u.cps.toList with
        | true =>
          refine ⟨_, rfl, iteF ⟨_, rfl, ?_, S2.trans S3⟩⟩
          rw [List.take_add_one, hu, List.all_append, ht]
          show ([u].all isN) = true
          rw [List.all_cons, List.all_nil, show isN u = true from hq]; rfl
        | false =>
          refine ⟨_, rfl, iteT ⟨by show 1 ≤ sizeLine; omega, k H3 (S1.trans (S2.trans S3))⟩⟩
      · rintro σ H2 ⟨v, rfl, ht, S2⟩
        rw [List.length_map, List.take_length, hall] at ht
        cases ht
end
end My

namespace My
open PySem L2
def numV (z : Str) : V := if isN z = true then .int (numOf z) else .non
def spNumIn : Sp := fun vs H Q _ => ∃ (z : Str), vs = [.str z] ∧ z.length ≤ 640 ∧ ∀ H', Same H H' → Q (numV z) H'
/-- what is due -/
def DueAt (H : Hp) (q : Addr) (z : Str) : Prop := (allN z = true ∧ ∃ p, H q = some (.tup [.ref p, .str ""]) ∧ H p = some (.tup ((intsOf z).map V.int))) ∨ (allN z = false ∧ H q = some (.tup [.non, .str "text"]))
theorem DueAt.mono {H H' : Hp} {q : Addr} {z : Str} (h : DueAt H q z) (s : Same H H') : DueAt H' q z := by
  rcases h with ⟨h1, p, h2, h3⟩ | ⟨h1, h2⟩
  · exact .inl ⟨h1, p, s _ _ h2, s _ _ h3⟩
  · exact .inr ⟨h1, s _ _ h2⟩
def spDue2 : Sp := fun vs H Q _ => ∃ (z : Str), vs = [.str z] ∧ z.length ≤ 10000 ∧ (∀ u ∈ Txt.split z blank, u.length ≤ 640) ∧ ∀ q H', DueAt H' q z → Same H H' → Q (.ref q) H'
theorem slice01 (z : Str) : (StrLaws.sliceText z none (some 1)).cps.toList = z.cps.toList.take 1 := by
  by_cases h : 1 ≤ z.cps.toList.length
  · rw [StrLaws.sliceText_to ⟨by decide, by omega⟩]
    show ((z.cps.toList.drop 0).take ((1 : Int) - 0).toNat) = _
    rw [List.drop_zero]; rfl
  · have e : z.cps.toList = [] := by
      cases hz : z.cps.toList with
      | nil => rfl
      | cons a r => rw [hz] at h; simp at h
    obtain ⟨⟨l⟩⟩ := z
    have e' : l = [] := e
    subst e'
    decide
theorem dash_first (z : Str) : decide (V.str (StrLaws.sliceText z none (some 1)) = V.str ("-" : Str)) = decide (z.cps.toList.head? = some 45) := by
  rw [Bool.eq_iff_iff, decide_eq_true_iff, decide_eq_true_iff]
  have e := slice01 z
  constructor
  · intro h
    injection h with h
    rw [h] at e
    cases hz : z.cps.toList with
    | nil => rw [hz] at e; cases e
    | cons a r => rw [hz] at e; injection e with e _; rw [← e]; rfl
  · intro h
    rw [minus_eq]
    congr 1
    apply str_cps_inj
    rw [e]
    cases hz : z.cps.toList with
    | nil => rw [hz] at h; cases h
    | cons a r => rw [hz] at h; injection h with h; rw [h]; rfl
theorem figs_head {l : List Nat} (h : l.head? = some 45) : figs l = l.drop 1 := by
  cases l with
  | nil => cases h
  | cons a r => injection h with h; subst h; rfl
theorem figs_other {l : List Nat} (h : l.head? ≠ some 45) : figs l = l := by
  cases l with
  | nil => rfl
  | cons a r =>
    unfold figs
    split
    · rename_i r' q; injection q with q1 _; exact absurd (by rw [q1]; rfl) h
    · rfl
def c_digits : Str := "0123456789"
theorem fig_out (c : Nat) : (Builtin.Str.occurrences c_digits ⟨#[c]⟩ 0 c_digits.length 1).isEmpty = !okC c := by
  have := fig_in c
  have e : c_digits = c_FIGURES := rfl
  rw [e]
  unfold okC
  rw [← this, Bool.not_not]
section
variable {P : Program} {w : World} {K : PySem.W.Frag} {mg : Str → Option Value} {base : Heap}
abbrev s_law_number_in : Stmt := top 19
theorem sc_law_number_in : FnScope ["word", "figures"] ["word"] (defScope s_law_number_in) := ⟨rfl, rfl, rfl, by decide +kernel, rfl, by decide +kernel, by decide +kernel⟩
theorem ok_number_in {f : Addr} {fd : FuncData} (F : Fun K "_law_number_in" "_law_number_in" s_law_number_in f fd) (T : Txt mg) : FnOk P w K mg base CX0 1 f fd ["word"] spNumIn := by
  refine F.ok sc_law_number_in (fun vs H Q E h => ?_) (fun cdv A outer s H vs Q E hr h => ?_)
  · obtain ⟨z, rfl, _⟩ := h
    rfl
  · obtain ⟨z, rfl, hl, k⟩ := h
    have hu := hr.units0
    have hsl := sizeLine_eq
    refine ⟨_, (pss_cons (ps_set (i := 1) sc_law_number_in.nd rfl (Or.inl rfl) (pv 0))
      (pss_cons (ps_if (pt_cmpR op_eq (pe_slice sl_str (pv 0) po_none (po_some pe_int)) pe_str (nomark _))
        (pss_one (ps_set (i := 1) sc_law_number_in.nd rfl (Or.inl rfl) (pe_slice sl_str (pv 0) (po_some pe_int) po_none)))
        pss_nil)
      (pss_cons (ps_if (PW.pt (pw_or (pt_cmpR op_eq (pv 1) pe_str (nomark _)) (pw_or1 (pt_cmpR (oNeNil (K := K) rfl hu) (pe_comp (N := ["sign"]) (cap := [none]) rfl (show blkOk ["word", "figures"] (defScope s_law_number_in) ["sign"] [none] _ = true by decide +kernel) (pi_str (pv 1)) (fun cl C s3 H3 fp => ⟨(pg_name (i := 0) (show (["sign"] : List Str).Nodup by decide +kernel) rfl (Or.inl rfl)), (pts_one (pt_cmpR op_notin_str (pv 0) pe_str (by with_unfolding_all rfl))), fun it acc => (paf_emit rfl (pv 0))⟩)) (pe_lst pa_nil) (nomark _)))))
        (pss_one (ps_ret pe_non))
        pss_nil)
      (pss_cons (ps_if (PW.pt (pw_and (pt_cmpR op_eq (pe_ix ix_str (pv 1) pe_int (fun _ _ => rfl)) pe_str (nomark _)) (pw_and1 (pt_cmpR op_ne (pv 0) pe_str (nomark _)))))
        (pss_one (ps_ret pe_non))
        pss_nil)
      (pss_one (ps_ret (pe_callTy call_int_text (by rfl) T.b_int PyProof.Rows.Boot.«int» (pa_cons (pv 0) pa_nil)))))))), ?_⟩
    refine ⟨_, rfl, ?_⟩
    dsimp only [gName]
    refine ⟨_, rfl, 1, rfl, z, rfl, by omega, rfl, _, rfl, ?_⟩
    rw [dash_first]
    have fin : ∀ b : Bool, isN z = b → ∀ H', Same H H' → Q (if b = true then .int (numOf z) else .non) H' := fun b hb H' S => by
      have := k H' S
      unfold numV at this
      rw [hb] at this
      exact this
    have isn : isN z = (!(figs z.cps.toList).isEmpty && (figs z.cps.toList).all okC && (z.cps.toList == [48] || (figs z.cps.toList).head? != some 48)) := rfl
    have hz0 : decide (V.str z = V.str ("0" : Str)) = (z.cps.toList == [48]) := by
      rw [Bool.eq_iff_iff, decide_eq_true_iff, beq_iff_eq]
      constructor
      · intro h
        injection h with h
        rw [h]; rfl
      · intro h
        rw [show z = ("0" : Str) from str_cps_inj (by rw [h]; rfl)]
    refine ite2 (fun e => ?ga) (fun e => ?gb)
    case' ga =>
      have hfg : (StrLaws.sliceText z (some 1) none).cps.toList = figs z.cps.toList := by rw [slice1, figs_head (of_decide_eq_true e)]
      have hlen : (StrLaws.sliceText z (some 1) none).length ≤ 640 := by
        rw [strlen, slice1, List.length_drop]
        rw [strlen] at hl
        omega
      refine ⟨_, rfl, 1, rfl, z, rfl, by omega, ?_⟩
      dsimp only [gName]
    case' gb =>
      have hfg : z.cps.toList = figs z.cps.toList := (figs_other fun q => e (decide_eq_true q)).symm
      have hlen : z.length ≤ 640 := hl
      show tSeq _ _ _ _ _
    all_goals
      clear e
      refine ⟨_, rfl, rfl, _, rfl, ite2 (fun e0 => iteT ?_) (fun e0 => ?_)⟩
      · have e1 := of_decide_eq_true e0
        injection e1 with e1
        have hnil : figs z.cps.toList = [] := by rw [← hfg, e1]; rfl
        exact fin false (by rw [isn, hnil]; rfl) H (Same.refl H)
      · have hne : (figs z.cps.toList).isEmpty = false := by
          rw [← hfg]
          cases hq : List.isEmpty _ with
          | false => rfl
          | true =>
            exfalso
            refine e0 (decide_eq_true (congrArg V.str (str_cps_inj ?_)))
            rw [List.isEmpty_iff.mp hq]; rfl
        refine ⟨_, rfl, _, rfl, fun acc hacc => ?_⟩
        refine walk_str (fun i σ H' => ∃ v : Option V, σ = [v] ∧ H' acc = some (.lst ((((figs z.cps.toList).take i).filter fun c => !okC c).map fun c => V.str ⟨#[c]⟩)) ∧ Same H H') ⟨none, rfl, upd_same, Same.lay hacc⟩ ?_ ?_
        · rintro i c σ H1 hc ⟨v, rfl, ha, S1⟩
          have hc' : (figs z.cps.toList)[i]? = some c := by rw [← hfg]; simpa using hc
          have hi : i < (figs z.cps.toList).length := (List.getElem?_eq_some_iff.mp hc').1
          have hlf : (figs z.cps.toList).length ≤ 640 := by rw [← hfg, ← strlen]; exact hlen
          refine ⟨_, rfl, ⟨#[c]⟩, c_digits, rfl, rfl, _, rfl, ?_⟩
          rw [fig_out, List.take_add_one, hc', List.filter_append, List.map_append]
          refine ite2 (fun e2 => ?_) (fun e2 => ?_)
          · have e3 : okC c = false := by simpa using e2
            refine ⟨_, rfl, _, ha, size_lt (by rw [List.length_map]; exact Nat.le_trans (List.length_filter_le _ _) (by rw [List.length_take]; omega)), _, rfl, ?_, fun b o e => by rw [upd_ne (ne_of_none e hacc)]; exact S1 _ _ e⟩
            rw [upd_same]
            show _ = some (L2.HO.lst (_ ++ (([c].filter fun c => !okC c).map fun c => V.str ⟨#[c]⟩)))
            rw [List.filter_cons_of_pos (by rw [e3]; rfl)]; rfl
          · have e3 : okC c = true := by simpa using e2
            refine ⟨_, rfl, ?_, S1⟩
            show _ = some (L2.HO.lst (_ ++ (([c].filter fun c => !okC c).map fun c => V.str ⟨#[c]⟩)))
            rw [List.filter_cons_of_neg (by rw [e3]; decide), List.filter_nil, List.map_nil, List.append_nil]
            exact ha
        · rintro σ H1 ⟨v, rfl, ha, S1⟩
          rw [show ∀ y : Str, y.cps.size = y.cps.toList.length from fun y => by simp, congrArg List.length hfg, List.take_length] at ha
          refine ⟨by show 0 ≤ sizeLine; omega, fun l0 hl0 => ?_⟩
          have S2 := Same.lay (o := .lst []) hl0
          have el0 : upd H1 l0 (.lst []) l0 = some (.lst []) := upd_same
          generalize upd H1 l0 (.lst []) = H2 at S2 el0
          refine ⟨acc, l0, _, rfl, rfl, SqL.of (S2 _ _ ha), SqL.of el0, _, rfl, ?_⟩
          have S12 := S1.trans S2
          have hemp : (((figs z.cps.toList).filter fun c => !okC c).map fun c => V.str ⟨#[c]⟩).isEmpty = (figs z.cps.toList).all okC := by
            rw [Bool.eq_iff_iff, List.isEmpty_iff, List.map_eq_nil_iff, List.filter_eq_nil_iff, List.all_eq_true]
            constructor
            · intro h c hc; have := h c hc; simpa using this
            · intro h c hc; rw [h c hc]; decide
          rw [hemp]
          refine ite2 (fun e2 => ?_) (fun e2 => ?_)
          · have e3 : (figs z.cps.toList).all okC = false := by simpa using e2
            exact fin false (by rw [isn, hne, e3]; rfl) H2 S12
          · have e3 : (figs z.cps.toList).all okC = true := by simpa using e2
            cases hfs : figs z.cps.toList with
            | nil => rw [hfs] at hne; cases hne
            | cons c r =>
              have isn2 : isN z = (z.cps.toList == [48] || !decide (c = 48)) := by
                rw [isn, hne, e3, hfs, Bool.not_false, Bool.true_and, Bool.true_and]
                rfl
              refine ⟨_, rfl, _, 0, c, rfl, rfl, by omega, by rw [hfg.trans hfs]; exact atI_nat (j := 0) (by rfl), rfl, _, rfl, ?_⟩
              have hc0 : decide (V.str (⟨#[c]⟩ : Str) = V.str ("0" : Str)) = decide (c = 48) := by
                rw [Bool.eq_iff_iff, decide_eq_true_iff, decide_eq_true_iff]
                constructor
                · intro h
                  injection h with h
                  have h2 : [c] = [48] := congrArg (fun y : Str => y.cps.toList) h
                  injection h2
                · intro h; rw [h]; rfl
              rw [hc0]
              refine ite2 (fun e4 => ?_) (fun e4 => ?_)
              · refine ⟨_, rfl, rfl, _, rfl, ?_⟩
                rw [hz0]
                cases hq : (z.cps.toList == [48]) with
                | true =>
                  refine iteF ⟨_, rfl, z, numOf z, rfl, isN_reads (by rw [isn2, hq]; rfl) (by omega), hl, ?_⟩
                  exact fin true (by rw [isn2, hq]; rfl) H2 S12
                | false =>
                  refine iteT ?_
                  exact fin false (by rw [isn2, hq, e4]; rfl) H2 S12
              · have e5 : decide (c = 48) = false := Bool.not_eq_true _ |>.mp e4
                have ht : isN z = true := by rw [isn2, e5]; simp
                refine ⟨_, rfl, z, numOf z, rfl, isN_reads ht (by omega), hl, ?_⟩
                exact fin true ht H2 S12
abbrev s_law_due : Stmt := top 20
theorem sc_law_due : FnScope ["text", "found"] ["text"] (defScope s_law_due) := ⟨rfl, rfl, rfl, by decide +kernel, rfl, by decide +kernel, by decide +kernel⟩
theorem flat_num (u : Str) : flatV (numV u) = true := by
  unfold numV
  split <;> rfl
theorem in_nums (us : List Str) : inV .non (us.map numV) = !us.all isN := by
  induction us with
  | nil => rfl
  | cons u r ih =>
    rw [List.map_cons, List.all_cons]
    show (eqV (numV u) .non || inV .non (r.map numV)) = _
    rw [ih]
    unfold numV
    cases hq : isN u with
    | true => rfl
    | false => rfl
theorem nums_all {us : List Str} (h : us.all isN = true) : us.map numV = (us.map numOf).map V.int := by
  rw [List.map_map]
  refine List.map_congr_left fun u hu => ?_
  unfold numV
  rw [List.all_eq_true.mp h u hu]; rfl
theorem ok_due {f f1 : Addr} {fd fd1 : FuncData} (F : Fun K "_law_due" "_law_due" s_law_due f fd) (T : Txt mg) (D__law_number_in : DefAt K mg "_law_number_in" s_law_number_in ["word"] f1 fd1) (G__law_number_in : FnOk P w K mg base CX0 1 f1 fd1 ["word"] spNumIn) : FnOk P w K mg base CX0 2 f fd ["text"] spDue2 := by
  refine F.ok sc_law_due (fun vs H Q E h => ?_) (fun cdv A outer s H vs Q E hr h => ?_)
  · obtain ⟨z, rfl, _⟩ := h
    rfl
  · obtain ⟨z, rfl, hl, hw, k⟩ := h
    have hu := hr.units0
    have hsl := sizeLine_eq
    refine ⟨_, (pss_cons (ps_if (pt_cmpR op_eq (pv 0) pe_str (nomark _))
        (pss_one (ps_ret (pe_tup (pa_cons (pe_tup pa_nil) (pa_cons pe_str pa_nil)))))
        pss_nil)
      (pss_cons (ps_setComp (i := 1) (hN := sc_law_due.nd) (hy := rfl) (hx := rfl) (N := ["word"]) (cap := [none]) (hc := rfl) (hok := (show blkOk ["text", "found"] (defScope s_law_due) ["word"] [none] _ = true by decide +kernel) ) (hi := (piL (K := K) rfl (pe_bm PySem.F.plainAttrs_str PySem.F.slot_str_split PySem.F.type_str_split mt_split (pv 0) (pa_cons pe_str pa_nil)))) (hb := fun cl C s3 H3 fp => ⟨(pg_name (i := 0) (show (["word"] : List Str).Nodup by decide +kernel) rfl (Or.inl rfl)), pts_nil, fun it acc => (paf_emit rfl (pe_call G__law_number_in (hr.mono (by first | decide | exact Nat.le_refl _)) rfl D__law_number_in.mg D__law_number_in.fn.kp D__law_number_in.bd .nil pass0 (pa_cons (pv 0) pa_nil)))⟩))
      (pss_cons (ps_if (pt_cmpR (oIn (K := K) rfl) pe_non (pv 1) (by with_unfolding_all rfl))
        (pss_one (ps_ret (pe_tup (pa_cons pe_non (pa_cons pe_str pa_nil)))))
        pss_nil)
      (pss_one (ps_ret (pe_tup (pa_cons (pe_callTy (cTuple (K := K) rfl) (by rfl) T.b_tuple PyProof.Rows.Boot.«tuple» (pa_cons (pv 1) pa_nil)) (pa_cons pe_str pa_nil)))))))), ?_⟩
    refine ⟨_, rfl, rfl, _, rfl, ite2 (fun e => ?_) (fun e => ?_)⟩
    · have e' : V.str z = V.str ("" : Str) := of_decide_eq_true e
      injection e' with e'
      rw [emp_eq] at e'
      subst e'
      refine ⟨by show 0 ≤ sizeLine; omega, fun e0 he0 => ⟨by show 2 ≤ sizeLine; omega, fun q hq => k q _ (.inl ⟨?_, e0, upd_same, ?_⟩) ((Same.lay he0).trans (Same.lay hq))⟩⟩
      · unfold allN; rw [wsOf_nil]; rfl
      · unfold intsOf
        rw [wsOf_nil, upd_ne (ne_of_none upd_same hq)]
        exact upd_same
    · have hn : z ≠ Str.empty := fun q => e (decide_eq_true (by rw [q, emp_eq]))
      have hws := wsOf_ne hn
      have hcount := split_count z
      refine ⟨_, rfl, rfl, z, blank, rfl, rfl, by decide, by omega, fun ws hw0 => ?_⟩
      have kk : ∀ q H', ((Txt.split z blank).all isN = true ∧ (∃ p, H' q = some (.tup [.ref p, .str ""]) ∧ H' p = some (.tup (((Txt.split z blank).map numOf).map V.int)))) ∨ ((Txt.split z blank).all isN = false ∧ H' q = some (.tup [.non, .str "text"])) → Same H H' → Q (.ref q) H' := fun q H' hD S => by
        refine k q H' ?_ S
        unfold DueAt allN intsOf
        rw [hws]
        exact hD
      generalize Txt.split z blank = us at hw hcount kk
      have S1 : Same H (upd H ws (.lst (us.map V.str))) := Same.lay hw0
      have e1 : upd H ws (.lst (us.map V.str)) ws = some (.lst (us.map V.str)) := upd_same
      generalize upd H ws (.lst (us.map V.str)) = H1 at S1 e1
      refine ⟨ws, rfl, ⟨_, SqL.of e1⟩, fun acc hacc => ?_⟩
      refine walk_list (xs := us.map V.str) (fun i σ H' => ∃ v : Option V, σ = [v] ∧ H' acc = some (.lst ((us.take i).map numV)) ∧ Same H1 H') ⟨none, rfl, upd_same, Same.lay hacc⟩ ?_ ?_ ?_
      · rintro i σ H3 hi ⟨v, rfl, ha, S3⟩
        exact SqL.of (S3 _ _ e1)
      · rintro i x σ H3 hx ⟨v, rfl, ha, S3⟩
        obtain ⟨u, hu', rfl⟩ := strs_at hx
        have hi : i < us.length := (List.getElem?_eq_some_iff.mp hu').1
        refine ⟨_, rfl, u, rfl, hw u (List.mem_of_getElem? hu'), fun H4 S4 => ⟨_, S4 _ _ ha, size_lt (by rw [List.length_map, List.length_take]; omega), _, rfl, ?_, fun b o e => by rw [upd_ne (ne_of_none e hacc)]; exact S4 _ _ (S3 _ _ e)⟩⟩
        rw [upd_same, map_take_succ numV hu']
      · rintro σ H3 ⟨v, rfl, ha, S3⟩
        rw [List.length_map, List.take_length] at ha
        dsimp only [gName]
        refine ⟨_, rfl, acc, _, rfl, .inl (SqL.of ha), rfl, List.all_eq_true.mpr fun v hv => ?_, _, rfl, ?_⟩
        · obtain ⟨u, _, rfl⟩ := List.mem_map.mp hv
          exact flat_num u
        show if inV .non (us.map numV) = true then _ else _
        rw [in_nums]
        cases hq : us.all isN with
        | false =>
          refine iteT ⟨by show 2 ≤ sizeLine; omega, fun q hq' => kk q _ (.inr ⟨hq, upd_same⟩) ((S1.trans S3).trans (Same.lay hq'))⟩
        | true =>
          rw [nums_all hq] at ha
          refine iteF ⟨_, rfl, acc, _, rfl, .inl ⟨SqL.of ha, fun t ht => ⟨by show 2 ≤ sizeLine; omega, fun q hq' => kk q _ (.inl ⟨hq, t, upd_same, ?_⟩) (((S1.trans S3).trans (Same.lay ht)).trans (Same.lay hq'))⟩⟩⟩
          rw [upd_ne (ne_of_none upd_same hq')]
          exact upd_same
end
end My

namespace My
open PySem L2
/-- the classes, how they stand to each other -/
structure XRel (K : PySem.W.Frag) (S Tx St Rs Pl Ak : Addr) : Prop where
  sub : PySem.W.mroIn K Tx (.ref S) = some true
  s0 : PySem.W.kitOne K (.ref Tx) (.ref S) = some true
  s1 : PySem.W.kitOne K (.ref St) (.ref S) = some true
  s2 : PySem.W.kitOne K (.ref Rs) (.ref S) = some true
  s3 : PySem.W.kitOne K (.ref Pl) (.ref S) = some true
  s4 : PySem.W.kitOne K (.ref Ak) (.ref S) = some true
  v0 : PySem.W.kitOne K (.ref Tx) (.type "ValueError") = some true
  v1 : PySem.W.kitOne K (.ref St) (.type "ValueError") = some true
  v2 : PySem.W.kitOne K (.ref Rs) (.type "ValueError") = some true
  v3 : PySem.W.kitOne K (.ref Pl) (.type "ValueError") = some true
  v4 : PySem.W.kitOne K (.ref Ak) (.type "ValueError") = some true
  n01 : PySem.W.kitOne K (.ref Tx) (.ref St) = some false
  n02 : PySem.W.kitOne K (.ref Tx) (.ref Rs) = some false
  n03 : PySem.W.kitOne K (.ref Tx) (.ref Pl) = some false
  n04 : PySem.W.kitOne K (.ref Tx) (.ref Ak) = some false
  n10 : PySem.W.kitOne K (.ref St) (.ref Tx) = some false
  n12 : PySem.W.kitOne K (.ref St) (.ref Rs) = some false
  n13 : PySem.W.kitOne K (.ref St) (.ref Pl) = some false
  n14 : PySem.W.kitOne K (.ref St) (.ref Ak) = some false
  n20 : PySem.W.kitOne K (.ref Rs) (.ref Tx) = some false
  n21 : PySem.W.kitOne K (.ref Rs) (.ref St) = some false
  n23 : PySem.W.kitOne K (.ref Rs) (.ref Pl) = some false
  n24 : PySem.W.kitOne K (.ref Rs) (.ref Ak) = some false
  n30 : PySem.W.kitOne K (.ref Pl) (.ref Tx) = some false
  n31 : PySem.W.kitOne K (.ref Pl) (.ref St) = some false
  n32 : PySem.W.kitOne K (.ref Pl) (.ref Rs) = some false
  n34 : PySem.W.kitOne K (.ref Pl) (.ref Ak) = some false
  n40 : PySem.W.kitOne K (.ref Ak) (.ref Tx) = some false
  n41 : PySem.W.kitOne K (.ref Ak) (.ref St) = some false
  n42 : PySem.W.kitOne K (.ref Ak) (.ref Rs) = some false
  n43 : PySem.W.kitOne K (.ref Ak) (.ref Pl) = some false

theorem kit_self {K : PySem.W.Frag} {R : Addr} : PySem.W.kitOne K (.ref R) (.ref R) = some true := by
  unfold PySem.W.kitOne
  rw [if_pos (beq_self_eq_true _)]
/-- the i-th class -/
structure CK (K : PySem.W.Frag) (S Tx St Rs Pl Ak C : Addr) (i : Nat) : Prop where
  cl : XCls K C
  k0 : PySem.W.kitOne K (.ref C) (.ref Tx) = some (i == 0)
  k1 : PySem.W.kitOne K (.ref C) (.ref St) = some (i == 1)
  k2 : PySem.W.kitOne K (.ref C) (.ref Rs) = some (i == 2)
  k3 : PySem.W.kitOne K (.ref C) (.ref Pl) = some (i == 3)
  k4 : PySem.W.kitOne K (.ref C) (.ref Ak) = some (i == 4)
  k5 : PySem.W.kitOne K (.ref C) (.ref S) = some true
  k6 : PySem.W.kitOne K (.ref C) (.type "ValueError") = some true
def flagsV (i : Nat) : List V := [.bl (i == 0), .bl (i == 1), .bl (i == 2), .bl (i == 3), .bl (i == 4), .bl false, .bl false]
def spFlags (K : PySem.W.Frag) (S Tx St Rs Pl Ak : Addr) : Sp := fun vs H Q _ => ∃ (a C : Addr) (i : Nat), vs = [.ref a] ∧ H a = some (.ext (ExcAt a C)) ∧ CK K S Tx St Rs Pl Ak C i ∧ ∀ q H', H' q = some (.lst (flagsV i)) → Same H H' → Q (.ref q) H'
section
variable {P : Program} {w : World} {K : PySem.W.Frag} {mg : Str → Option Value} {base : Heap} {S Tx St Rs Pl Ak : Addr}
abbrev s_law_flags : Stmt := top 17
theorem sc_law_flags : FnScope ["thing", "found"] ["thing"] (defScope s_law_flags) := ⟨rfl, rfl, rfl, by decide +kernel, rfl, by decide +kernel, by decide +kernel⟩
theorem ok_flags {f : Addr} {fd : FuncData} (F : Fun K "_law_flags" "_law_flags" s_law_flags f fd) (T : Txt mg) (X_SumError : XSp K mg "SumError" S) (X_NoText : XRz K mg "NoText" Tx) (X_NoStretch : XRz K mg "NoStretch" St) (X_NoRest : XRz K mg "NoRest" Rs) (X_NoPlace : XRz K mg "NoPlace" Pl) (X_NoAsk : XRz K mg "NoAsk" Ak) :
    FnOk P w K mg base CX0 1 f fd ["thing"] (spFlags K S Tx St Rs Pl Ak) := by
  refine F.ok sc_law_flags (fun vs H Q E h => ?_) (fun cdv A outer s H vs Q E hr h => ?_)
  · obtain ⟨a, C, i, rfl, _⟩ := h
    rfl
  · obtain ⟨a, C, i, rfl, ha, kk, k⟩ := h
    refine ⟨_, (pss_cons (ps_set (i := 1) sc_law_flags.nd rfl (Or.inl rfl) (pe_lst (pa_cons (pe_callB (call_isiX (K := K) rfl) (by rfl) T.b_isinstance PyProof.Rows.Boot.«isinstance» (pa_cons (pv 0) (pa_cons (pe_glob (v := .ref _) (by rfl) X_NoText.mg rfl) pa_nil))) (pa_cons (pe_callB (call_isiX (K := K) rfl) (by rfl) T.b_isinstance PyProof.Rows.Boot.«isinstance» (pa_cons (pv 0) (pa_cons (pe_glob (v := .ref _) (by rfl) X_NoStretch.mg rfl) pa_nil))) (pa_cons (pe_callB (call_isiX (K := K) rfl) (by rfl) T.b_isinstance PyProof.Rows.Boot.«isinstance» (pa_cons (pv 0) (pa_cons (pe_glob (v := .ref _) (by rfl) X_NoRest.mg rfl) pa_nil))) pa_nil)))))
      (pss_cons (ps_set (i := 1) sc_law_flags.nd rfl (Or.inl rfl) (pe_op op_cat (pv 1) (pe_lst (pa_cons (pe_callB (call_isiX (K := K) rfl) (by rfl) T.b_isinstance PyProof.Rows.Boot.«isinstance» (pa_cons (pv 0) (pa_cons (pe_glob (v := .ref _) (by rfl) X_NoPlace.mg rfl) pa_nil))) (pa_cons (pe_callB (call_isiX (K := K) rfl) (by rfl) T.b_isinstance PyProof.Rows.Boot.«isinstance» (pa_cons (pv 0) (pa_cons (pe_glob (v := .ref _) (by rfl) X_NoAsk.mg rfl) pa_nil))) pa_nil)))))
      (pss_one (ps_ret (pe_op op_cat (pv 1) (pe_lst (pa_cons (pe_not (pe_callB (call_isiX (K := K) rfl) (by rfl) T.b_isinstance PyProof.Rows.Boot.«isinstance» (pa_cons (pv 0) (pa_cons (pe_glob (v := .ref _) (by rfl) X_SumError.mg rfl) pa_nil)))) (pa_cons (pe_not (pe_callB (call_isiX (K := K) rfl) (by rfl) T.b_isinstance PyProof.Rows.Boot.«isinstance» (pa_cons (pv 0) (pa_cons (pe_ty (by rfl) T.b_ValueError PyProof.Rows.Boot.«ValueError») pa_nil)))) pa_nil)))))))), ?_⟩
    refine ⟨_, rfl, a, C, _, _, rfl, ha, kk.cl, .inl ⟨rfl, kk.k0⟩, _, rfl, a, C, _, _, rfl, ha, kk.cl, .inl ⟨rfl, kk.k1⟩, _, rfl, a, C, _, _, rfl, ha, kk.cl, .inl ⟨rfl, kk.k2⟩, by show 3 ≤ sizeLine; decide, fun l1 hl1 => ?_⟩
    dsimp only [gName]
    have S1 : Same H (upd H l1 (.lst [.bl (i == 0), .bl (i == 1), .bl (i == 2)])) := Same.lay hl1
    have h1 : upd H l1 (.lst [.bl (i == 0), .bl (i == 1), .bl (i == 2)]) l1 = some (.lst [.bl (i == 0), .bl (i == 1), .bl (i == 2)]) := upd_same
    generalize upd H l1 (.lst [.bl (i == 0), .bl (i == 1), .bl (i == 2)]) = H1 at S1 h1
    have ha1 := S1 _ _ ha
    refine ⟨_, rfl, _, rfl, a, C, _, _, rfl, ha1, kk.cl, .inl ⟨rfl, kk.k3⟩, _, rfl, a, C, _, _, rfl, ha1, kk.cl, .inl ⟨rfl, kk.k4⟩, by show 2 ≤ sizeLine; decide, fun l2 hl2 => ?_⟩
    have S2 := Same.lay (o := .lst [.bl (i == 3), .bl (i == 4)]) hl2
    have h2 : upd H1 l2 (.lst [.bl (i == 3), .bl (i == 4)]) l2 = some (.lst [.bl (i == 3), .bl (i == 4)]) := upd_same
    generalize upd H1 l2 (.lst [.bl (i == 3), .bl (i == 4)]) = H2 at S2 h2
    refine ⟨l1, l2, _, _, rfl, rfl, S2 _ _ h1, h2, by show 5 ≤ sizeLine; decide, fun l3 hl3 => ?_⟩
    dsimp only [gName]
    have S3 := Same.lay (o := .lst ([.bl (i == 0), .bl (i == 1), .bl (i == 2)] ++ [.bl (i == 3), .bl (i == 4)])) hl3
    have h3 : upd H2 l3 (.lst ([.bl (i == 0), .bl (i == 1), .bl (i == 2)] ++ [.bl (i == 3), .bl (i == 4)])) l3 = some (.lst ([.bl (i == 0), .bl (i == 1), .bl (i == 2)] ++ [.bl (i == 3), .bl (i == 4)])) := upd_same
    have S13 := (S1.trans S2).trans S3
    generalize upd H2 l3 (.lst ([.bl (i == 0), .bl (i == 1), .bl (i == 2)] ++ [.bl (i == 3), .bl (i == 4)])) = H3 at S3 h3 S13
    have ha3 := S13 _ _ ha
    refine ⟨_, rfl, _, rfl, a, C, _, true, rfl, ha3, kk.cl, .inl ⟨rfl, kk.k5⟩, _, rfl, _, rfl, a, C, _, true, rfl, ha3, kk.cl, .inl ⟨rfl, kk.k6⟩, _, rfl, by show 2 ≤ sizeLine; decide, fun l4 hl4 => ?_⟩
    have S4 := Same.lay (o := .lst [.bl (!true), .bl (!true)]) hl4
    refine ⟨l3, l4, _, _, rfl, rfl, S4 _ _ h3, upd_same, by show 7 ≤ sizeLine; decide, fun l5 hl5 => ?_⟩
    exact k l5 _ upd_same ((S13.trans S4).trans (Same.lay hl5))
theorem ck0 {K : PySem.W.Frag} (X : XCls K Tx) (r : XRel K S Tx St Rs Pl Ak) : CK K S Tx St Rs Pl Ak Tx 0 := ⟨X, kit_self, r.n01, r.n02, r.n03, r.n04, r.s0, r.v0⟩
theorem ck1 {K : PySem.W.Frag} (X : XCls K St) (r : XRel K S Tx St Rs Pl Ak) : CK K S Tx St Rs Pl Ak St 1 := ⟨X, r.n10, kit_self, r.n12, r.n13, r.n14, r.s1, r.v1⟩
theorem ck2 {K : PySem.W.Frag} (X : XCls K Rs) (r : XRel K S Tx St Rs Pl Ak) : CK K S Tx St Rs Pl Ak Rs 2 := ⟨X, r.n20, r.n21, kit_self, r.n23, r.n24, r.s2, r.v2⟩
theorem ck3 {K : PySem.W.Frag} (X : XCls K Pl) (r : XRel K S Tx St Rs Pl Ak) : CK K S Tx St Rs Pl Ak Pl 3 := ⟨X, r.n30, r.n31, r.n32, kit_self, r.n34, r.s3, r.v3⟩
theorem ck4 {K : PySem.W.Frag} (X : XCls K Ak) (r : XRel K S Tx St Rs Pl Ak) : CK K S Tx St Rs Pl Ak Ak 4 := ⟨X, r.n40, r.n41, r.n42, r.n43, kit_self, r.s4, r.v4⟩
abbrev s_law_told : Stmt := top 21
theorem sc_law_told : FnScope ["text", "found", "caught", "e"] ["text"] (defScope s_law_told) := ⟨rfl, rfl, rfl, by decide +kernel, rfl, by decide +kernel, by decide +kernel⟩
def fk (i : Nat) : List V := (List.range i).map fun (k : Nat) => V.bl (decide (V.int (0 + (k : Int)) = V.int 0))
theorem ok_told {f fs ff : Addr} {fd fds fdf : FuncData} (F : Fun K "_law_told" "_law_told" s_law_told f fd) (T : Txt mg) (X_SumError : XSp K mg "SumError" S) (X_NoText : XRz K mg "NoText" Tx) (XR : XRel K S Tx St Rs Pl Ak)
    (D_read_row : DefAt K mg "read_row" s_read_row ["text"] fs fds) (G_read_row : FnOk P w K mg base CX0 2 fs fds ["text"] spRead) (B_read_row : FnOk P w K mg base (CXx P w) 2 fs fds ["text"] (spReadB Tx))
    (D__law_flags : DefAt K mg "_law_flags" s_law_flags ["thing"] ff fdf) (G__law_flags : FnOk P w K mg base CX0 1 ff fdf ["thing"] (spFlags K S Tx St Rs Pl Ak)) : FnOk P w K mg base CX0 3 f fd ["text"] spDue2 := by
  refine F.ok sc_law_told (fun vs H Q E h => ?_) (fun cdv A outer s H vs Q E0 hr h => ?_)
  · obtain ⟨z, rfl, _⟩ := h
    rfl
  · obtain ⟨z, rfl, hl, hw, k⟩ := h
    have hu := hr.units0
    cases hall : allN z with
    | true =>
      obtain ⟨EX, hEX⟩ : ∃ EX : XK, EX = fun _ _ _ => False := ⟨_, rfl⟩
      refine ⟨_, (pss_cons (ps_set (i := 1) sc_law_told.nd rfl (Or.inl rfl) pe_non)
      (pss_cons (ps_set (i := 2) sc_law_told.nd rfl (Or.inl rfl) pe_non)
      (pss_cons (ps_try (i := 3) (EX := EX) ⟨rfl, rfl, rfl⟩ sc_law_told.nd rfl X_SumError.mg X_SumError.sup (fun pn E hp =>
        (pss_one (ps_set (i := 1) sc_law_told.nd rfl (Or.inl rfl) (pe_call G_read_row (hr.mono (by first | decide | exact Nat.le_refl _)) rfl D_read_row.mg D_read_row.fn.kp D_read_row.bd .nil pass0 (pa_cons (pv 0) pa_nil)))))
        (fun e => (pss_one (ps_set (i := 2) sc_law_told.nd rfl (Or.inl rfl) (pv 3)))))
      (pss_cons (ps_if (pt_cmpR op_isN (pv 2) pe_non (nomark _))
        (pss_one (ps_ret (pe_tup (pa_cons (pv 1) (pa_cons pe_str pa_nil)))))
        pss_nil)
      (pss_one (ps_ret (pe_tup (pa_cons pe_non (pa_cons (pe_ix (ixL (K := K) rfl) (pe_lst (pa_cons pe_str (pa_cons pe_str pa_nil))) (pe_callTy call_int1 (by rfl) T.b_int PyProof.Rows.Boot.«int» (pa_cons (pe_cmpR (oEq (K := K) rfl false hu) (pe_call G__law_flags (hr.mono (by first | decide | exact Nat.le_refl _)) rfl D__law_flags.mg D__law_flags.fn.kp D__law_flags.bd .nil pass0 (pa_cons (pv 2) pa_nil)) (pe_comp (N := ["k"]) (cap := [none]) rfl (show blkOk ["text", "found", "caught", "e"] (defScope s_law_told) ["k"] [none] _ = true by decide +kernel) (pi_range1 (by rfl) T.b_range (pa_cons pe_int pa_nil)) (fun cl C s3 H3 fp => ⟨(pg_name (i := 0) (show (["k"] : List Str).Nodup by decide +kernel) rfl (Or.inl rfl)), pts_nil, fun it acc => (paf_emit rfl (pe_cmpR op_eq (pv 0) pe_int (nomark _)))⟩)) (nomark _)) pa_nil)) (fun _ _ => rfl)) pa_nil))))))))), ?_⟩
      dsimp only [gName]
      refine ⟨fun c H' z => by rw [hEX] at z; exact z.elim, ?_⟩
      refine ⟨_, rfl, z, rfl, hl, hall, fun u hu => ?_, fun q H1 hq S1 => ?_⟩
      · unfold wsOf at hu
        split at hu
        · simp at hu
        · exact hw u hu
      refine ⟨_, rfl, rfl, _, rfl, ⟨_, rfl, by show 2 ≤ sizeLine; decide, fun r hr' => k r _ (.inl ⟨hall, q, upd_same, ?_⟩) (S1.trans (Same.lay hr'))⟩⟩
      rw [upd_ne (ne_of_none hq hr')]
      exact hq
    | false =>
      obtain ⟨EX, hEX⟩ : ∃ EX : XK, EX = fun c _ H' => c = .ref Tx ∧ Same H H' := ⟨_, rfl⟩
      refine ⟨_, (pss_cons (ps_set (i := 1) sc_law_told.nd rfl (Or.inl rfl) pe_non)
      (pss_cons (ps_set (i := 2) sc_law_told.nd rfl (Or.inl rfl) pe_non)
      (pss_cons (ps_try (i := 3) (EX := EX) ⟨rfl, rfl, rfl⟩ sc_law_told.nd rfl X_SumError.mg X_SumError.sup (fun pn E hp =>
        (pss_one (ps_set (i := 1) sc_law_told.nd rfl (Or.inl rfl) (pe_call B_read_row (hr.mono (by first | decide | exact Nat.le_refl _)) rfl D_read_row.mg D_read_row.fn.kp D_read_row.bd .nil hp (pa_cons (pv 0) pa_nil)))))
        (fun e => (pss_one (ps_set (i := 2) sc_law_told.nd rfl (Or.inl rfl) (pv 3)))))
      (pss_cons (ps_if (pt_cmpR op_isN (pv 2) pe_non (nomark _))
        (pss_one (ps_ret (pe_tup (pa_cons (pv 1) (pa_cons pe_str pa_nil)))))
        pss_nil)
      (pss_one (ps_ret (pe_tup (pa_cons pe_non (pa_cons (pe_ix (ixL (K := K) rfl) (pe_lst (pa_cons pe_str (pa_cons pe_str pa_nil))) (pe_callTy call_int1 (by rfl) T.b_int PyProof.Rows.Boot.«int» (pa_cons (pe_cmpR (oEq (K := K) rfl false hu) (pe_call G__law_flags (hr.mono (by first | decide | exact Nat.le_refl _)) rfl D__law_flags.mg D__law_flags.fn.kp D__law_flags.bd .nil pass0 (pa_cons (pv 2) pa_nil)) (pe_comp (N := ["k"]) (cap := [none]) rfl (show blkOk ["text", "found", "caught", "e"] (defScope s_law_told) ["k"] [none] _ = true by decide +kernel) (pi_range1 (by rfl) T.b_range (pa_cons pe_int pa_nil)) (fun cl C s3 H3 fp => ⟨(pg_name (i := 0) (show (["k"] : List Str).Nodup by decide +kernel) rfl (Or.inl rfl)), pts_nil, fun it acc => (paf_emit rfl (pe_cmpR op_eq (pv 0) pe_int (nomark _)))⟩)) (nomark _)) pa_nil)) (fun _ _ => rfl)) pa_nil))))))))), ?_⟩
      dsimp only [gName]
      refine ⟨fun c H' z => ?_, ?_⟩
      · rw [hEX] at z
        obtain ⟨rfl, S'⟩ := z
        refine ⟨Tx, rfl, X_NoText.cl, XR.sub, fun a σ' ha hl => ?_⟩
        match σ', hl with
        | [v0, v1, v2, v3], _ =>
          have Sa : Same H (upd H' a (.ext (ExcAt a Tx))) := S'.trans (Same.lay ha)
          have haa : upd H' a (.ext (ExcAt a Tx)) a = some (.ext (ExcAt a Tx)) := upd_same
          generalize upd H' a (.ext (ExcAt a Tx)) = H1 at Sa haa
          refine ⟨_, rfl, ?_⟩
          dsimp only [gName, goesD]
          refine ⟨_, rfl, rfl, _, rfl, ?_⟩
          refine ⟨by show 2 ≤ sizeLine; decide, fun l1 hl1 => ?_⟩
          have S1 := Same.lay (o := .lst [.str "other", .str "text"]) hl1
          refine ⟨_, rfl, a, Tx, 0, rfl, S1 _ _ haa, ck0 X_NoText.cl XR, fun q H2 hq S2 => ?_⟩
          refine ⟨_, rfl, by decide, by decide, fun acc hacc => ?_⟩
          refine walk_range (n := 7) (fun i σ H' => ∃ v : Option V, σ = [v] ∧ H' acc = some (.lst (fk i)) ∧ Same H2 H') ⟨_, rfl, upd_same, Same.lay hacc⟩ ?_ ?_
          · rintro i σ H3 hi ⟨v, rfl, ha3, S3⟩
            refine ⟨_, rfl, rfl, fk i, ha3, size_lt (by unfold fk; rw [List.length_map, List.length_range]; omega), ?_⟩
            refine ⟨_, rfl, ?_, fun b o e => by rw [upd_ne (ne_of_none e hacc)]; exact S3 b o e⟩
            rw [upd_same]
            unfold fk
            rw [List.range_succ, List.map_append]
            rfl
          · rintro σ H3 ⟨v, rfl, ha3, S3⟩
            refine ⟨q, acc, _, _, rfl, rfl, SqL.of (S3 _ _ hq), SqL.of ha3, rfl, rfl, ?_⟩
            refine .inr ⟨_, rfl, ?_⟩
            refine ⟨l1, _, _, _, rfl, rfl, SqL.of (S3 _ _ (S2 _ _ upd_same)), rfl, by show 2 ≤ sizeLine; decide, fun r hr' => k r _ (.inr ⟨hall, ?_⟩) ((((Sa.trans S1).trans S2).trans S3).trans (Same.lay hr'))⟩
            rw [upd_same]
      · exact ⟨_, rfl, z, rfl, hl, hall, fun H' S' => by rw [hEX]; exact ⟨rfl, S'⟩⟩
end
end My

namespace My
open PySem L2
theorem due_alike {H : Hp} {q1 q2 : Addr} {z : Str} (h1 : DueAt H q1 z) (h2 : DueAt H q2 z) : Alike H 2 (.ref q1) (.ref q2) := by
  rcases h1 with ⟨e1, p1, a1, b1⟩ | ⟨e1, a1⟩
  · rcases h2 with ⟨e2, p2, a2, b2⟩ | ⟨e2, a2⟩
    · refine .inr ⟨true, q1, q2, _, _, rfl, rfl, a1, a2, rfl, fun i x y hx hy => ?_⟩
      match i, hx, hy with
      | 0, hx, hy =>
        cases hx; cases hy
        refine .inr ⟨true, p1, p2, _, _, rfl, rfl, b1, b2, rfl, fun j x' y' hx' hy' => ?_⟩
        rw [hx'] at hy'; cases hy'
        rw [List.getElem?_map] at hx'
        obtain ⟨n, _, rfl⟩ := Option.map_eq_some_iff.mp hx'
        exact ⟨rfl, .inl ⟨n, rfl⟩⟩
      | 1, hx, hy =>
        cases hx; cases hy
        exact .inl ⟨rfl, .inr (.inr ⟨_, rfl⟩)⟩
    · rw [e1] at e2; cases e2
  · rcases h2 with ⟨e2, p2, a2, b2⟩ | ⟨e2, a2⟩
    · rw [e1] at e2; cases e2
    · refine .inr ⟨true, q1, q2, _, _, rfl, rfl, a1, a2, rfl, fun i x y hx hy => ?_⟩
      match i, hx, hy with
      | 0, hx, hy =>
        cases hx; cases hy
        exact .inl ⟨rfl, .inr (.inl rfl)⟩
      | 1, hx, hy =>
        cases hx; cases hy
        exact .inl ⟨rfl, .inr (.inr ⟨_, rfl⟩)⟩
/-- a text that is asked of -/
def TxtOk (z : Str) : Prop := z.length ≤ 10000 ∧ ∀ u ∈ Txt.split z blank, u.length ≤ 640
def spRightT : Sp := fun vs H Q _ => ∃ (z : Str), vs = [.str z] ∧ TxtOk z ∧ ∀ H', Same H H' → Q (.bl true) H'
section
variable {P : Program} {w : World} {K : PySem.W.Frag} {mg : Str → Option Value} {base : Heap}
abbrev s_law_right : Stmt := top 22
theorem sc_law_right : FnScope ["text", "words", "due", "great"] ["text"] (defScope s_law_right) := ⟨rfl, rfl, rfl, by decide +kernel, rfl, by decide +kernel, by decide +kernel⟩
theorem ok_right {f f1 f2 f3 : Addr} {fd fd1 fd2 fd3 : FuncData} (F : Fun K "_law_right" "_law_right" s_law_right f fd) (T : Txt mg)
    (D__law_due : DefAt K mg "_law_due" s_law_due ["text"] f1 fd1) (G__law_due : FnOk P w K mg base CX0 2 f1 fd1 ["text"] spDue2)
    (D__law_told : DefAt K mg "_law_told" s_law_told ["text"] f2 fd2) (G__law_told : FnOk P w K mg base CX0 3 f2 fd2 ["text"] spDue2)
    (D__law_same : DefAt K mg "_law_same" s_law_same ["found", "due"] f3 fd3) (G__law_same : FnOk P w K mg base CX0 3 f3 fd3 ["found", "due"] (spSame 2)) : FnOk P w K mg base CX0 4 f fd ["text"] spRightT := by
  refine F.ok sc_law_right (fun vs H Q E h => ?_) (fun cdv A outer s H vs Q E hr h => ?_)
  · obtain ⟨z, rfl, _⟩ := h
    rfl
  · obtain ⟨z, rfl, ⟨hl, hw⟩, k⟩ := h
    have hu := hr.units0
    have hsl := sizeLine_eq
    refine ⟨_, (pss_cons (ps_set (i := 1) sc_law_right.nd rfl (Or.inl rfl) (pe_bm PySem.F.plainAttrs_str PySem.F.slot_str_split PySem.F.type_str_split mt_split (pv 0) (pa_cons pe_str pa_nil)))
      (pss_cons (ps_set (i := 2) sc_law_right.nd rfl (Or.inl rfl) (pe_call G__law_due (hr.mono (by first | decide | exact Nat.le_refl _)) rfl D__law_due.mg D__law_due.fn.kp D__law_due.bd .nil pass0 (pa_cons (pv 0) pa_nil)))
      (pss_cons (ps_set (i := 3) sc_law_right.nd rfl (Or.inl rfl) (pe_or (pe_cmpR op_gt (pe_callB (cLen (K := K) rfl) (by rfl) T.b_len PyProof.Rows.Boot.«len» (pa_cons (pv 1) pa_nil)) pe_int (nomark _)) (pe_one (pe_cmpR op_gt (pe_callB (cMmI false (K := K) rfl rfl) (by rfl) T.b_max PyProof.Rows.Boot.«max» (pa_cons (pe_comp (N := ["word"]) (cap := [none]) rfl (show blkOk ["text", "words", "due", "great"] (defScope s_law_right) ["word"] [none] _ = true by decide +kernel) (piL (K := K) rfl (pv 1)) (fun cl C s3 H3 fp => ⟨(pg_name (i := 0) (show (["word"] : List Str).Nodup by decide +kernel) rfl (Or.inl rfl)), pts_nil, fun it acc => (paf_emit rfl (pe_op op_sub (pe_callB call_len_str (by rfl) T.b_len PyProof.Rows.Boot.«len» (pa_cons (pv 0) pa_nil)) (pe_callTy call_int1 (by rfl) T.b_int PyProof.Rows.Boot.«int» (pa_cons (pe_cmpR op_eq (pe_slice sl_str (pv 0) po_none (po_some pe_int)) pe_str (nomark _)) pa_nil))))⟩)) pa_nil)) pe_int (nomark _)))))
      (pss_cons (ps_if (PW.pt (pw_and (pt_val (pv 3)) (pw_and1 (pt_cmpR op_notN (pe_ix (ixT (K := K) rfl) (pv 2) pe_int (fun _ _ => rfl)) pe_non (nomark _)))))
        (pss_one (ps_ret pe_bl))
        pss_nil)
      (pss_one (ps_ret (pe_and (pe_call G__law_same (hr.mono (by first | decide | exact Nat.le_refl _)) rfl D__law_same.mg D__law_same.fn.kp D__law_same.bd .nil pass0 (pa_cons (pe_call G__law_told (hr.mono (by first | decide | exact Nat.le_refl _)) rfl D__law_told.mg D__law_told.fn.kp D__law_told.bd .nil pass0 (pa_cons (pv 0) pa_nil)) (pa_cons (pv 2) pa_nil))) (pe_one (pe_call G__law_same (hr.mono (by first | decide | exact Nat.le_refl _)) rfl D__law_same.mg D__law_same.fn.kp D__law_same.bd .nil pass0 (pa_cons (pe_call G__law_told (hr.mono (by first | decide | exact Nat.le_refl _)) rfl D__law_told.mg D__law_told.fn.kp D__law_told.bd .nil pass0 (pa_cons (pv 0) pa_nil)) (pa_cons (pv 2) pa_nil))))))))))), ?_⟩
    have hcount := split_count z
    have hne := split_ne z
    refine ⟨_, rfl, rfl, z, blank, rfl, rfl, by decide, by omega, fun ws hw0 => ?_⟩
    dsimp only [gName]
    have S1 : Same H (upd H ws (.lst ((Txt.split z blank).map V.str))) := Same.lay hw0
    have e1 : upd H ws (.lst ((Txt.split z blank).map V.str)) ws = some (.lst ((Txt.split z blank).map V.str)) := upd_same
    generalize upd H ws (.lst ((Txt.split z blank).map V.str)) = H1 at S1 e1
    refine ⟨_, rfl, z, rfl, hl, hw, fun du H2 hdu S2 => ?_⟩
    dsimp only [gName]
    refine ⟨_, rfl, ws, _, rfl, .inl (SqL.of (S2 _ _ e1)), _, _, rfl, rfl, _, rfl, ite2 (fun e0 => ?ga) (fun e0 => ?gb)⟩
    case' ga =>
      have hduG := hdu
      have SHG := S1.trans S2
      clear e0
    case' gb =>
      have e2 := S2 _ _ e1
      refine ⟨_, rfl, ws, rfl, ⟨_, SqL.of e2⟩, fun acc hacc => ?_⟩
      refine walk_list (xs := (Txt.split z blank).map V.str) (fun i σ H' => ∃ (v : Option V) (ns : List Int), σ = [v] ∧ ns.length = i ∧ H' acc = some (.lst (ns.map V.int)) ∧ Same H2 H') ⟨none, [], rfl, rfl, upd_same, Same.lay hacc⟩ ?_ ?_ ?gc
      · rintro i σ H3 hi ⟨v, ns, rfl, _, ha, S3⟩
        exact SqL.of (S3 _ _ e2)
      · rintro i x σ H3 hx ⟨v, ns, rfl, hn, ha, S3⟩
        obtain ⟨u, hu', rfl⟩ := strs_at hx
        have hi : i < (Txt.split z blank).length := (List.getElem?_eq_some_iff.mp hu').1
        have hul := hw u (List.mem_of_getElem? hu')
        refine ⟨_, rfl, u, rfl, by omega, _, rfl, 1, rfl, u, rfl, by omega, rfl, .inr ⟨_, rfl, _, _, rfl, rfl, _, ha, by rw [List.length_map]; omega, _, ns ++ [_], rfl, by rw [List.length_append, hn]; rfl, by rw [upd_same, List.map_append]; rfl, fun b o e => by rw [upd_ne (ne_of_none e hacc)]; exact S3 _ _ e⟩⟩
      case' gc =>
        rintro σ H3 ⟨v, ns, rfl, hn, ha, S3⟩
        rw [List.length_map] at hn
        have hpos : 0 < ns.length := by rw [hn]; exact List.length_pos_iff.mpr hne
        refine ⟨acc, ns, rfl, SqL.of ha, hpos, fun m H4 hm hmax S4 => ⟨_, _, rfl, rfl, ?_⟩⟩
        dsimp only [gName]
        have S24 := S3.trans S4
        have hduG := hdu.mono S24
        have SHG := (S1.trans S2).trans S24
    all_goals
      refine ⟨_, rfl, _, rfl, ite2 (fun eg => ?_) (fun eg => ?_)⟩
      · rcases hduG with ⟨ea, p, h1, h2⟩ | ⟨ea, h1⟩
        · exact ⟨_, rfl, du, _, 0, _, rfl, rfl, SqT.of h1, rfl, rfl, _, rfl, iteT (k _ SHG)⟩
        · refine ⟨_, rfl, du, _, 0, _, rfl, rfl, SqT.of h1, rfl, rfl, _, rfl, iteF ?_⟩
          have hduG : DueAt _ du z := .inr ⟨ea, h1⟩
          refine ⟨_, rfl, z, rfl, hl, hw, fun t1 G1 ht1 SG1 => ⟨_, rfl, .ref t1, .ref du, rfl, due_alike ht1 (hduG.mono SG1), fun G2 SG2 => ⟨true, rfl, iteT ?_⟩⟩⟩
          have S13 := SG1.trans SG2
          exact ⟨_, rfl, z, rfl, hl, hw, fun t2 G3 ht2 SG3 => ⟨_, rfl, .ref t2, .ref du, rfl, due_alike ht2 (hduG.mono (S13.trans SG3)), fun G4 SG4 => k G4 (SHG.trans (S13.trans (SG3.trans SG4)))⟩⟩
      · refine ⟨_, rfl, z, rfl, hl, hw, fun t1 G1 ht1 SG1 => ⟨_, rfl, .ref t1, .ref du, rfl, due_alike ht1 (hduG.mono SG1), fun G2 SG2 => ⟨true, rfl, iteT ?_⟩⟩⟩
        have S13 := SG1.trans SG2
        exact ⟨_, rfl, z, rfl, hl, hw, fun t2 G3 ht2 SG3 => ⟨_, rfl, .ref t2, .ref du, rfl, due_alike ht2 (hduG.mono (S13.trans SG3)), fun G4 SG4 => k G4 (SHG.trans (S13.trans (SG3.trans SG4)))⟩⟩
end
end My

namespace My
open PySem L2
/-! ### slices, joins: how long words are -/
theorem slice_to (z : Str) {n : Int} (h0 : 0 ≤ n) (h1 : n ≤ z.length) : (StrLaws.sliceText z none (some n)).cps.toList = z.cps.toList.take n.toNat := by
  rw [StrLaws.sliceText_to ⟨h0, by rw [← strlen]; exact h1⟩]
  show ((z.cps.toList.drop 0).take (n - 0).toNat) = _
  rw [List.drop_zero, Int.sub_zero]
theorem slice_from (z : Str) {n : Int} (h0 : 0 ≤ n) (h1 : n ≤ z.length + 1) : (StrLaws.sliceText z (some n) none).cps.toList = z.cps.toList.drop n.toNat := by
  by_cases h : n ≤ z.length
  · rw [StrLaws.sliceText_from ⟨h0, by rw [← strlen]; exact h⟩]
    show ((z.cps.toList.drop n.toNat).take ((z.cps.toList.length : Int) - n).toNat) = _
    rw [List.take_of_length_le (by rw [List.length_drop]; omega)]
  · have hn : n = (z.length : Int) + 1 := by omega
    have e : StrLaws.sliceText z (some n) none = StrLaws.sliceText z (some (z.length : Int)) none := by
      unfold StrLaws.sliceText
      have key : ∀ i : Int, (z.length : Int) ≤ i → Builtin.Str.strSliceIndices (some i) none 1 z.length = Builtin.Str.strSliceIndices (some (z.length : Int)) none 1 z.length := by
        intro i hi
        unfold Builtin.Str.strSliceIndices
        have e0 : ¬ ((z.length : Int) < 0) := by omega
        have e1 : ¬ i < 0 := by omega
        have e2 : max (0 : Int) (min i z.length) = max (0 : Int) (min (z.length : Int) z.length) := by omega
        have e3 : ((1 : Int) > 0) := by decide
        simp only [e0, e1, if_false, e2, e3, if_true]
      have q := key n (by omega)
      rw [q]
    rw [e, StrLaws.sliceText_from ⟨by omega, by rw [← strlen]; omega⟩]
    show ((z.cps.toList.drop ((z.length : Int)).toNat).take ((z.cps.toList.length : Int) - (z.length : Int)).toNat) = _
    rw [List.drop_eq_nil_of_le (by rw [← strlen]; omega), List.drop_eq_nil_of_le (by rw [← strlen]; omega), List.take_nil]
def jl (ws : List Str) : Nat := (ws.map (·.length)).sum + ws.length
theorem joinC_len : ∀ ws : List (List Nat), ws ≠ [] → (joinC ws).length + 1 = (ws.map List.length).sum + ws.length
  | [], h => absurd rfl h
  | [u], _ => by simp [joinC]
  | u :: y :: r, _ => by
    have ih := joinC_len (y :: r) (List.cons_ne_nil _ _)
    show (u ++ 32 :: joinC (y :: r)).length + 1 = _
    rw [List.length_append, List.length_cons, List.map_cons, List.sum_cons, List.length_cons]
    omega
theorem sum_lens (ws : List Str) : (ws.map (·.length)).sum = ((ws.map (·.cps.toList)).map List.length).sum := by
  rw [List.map_map]
  exact congrArg List.sum (List.map_congr_left fun u _ => strlen u)
theorem join_len (ws : List Str) : (Str.join blank ws).length ≤ jl ws := by
  rw [strlen, join_cps]
  unfold jl
  rw [sum_lens]
  by_cases h : ws = []
  · subst h; exact Nat.zero_le _
  · have := joinC_len (ws.map (·.cps.toList)) (by simpa using h)
    rw [List.length_map] at this
    omega
theorem split_jl (z : Str) : jl (Txt.split z blank) = z.length + 1 := by
  have := joinC_len ((Txt.split z blank).map (·.cps.toList)) (by simpa using split_ne z)
  rw [split_cps, List.length_map] at this
  unfold jl
  rw [sum_lens, strlen]
  omega
theorem join_run {m : Nat} {ws : List Str} (h : ∀ u ∈ ws, RunS m u) : RunS m (Str.join blank ws) := by
  unfold RunS
  rw [join_cps]
  refine runs_join _ fun l hl => ?_
  obtain ⟨u, hu, rfl⟩ := List.mem_map.mp hl
  exact h u hu
theorem split_runs {m : Nat} {z : Str} (h : RunS m z) : ∀ u ∈ Txt.split z blank, RunS m u := fun u hu => Run.of_len (by rw [← strlen]; exact split_run h hu)
theorem sum_split {α : Type} (f : α → Nat) (l : List α) (k : Nat) : (l.map f).sum = ((l.take k).map f).sum + ((l.drop k).map f).sum := by
  rw [← List.sum_append, ← List.map_append, List.take_append_drop]
theorem jl_insert (ws : List Str) (k : Nat) (u : Str) : jl (ws.take k ++ u :: ws.drop k) = jl ws + u.length + 1 := by
  unfold jl
  rw [List.map_append, List.sum_append, List.map_cons, List.sum_cons, List.length_append, List.length_cons, List.length_take, List.length_drop, sum_split (·.length) ws k]
  omega
theorem jl_erase : ∀ (ws : List Str) (k : Nat), jl (ws.eraseIdx k) ≤ jl ws
  | [], _ => Nat.le_refl _
  | u :: r, 0 => by
    unfold jl
    rw [List.eraseIdx_cons_zero, List.map_cons, List.sum_cons, List.length_cons]
    omega
  | u :: r, k + 1 => by
    have ih := jl_erase r k
    unfold jl at ih ⊢
    rw [List.eraseIdx_cons_succ, List.map_cons, List.sum_cons, List.length_cons, List.map_cons, List.sum_cons, List.length_cons]
    omega
theorem jl_set : ∀ (ws : List Str) (k : Nat) (u : Str), jl (ws.set k u) ≤ jl ws + u.length
  | [], _, _ => by simp [jl]
  | v :: r, 0, u => by
    unfold jl
    rw [List.set_cons_zero, List.map_cons, List.sum_cons, List.length_cons, List.map_cons, List.sum_cons, List.length_cons]
    omega
  | v :: r, k + 1, u => by
    have ih := jl_set r k u
    unfold jl at ih ⊢
    rw [List.set_cons_succ, List.map_cons, List.sum_cons, List.length_cons, List.map_cons, List.sum_cons, List.length_cons]
    omega
/-- words of at most m signs, at most l signs in all -/
def TB (m l : Nat) (z : Str) : Prop := RunS m z ∧ z.length ≤ l
theorem TB.ok {m l : Nat} {z : Str} (h : TB m l z) (hm : m ≤ 640) (hl : l ≤ 10000) : TxtOk z := ⟨Nat.le_trans h.2 hl, fun u hu => Nat.le_trans (split_run h.1 hu) hm⟩
def spSign : Sp := fun vs H Q _ => ∃ (d c : Addr), vs = [.ref d] ∧ Deck H d c ∧ ∀ (ch : Nat) (H' : Hp), Deck H' d c → Sv d c H H' → Q (.str ⟨#[ch]⟩) H'
def spSpoilt : Sp := fun vs H Q _ => ∃ (d c : Addr) (z : Str) (m l : Nat), vs = [.ref d, .str z] ∧ Deck H d c ∧ TB m l z ∧ 13 ≤ m ∧ m ≤ 200 ∧ l ≤ 8000 ∧ ∀ (z' : Str) (H' : Hp), TB (2 * m + 1) (l + m + 10) z' → Deck H' d c → Sv d c H H' → Q (.str z') H'
theorem app_cps (x y : Str) : (x ++ y).cps.toList = x.cps.toList ++ y.cps.toList := PySem.W.KT.app_list ..
section
variable {P : Program} {w : World} {K : PySem.W.Frag} {mg : Str → Option Value} {base : Heap}
abbrev s_law_sign : Stmt := top 23
theorem sc_law_sign : FnScope ["deck", "wide", "menu"] ["deck"] (defScope s_law_sign) := ⟨rfl, rfl, rfl, by decide +kernel, rfl, by decide +kernel, by decide +kernel⟩
theorem ok_sign {f f1 : Addr} {fd fd1 : FuncData} (F : Fun K "_law_sign" "_law_sign" s_law_sign f fd) (T : Txt mg) (D__law_take : DefAt K mg "_law_take" s_law_take ["deck", "many"] f1 fd1) (G__law_take : FnOk P w K mg base CX0 1 f1 fd1 ["deck", "many"] spTake) : FnOk P w K mg base CX0 2 f fd ["deck"] spSign := by
  refine F.ok sc_law_sign (fun vs H Q E h => ?_) (fun cdv A outer s H vs Q E hr h => ?_)
  · obtain ⟨d, c, rfl, _⟩ := h
    rfl
  · obtain ⟨d, c, rfl, D, k⟩ := h
    have hsl := sizeLine_eq
    refine ⟨_, (pss_cons (ps_set (i := 1) sc_law_sign.nd rfl (Or.inl rfl) pe_str)
      (pss_cons (ps_set (i := 1) sc_law_sign.nd rfl (Or.inl rfl) (pe_op op_add_str (pv 1) pe_str))
      (pss_cons (ps_set (i := 2) sc_law_sign.nd rfl (Or.inl rfl) (pe_ix (ixL (K := K) rfl) (pe_lst (pa_cons pe_str (pa_cons (pv 1) pa_nil))) (pe_call G__law_take (hr.mono (by first | decide | exact Nat.le_refl _)) rfl D__law_take.mg D__law_take.fn.kp D__law_take.bd .nil pass0 (pa_cons (pv 0) (pa_cons pe_int pa_nil))) (fun _ _ => rfl)))
      (pss_one (ps_ret (pe_ix ix_str (pv 2) (pe_call G__law_take (hr.mono (by first | decide | exact Nat.le_refl _)) rfl D__law_take.mg D__law_take.fn.kp D__law_take.bd .nil pass0 (pa_cons (pv 0) (pa_cons (pe_callB call_len_str (by rfl) T.b_len PyProof.Rows.Boot.«len» (pa_cons (pv 2) pa_nil)) pa_nil))) (fun _ _ => rfl))))))), ?_⟩
    refine ⟨_, rfl, _, _, rfl, rfl, by show _ ≤ sizeLine; rw [hsl]; decide, ?_⟩
    dsimp only [gName]
    refine ⟨_, rfl, by show 2 ≤ sizeLine; omega, fun l1 hl1 => ?_⟩
    generalize hA : (Str.ofString "0019 -  +_\n") = mA
    generalize hW : (Str.ofString _ ++ Str.ofString _) = mW
    have lA : 1 ≤ mA.length ∧ mA.length ≤ 200 := by rw [← hA]; decide
    have lW : 1 ≤ mW.length ∧ mW.length ≤ 200 := by rw [← hW]; decide
    obtain ⟨n1, n2⟩ := D.nd hl1
    refine ⟨_, rfl, d, c, 2, rfl, D.lay hl1, by decide, by decide, fun r H1 r0 r1 D1 S1 => ?_⟩
    have h1 := S1 _ _ upd_same n1 n2
    obtain ⟨men, hm, lm⟩ : ∃ men : Str, atI [V.str mA, V.str mW] r = some (.str men) ∧ 1 ≤ men.length ∧ men.length ≤ 200 := by
      have : r = 0 ∨ r = 1 := by omega
      rcases this with rfl | rfl
      · exact ⟨mA, rfl, lA⟩
      · exact ⟨mW, rfl, lW⟩
    refine ⟨l1, _, _, _, rfl, rfl, SqL.of h1, hm, ?_⟩
    dsimp only [gName]
    refine ⟨_, rfl, _, rfl, _, rfl, men, rfl, by omega, d, c, _, rfl, D1, by omega, by omega, fun r2 H2 q0 q1 D2 S2 => ?_⟩
    have hlt : r2.toNat < men.cps.toList.length := by rw [← strlen]; omega
    obtain ⟨ch, hch⟩ : ∃ ch, men.cps.toList[r2.toNat]? = some ch := ⟨_, List.getElem?_eq_getElem hlt⟩
    refine ⟨men, r2, ch, rfl, rfl, by omega, ?_, k _ H2 D2 (((Sv.lay hl1).trans S1).trans S2)⟩
    have e : r2 = ((r2.toNat : Nat) : Int) := by omega
    rw [e]
    exact atI_nat hch
end
end My

namespace My
open PySem L2
theorem erase_map {α β : Type} (f : α → β) : ∀ (l : List α) (n : Nat), (l.map f).eraseIdx n = (l.eraseIdx n).map f
  | [], _ => rfl
  | _ :: _, 0 => rfl
  | a :: l, n + 1 => by rw [List.map_cons, List.eraseIdx_cons_succ, List.eraseIdx_cons_succ, List.map_cons, erase_map f l n]
theorem cut2 {z x y : Str} {m l a b : Nat} (h : TB m l z) (ex : x.cps.toList = z.cps.toList.take a) (ey : y.cps.toList = z.cps.toList.drop b) (hab : a ≤ b) : TB (2 * m + 1) (l + m + 10) (x ++ y) := by
  obtain ⟨h1, h2⟩ := h
  rw [strlen] at h2
  refine ⟨?_, ?_⟩
  · unfold RunS
    rw [app_cps, ex, ey]
    exact (Run.append (h1.take a) (h1.drop b)).mono (by omega)
  · rw [strlen, app_cps, ex, ey, List.length_append, List.length_take, List.length_drop]
    omega
theorem cut3 {z x y : Str} {m l a b ch : Nat} (h : TB m l z) (ex : x.cps.toList = z.cps.toList.take a) (ey : y.cps.toList = z.cps.toList.drop b) (hab : a ≤ b) : TB (2 * m + 1) (l + m + 10) ((x ++ ⟨#[ch]⟩) ++ y) := by
  obtain ⟨h1, h2⟩ := h
  rw [strlen] at h2
  refine ⟨?_, ?_⟩
  · unfold RunS
    rw [app_cps, app_cps, ex, ey]
    exact (Run.append (Run.append (h1.take a) (Run.of_len (m := 1) (Nat.le_refl _))) (h1.drop b)).mono (by omega)
  · rw [strlen, app_cps, app_cps, ex, ey, List.length_append, List.length_append, List.length_take, List.length_drop]
    show _ + 1 + _ ≤ _
    omega
theorem joined {z : Str} {m l : Nat} {ws : List Str} (h : TB m l z) (hr : ∀ u ∈ ws, u ∈ Txt.split z blank ∨ u.length ≤ m) (hj : jl ws ≤ jl (Txt.split z blank) + m + 1) : TB (2 * m + 1) (l + m + 10) (Str.join blank ws) := by
  obtain ⟨h1, h2⟩ := h
  refine ⟨(join_run fun u hu => ?_ : RunS m _).mono (by omega), ?_⟩
  · rcases hr u hu with q | q
    · exact split_runs h1 u q
    · exact Run.of_len (by rw [← strlen]; exact q)
  · have a := join_len ws
    have b := split_jl z
    omega
section
variable {P : Program} {w : World} {K : PySem.W.Frag} {mg : Str → Option Value} {base : Heap}
abbrev s_law_spoilt : Stmt := top 24
theorem sc_law_spoilt : FnScope ["deck", "text", "at", "way", "words", "one", "odd", "word"] ["deck", "text"] (defScope s_law_spoilt) := ⟨rfl, rfl, rfl, by decide +kernel, rfl, by decide +kernel, by decide +kernel⟩
theorem ok_spoilt {f f1 f2 : Addr} {fd fd1 fd2 : FuncData} (F : Fun K "_law_spoilt" "_law_spoilt" s_law_spoilt f fd) (T : Txt mg) (D__law_take : DefAt K mg "_law_take" s_law_take ["deck", "many"] f1 fd1) (G__law_take : FnOk P w K mg base CX0 1 f1 fd1 ["deck", "many"] spTake)
    (D__law_sign : DefAt K mg "_law_sign" s_law_sign ["deck"] f2 fd2) (G__law_sign : FnOk P w K mg base CX0 2 f2 fd2 ["deck"] spSign) : FnOk P w K mg base CX0 3 f fd ["deck", "text"] spSpoilt := by
  refine F.ok sc_law_spoilt (fun vs H Q E h => ?_) (fun cdv A outer s H vs Q E hr h => ?_)
  · obtain ⟨d, c, z, m, l, rfl, _⟩ := h
    rfl
  · obtain ⟨d, c, z, m, l, rfl, D, ⟨hrun, hlen⟩, m0, m1, l1, k⟩ := h
    have hsl := sizeLine_eq
    refine ⟨_, (pss_cons (ps_set (i := 2) sc_law_spoilt.nd rfl (Or.inl rfl) (pe_call G__law_take (hr.mono (by first | decide | exact Nat.le_refl _)) rfl D__law_take.mg D__law_take.fn.kp D__law_take.bd .nil pass0 (pa_cons (pv 0) (pa_cons (pe_op op_add (pe_callB call_len_str (by rfl) T.b_len PyProof.Rows.Boot.«len» (pa_cons (pv 1) pa_nil)) pe_int) pa_nil))))
      (pss_cons (ps_set (i := 3) sc_law_spoilt.nd rfl (Or.inl rfl) (pe_call G__law_take (hr.mono (by first | decide | exact Nat.le_refl _)) rfl D__law_take.mg D__law_take.fn.kp D__law_take.bd .nil pass0 (pa_cons (pv 0) (pa_cons pe_int pa_nil))))
      (pss_cons (ps_set (i := 4) sc_law_spoilt.nd rfl (Or.inl rfl) (pe_bm PySem.F.plainAttrs_str PySem.F.slot_str_split PySem.F.type_str_split mt_split (pv 1) (pa_cons pe_str pa_nil)))
      (pss_cons (ps_set (i := 5) sc_law_spoilt.nd rfl (Or.inl rfl) (pe_call G__law_take (hr.mono (by first | decide | exact Nat.le_refl _)) rfl D__law_take.mg D__law_take.fn.kp D__law_take.bd .nil pass0 (pa_cons (pv 0) (pa_cons (pe_callB (cLen (K := K) rfl) (by rfl) T.b_len PyProof.Rows.Boot.«len» (pa_cons (pv 4) pa_nil)) pa_nil))))
      (@pss_cons _ _ _ _ _ (@ps_set _ _ 6 _ _ _ _ sc_law_spoilt.nd rfl (Or.inl rfl) (@pe_lst _ _ _ _ (@pa_strs _ _ ["0", "-0", "-1", "01", "-01", "+1", "", "-", "--1", "1_0", "1.0", "1e5", "x", "7", "1-", "00", "-00"] rfl)) rfl (Or.inl rfl))
      (pss_cons (ps_set (i := 7) sc_law_spoilt.nd rfl (Or.inl rfl) (pe_ix (ixL (K := K) rfl) (pe_op op_cat (pv 6) (pe_lst (pa_cons (pe_callTy call_str_int (by rfl) T.b_str PyProof.Rows.Boot.«str» (pa_cons (pe_call G__law_take (hr.mono (by first | decide | exact Nat.le_refl _)) rfl D__law_take.mg D__law_take.fn.kp D__law_take.bd .nil pass0 (pa_cons (pv 0) (pa_cons (pe_op op_pow pe_int pe_int) pa_nil))) pa_nil)) pa_nil))) (pe_call G__law_take (hr.mono (by first | decide | exact Nat.le_refl _)) rfl D__law_take.mg D__law_take.fn.kp D__law_take.bd .nil pass0 (pa_cons (pv 0) (pa_cons pe_int pa_nil))) (fun _ _ => rfl)))
      (pss_cons (ps_if (pt_cmpR op_eq (pv 3) pe_int (nomark _))
        (pss_one (ps_ret (pe_op op_add_str (pe_slice sl_str (pv 1) po_none (po_some (pv 2))) (pe_slice sl_str (pv 1) (po_some (pe_op op_add (pv 2) pe_int)) po_none))))
        pss_nil)
      (pss_cons (ps_if (pt_cmpR op_eq (pv 3) pe_int (nomark _))
        (pss_one (ps_ret (pe_op op_add_str (pe_op op_add_str (pe_slice sl_str (pv 1) po_none (po_some (pv 2))) (pe_call G__law_sign (hr.mono (by first | decide | exact Nat.le_refl _)) rfl D__law_sign.mg D__law_sign.fn.kp D__law_sign.bd .nil pass0 (pa_cons (pv 0) pa_nil))) (pe_slice sl_str (pv 1) (po_some (pv 2)) po_none))))
        pss_nil)
      (pss_cons (ps_if (pt_cmpR op_eq (pv 3) pe_int (nomark _))
        (pss_one (ps_ret (pe_op op_add_str (pe_op op_add_str (pe_slice sl_str (pv 1) po_none (po_some (pv 2))) (pe_call G__law_sign (hr.mono (by first | decide | exact Nat.le_refl _)) rfl D__law_sign.mg D__law_sign.fn.kp D__law_sign.bd .nil pass0 (pa_cons (pv 0) pa_nil))) (pe_slice sl_str (pv 1) (po_some (pe_op op_add (pv 2) pe_int)) po_none))))
        pss_nil)
      (pss_cons (ps_if (pt_cmpR op_eq (pv 3) pe_int (nomark _))
        (pss_one (ps_expr (pe_bm PySem.F.plainAttrs_list PySem.F.slot_list_insert PySem.F.type_list_insert mt_insert (pv 4) (pa_cons (pe_call G__law_take (hr.mono (by first | decide | exact Nat.le_refl _)) rfl D__law_take.mg D__law_take.fn.kp D__law_take.bd .nil pass0 (pa_cons (pv 0) (pa_cons (pe_op op_add (pe_callB (cLen (K := K) rfl) (by rfl) T.b_len PyProof.Rows.Boot.«len» (pa_cons (pv 4) pa_nil)) pe_int) pa_nil))) (pa_cons (pv 7) pa_nil)))))
        (pss_one (ps_if (pt_cmpR op_eq (pv 3) pe_int (nomark _))
          (pss_one (ps_expr (pe_bm PySem.F.plainAttrs_list PySem.F.slot_list_pop PySem.F.type_list_pop mt_popAt (pv 4) (pa_cons (pv 5) pa_nil))))
          (pss_one (ps_if (pt_cmpR op_eq (pv 3) pe_int (nomark _))
            (pss_one (ps_asg (pv 7) (pg_sub (pv 4) (pv 5) set_list)))
            (pss_one (ps_expr (pe_bm PySem.F.plainAttrs_list PySem.F.slot_list_insert PySem.F.type_list_insert mt_insert (pv 4) (pa_cons (pe_call G__law_take (hr.mono (by first | decide | exact Nat.le_refl _)) rfl D__law_take.mg D__law_take.fn.kp D__law_take.bd .nil pass0 (pa_cons (pv 0) (pa_cons (pe_op op_add (pe_callB (cLen (K := K) rfl) (by rfl) T.b_len PyProof.Rows.Boot.«len» (pa_cons (pv 4) pa_nil)) pe_int) pa_nil))) (pa_cons (pe_ix (ixL (K := K) rfl) (pv 4) (pv 5) (fun _ _ => rfl)) pa_nil))))))))))
      (pss_one (ps_ret (pe_bm PySem.F.plainAttrs_str PySem.F.slot_str_join PySem.F.type_str_join mt_join pe_str (pa_cons (pv 4) pa_nil)))))))))))))), ?_⟩
    refine ⟨_, rfl, _, rfl, z, rfl, by omega, _, _, rfl, rfl, d, c, _, rfl, D, by omega, by omega, fun at' H1 a0 a1 D1 S1 => ?_⟩
    dsimp only [gName]
    refine ⟨_, rfl, d, c, 7, rfl, D1, by decide, by decide, fun way H2 w0 w1 D2 S2 => ?_⟩
    dsimp only [gName]
    have hcount := split_count z
    have hne := List.length_pos_iff.mpr (split_ne z)
    refine ⟨_, rfl, rfl, z, blank, rfl, rfl, by decide, by omega, fun ws hws => ?_⟩
    dsimp only [gName]
    obtain ⟨n1, n2⟩ := D2.nd hws
    have D3 := D2.lay (o := .lst ((Txt.split z blank).map V.str)) hws
    have S3 : Sv d c H2 (upd H2 ws (.lst ((Txt.split z blank).map V.str))) := Sv.lay hws
    have ew : upd H2 ws (.lst ((Txt.split z blank).map V.str)) ws = some (.lst ((Txt.split z blank).map V.str)) := upd_same
    have fr : ∀ b o, H b = some o → b ≠ d → b ≠ c → b ≠ ws := fun b o e x1 x2 => ne_of_none (S2 _ _ (S1 _ _ e x1 x2) x1 x2) hws
    generalize upd H2 ws (.lst ((Txt.split z blank).map V.str)) = H3 at D3 S3 ew
    have S13 := (S1.trans S2).trans S3
    refine ⟨_, rfl, _, rfl, ws, _, rfl, .inl (SqL.of ew), d, c, _, rfl, D3, by rw [List.length_map]; omega, by rw [List.length_map]; omega, fun one H4 o0 o1 D4 S4 => ?_⟩
    rw [List.length_map] at o1
    dsimp only [gName]
    have ew4 := S4 _ _ ew n1 n2
    -- odd
    refine ⟨by show 17 ≤ sizeLine; omega, fun od hod => ?_⟩
    dsimp only [gName]
    generalize hO : ([("0" : Str), "-0", "-1", "01", "-01", "+1", "", "-", "--1", "1_0", "1.0", "1e5", "x", "7", "1-", "00", "-00"] : List Str) = os
    have ol : os.length = 17 := by rw [← hO]; rfl
    have ou : ∀ u ∈ os, u.length ≤ 6 := by rw [← hO]; decide
    clear hO
    obtain ⟨p1, p2⟩ := D4.nd hod
    have D5 := D4.lay (o := .lst (os.map V.str)) hod
    have S5 : Sv d c H4 (upd H4 od (.lst (os.map V.str))) := Sv.lay hod
    have eo : upd H4 od (.lst (os.map V.str)) od = some (.lst (os.map V.str)) := upd_same
    generalize upd H4 od (.lst (os.map V.str)) = H5 at D5 S5 eo
    refine ⟨_, rfl, _, rfl, _, _, rfl, rfl, ⟨by decide, by decide, by decide⟩, d, c, _, rfl, D5, by decide, by decide, fun nn H6 q0 q1 D6 S6 => ?_⟩
    have hlog : nn.natAbs.log2 < 1920 := by
      by_cases h0 : nn.natAbs = 0
      · rw [h0]; decide
      · exact Nat.lt_trans ((Nat.log2_lt h0).mpr (show nn.natAbs < 2 ^ 64 by have : nn < 1000000 := q1; omega)) (by decide)
    have hnl : (numS nn).length ≤ 7 := numS_len (k := 6) (by decide) (by have : nn < 1000000 := q1; omega)
    refine ⟨nn, rfl, hlog, by show 1 ≤ sizeLine; omega, fun la hla => ?_⟩
    have eS : (Str.ofString (toString nn)) = numS nn := rfl
    rw [eS]
    obtain ⟨p3, p4⟩ := D6.nd hla
    have D7 := D6.lay (o := .lst [.str (numS nn)]) hla
    have S7 : Sv d c H6 (upd H6 la (.lst [.str (numS nn)])) := Sv.lay hla
    have ea : upd H6 la (.lst [.str (numS nn)]) la = some (.lst [.str (numS nn)]) := upd_same
    generalize upd H6 la (.lst [.str (numS nn)]) = H7 at D7 S7 ea
    refine ⟨od, la, _, _, rfl, rfl, S7 _ _ (S6 _ _ eo p1 p2) p1 p2, ea, by rw [List.length_map, ol]; show 17 + 1 ≤ sizeLine; omega, fun lb hlb => ?_⟩
    obtain ⟨p5, p6⟩ := D7.nd hlb
    have D8 := D7.lay (o := .lst (os.map V.str ++ [.str (numS nn)])) hlb
    have S8 : Sv d c H7 (upd H7 lb (.lst (os.map V.str ++ [.str (numS nn)]))) := Sv.lay hlb
    have eb : upd H7 lb (.lst (os.map V.str ++ [.str (numS nn)])) lb = some (.lst (os.map V.str ++ [.str (numS nn)])) := upd_same
    generalize upd H7 lb (.lst (os.map V.str ++ [.str (numS nn)])) = H8 at D8 S8 eb
    refine ⟨_, rfl, d, c, 18, rfl, D8, by decide, by decide, fun ix H9 i0 i1 D9 S9 => ?_⟩
    have eb9 := S9 _ _ eb p5 p6
    have S49 := S5.trans (S6.trans (S7.trans (S8.trans S9)))
    have ew9 := S49 _ _ ew4 n1 n2
    obtain ⟨u, hu, hul⟩ : ∃ u : Str, atI (os.map V.str ++ [.str (numS nn)]) ix = some (.str u) ∧ u.length ≤ 7 := by
      have e : os.map V.str ++ [.str (numS nn)] = (os ++ [numS nn]).map V.str := by rw [List.map_append]; rfl
      have hlt : ix.toNat < (os ++ [numS nn]).length := by rw [List.length_append, ol]; show _ < 17 + 1; omega
      refine ⟨(os ++ [numS nn])[ix.toNat], ?_, ?_⟩
      · have e2 : atI ((os ++ [numS nn]).map V.str) ((ix.toNat : Nat) : Int) = some (.str (os ++ [numS nn])[ix.toNat]) := atI_nat (by rw [List.getElem?_map, List.getElem?_eq_getElem hlt]; rfl)
        rw [e, ← e2]
        congr 1
        omega
      · rcases List.mem_append.mp (List.getElem_mem hlt) with q | q
        · have := ou _ q; omega
        · rw [List.mem_singleton.mp q]; exact hnl
    refine ⟨lb, _, _, _, rfl, rfl, SqL.of eb9, hu, ?_⟩
    dsimp only [gName]
    have S09 : Sv d c H H9 := S13.trans (S4.trans S49)
    have TBz : TB m l z := ⟨hrun, hlen⟩
    have hsp := split_jl z
    have cl : ∀ a b : Option Int, (StrLaws.sliceText z a b).length ≤ z.length := fun a b => Txt.slice_le z _ _
    clear hu eb9 eb eo ea hod hla hlb S5 S6 S7 S8 S9 D5 D6 D7 D8
    refine ⟨_, rfl, rfl, _, rfl, ite2 (fun e => ?_) (fun e => ?_)⟩
    · refine ⟨_, rfl, _, rfl, at', rfl, z, rfl, by omega, _, rfl, _, rfl, _, _, rfl, rfl, _, rfl, z, rfl, by omega, _, _, rfl, rfl, ?_, k _ H9 (cut2 TBz (slice_to z a0 (by omega)) (slice_from z (by omega) (by omega)) (by omega)) D9 S09⟩
      have := cl none (some at')
      have := cl (some (at' + 1)) none
      omega
    refine ⟨_, rfl, rfl, _, rfl, ite2 (fun e => ?_) (fun e => ?_)⟩
    · refine ⟨_, rfl, _, rfl, at', rfl, z, rfl, by omega, _, rfl, d, c, rfl, D9, fun ch H10 D10 S10 => ⟨_, _, rfl, rfl, ?_, _, rfl, _, rfl, at', rfl, z, rfl, by omega, _, _, rfl, rfl, ?_, k _ H10 (cut3 TBz (slice_to z a0 (by omega)) (slice_from z a0 (by omega)) (Nat.le_refl _)) D10 (S09.trans S10)⟩⟩
      · have := cl none (some at')
        show _ + 1 ≤ _
        omega
      · have h1 := cl none (some at')
        have h2 := cl (some at') none
        have h3 : (StrLaws.sliceText z none (some at') ++ (⟨#[ch]⟩ : Str)).length = (StrLaws.sliceText z none (some at')).length + 1 := by rw [strlen, app_cps, List.length_append, ← strlen]; rfl
        omega
    refine ⟨_, rfl, rfl, _, rfl, ite2 (fun e => ?_) (fun e => ?_)⟩
    · refine ⟨_, rfl, _, rfl, at', rfl, z, rfl, by omega, _, rfl, d, c, rfl, D9, fun ch H10 D10 S10 => ⟨_, _, rfl, rfl, ?_, _, rfl, _, rfl, _, _, rfl, rfl, _, rfl, z, rfl, by omega, _, _, rfl, rfl, ?_, k _ H10 (cut3 TBz (slice_to z a0 (by omega)) (slice_from z (by omega) (by omega)) (by omega)) D10 (S09.trans S10)⟩⟩
      · have := cl none (some at')
        show _ + 1 ≤ _
        omega
      · have h1 := cl none (some at')
        have h2 := cl (some (at' + 1)) none
        have h3 : (StrLaws.sliceText z none (some at') ++ (⟨#[ch]⟩ : Str)).length = (StrLaws.sliceText z none (some at')).length + 1 := by rw [strlen, app_cps, List.length_append, ← strlen]; rfl
        omega
    have fin : ∀ (us : List Str) (G : Hp), (∀ v ∈ us, v ∈ Txt.split z blank ∨ v.length ≤ m) → jl us ≤ jl (Txt.split z blank) + m + 1 → Deck G d c → Sv d c H G → (us.map (·.length)).sum + us.length * blank.length ≤ sizeLine ∧ Q (.str (Str.join blank us)) G := fun us G h1 h2 h3 h4 => by
      refine ⟨?_, k _ G (joined TBz h1 h2) h3 h4⟩
      have h5 : blank.length = 1 := rfl
      unfold jl at h2 hsp
      rw [h5, Nat.mul_one]
      omega
    have wr : ∀ (G : Hp) (o : L2.HO), Sv d c H G → Sv d c H (upd G ws o) := fun G o s b ob eb x1 x2 => by
      rw [upd_ne (fr b ob eb x1 x2)]
      exact s b ob eb x1 x2
    have hlm : ((Txt.split z blank).map V.str).length = (Txt.split z blank).length := List.length_map _
    have ins : ∀ (v : Str) (n : Nat), (((Txt.split z blank).map V.str).take n ++ V.str v :: ((Txt.split z blank).map V.str).drop n) = ((Txt.split z blank).take n ++ v :: (Txt.split z blank).drop n).map V.str := fun v n => by
      rw [List.map_append, List.map_cons, List.map_take, List.map_drop]
    have insm : ∀ (v : Str) (n : Nat), (v ∈ Txt.split z blank ∨ v.length ≤ m) → ∀ x ∈ (Txt.split z blank).take n ++ v :: (Txt.split z blank).drop n, x ∈ Txt.split z blank ∨ x.length ≤ m := fun v n hv x hx => by
      rcases List.mem_append.mp hx with q | q
      · exact .inl (List.mem_of_mem_take q)
      · rcases List.mem_cons.mp q with rfl | q
        · exact hv
        · exact .inl (List.mem_of_mem_drop q)
    have hone : one.toNat < (Txt.split z blank).length := by omega
    have e1 : one = ((one.toNat : Nat) : Int) := by omega
    refine ⟨_, rfl, rfl, _, rfl, ite2 (fun e => ?_) (fun e => ?_)⟩
    · refine ⟨_, rfl, .inl ⟨rfl, _, SqL.of ew9⟩, _, rfl, _, rfl, ws, _, rfl, .inl (SqL.of ew9), _, _, rfl, rfl, d, c, _, rfl, D9, by omega, by omega, fun r H10 r0 r1 D10 S10 => ?_⟩
      have f := fin ((Txt.split z blank).take r.toNat ++ u :: (Txt.split z blank).drop r.toNat) (upd H10 ws (.lst (((Txt.split z blank).take r.toNat ++ u :: (Txt.split z blank).drop r.toNat).map V.str))) (insm u _ (.inr (by omega))) (by rw [jl_insert]; omega) (D10.wr n1 n2) (wr _ _ (S09.trans S10))
      refine ⟨_, rfl, ws, _, r, .str u, rfl, rfl, S10 _ _ ew9 n1 n2, r0, by omega, by omega, ?_⟩
      rw [ins]
      exact ⟨rfl, _, rfl, blank, ws, _, rfl, rfl, upd_same, f.1, f.2⟩
    refine ⟨_, rfl, rfl, _, rfl, ite2 (fun e => ?_) (fun e => ?_)⟩
    · have f := fin ((Txt.split z blank).eraseIdx one.toNat) (upd H9 ws (.lst (((Txt.split z blank).eraseIdx one.toNat).map V.str))) (fun v hv => .inl (List.mem_of_mem_eraseIdx hv)) (by have := jl_erase (Txt.split z blank) one.toNat; omega) (D9.wr n1 n2) (wr _ _ S09)
      refine ⟨_, rfl, .inl ⟨rfl, _, SqL.of ew9⟩, _, rfl, ws, _, one, one.toNat, .str (Txt.split z blank)[one.toNat], rfl, rfl, ew9, by omega, by omega, ?_, by rw [List.getElem?_map, List.getElem?_eq_getElem hone]; rfl, ?_⟩
      · rw [hlm]
        exact StrLaws.seqIndex_nonneg (by omega) (by omega)
      · rw [erase_map]
        exact ⟨rfl, _, rfl, blank, ws, _, rfl, rfl, upd_same, f.1, f.2⟩
    refine ⟨_, rfl, rfl, _, rfl, ite2 (fun e => ?_) (fun e => ?_)⟩
    · have f := fin ((Txt.split z blank).set one.toNat u) (upd H9 ws (.lst (((Txt.split z blank).set one.toNat u).map V.str))) (fun v hv => by
        rcases List.mem_or_eq_of_mem_set hv with q | q
        · exact .inl q
        · rw [q]; exact .inr (by omega)) (by have := jl_set (Txt.split z blank) one.toNat u; omega) (D9.wr n1 n2) (wr _ _ S09)
      refine ⟨_, rfl, _, rfl, _, rfl, ws, _, one, one.toNat, rfl, rfl, ew9, by rw [e1, hlm]; exact ixN_nat hone, ?_⟩
      rw [← List.map_set]
      exact ⟨rfl, _, rfl, blank, ws, _, rfl, rfl, upd_same, f.1, f.2⟩
    · refine ⟨_, rfl, .inl ⟨rfl, _, SqL.of ew9⟩, _, rfl, _, rfl, ws, _, rfl, .inl (SqL.of ew9), _, _, rfl, rfl, d, c, _, rfl, D9, by omega, by omega, fun r H10 r0 r1 D10 S10 => ?_⟩
      have ew10 := S10 _ _ ew9 n1 n2
      obtain ⟨v, hv0⟩ : ∃ v, (Txt.split z blank)[one.toNat]? = some v := ⟨_, List.getElem?_eq_getElem hone⟩
      have hv := List.mem_of_getElem? hv0
      have f := fin ((Txt.split z blank).take r.toNat ++ v :: (Txt.split z blank).drop r.toNat) (upd H10 ws (.lst (((Txt.split z blank).take r.toNat ++ v :: (Txt.split z blank).drop r.toNat).map V.str))) (insm _ _ (.inl hv)) (by rw [jl_insert]; have := split_run hrun hv; omega) (D10.wr n1 n2) (wr _ _ (S09.trans S10))
      refine ⟨_, rfl, _, rfl, ws, _, one, .str v, rfl, rfl, SqL.of ew10, by rw [e1]; exact atI_nat (by rw [List.getElem?_map, hv0]; rfl), ws, _, r, _, rfl, rfl, ew10, r0, by omega, by omega, ?_⟩
      rw [ins]
      exact ⟨rfl, _, rfl, blank, ws, _, rfl, rfl, upd_same, f.1, f.2⟩
end
end My

namespace My
open PySem L2
theorem tb_row {ns : List Int} (hl : ns.length ≤ 60) (hb : ∀ n ∈ ns, n.natAbs < 10 ^ 15) : TB 16 1100 (shown ns) := by
  refine ⟨join_run fun u hu => ?_, ?_⟩
  · obtain ⟨n, hn, rfl⟩ := List.mem_map.mp hu
    exact Run.of_len (by rw [← strlen]; exact numS_len (k := 15) (by decide) (hb n hn))
  · have := shown_len hb
    omega
theorem join0_len : ∀ ws : List Str, (Str.join ("" : Str) ws).length = (ws.map (·.length)).sum
  | [] => rfl
  | [u] => by simp [Str.join]
  | u :: y :: r => by
    have e : Str.join ("" : Str) (u :: y :: r) = u ++ ("" : Str) ++ Str.join ("" : Str) (y :: r) := rfl
    have e2 : ("" : Str).cps.toList = [] := by decide
    have ih := join0_len (y :: r)
    rw [e, strlen, app_cps, app_cps, e2, List.append_nil, List.length_append, ← strlen, ← strlen, ih]
    simp
theorem ones_len (cs : List Nat) : ((cs.map fun c => (⟨#[c]⟩ : Str)).map (·.length)).sum = cs.length := by
  induction cs with
  | nil => rfl
  | cons c r ih => rw [List.map_cons, List.map_cons, List.sum_cons, ih, List.length_cons]; show 1 + _ = _; omega
theorem txt_free {cs : List Nat} (h : cs.length ≤ 300) : TxtOk (Str.join ("" : Str) (cs.map fun c => (⟨#[c]⟩ : Str))) := by
  have hl : (Str.join ("" : Str) (cs.map fun c => (⟨#[c]⟩ : Str))).length ≤ 300 := by rw [join0_len, ones_len]; exact h
  exact ⟨by omega, fun u hu => by have := word_len hu; omega⟩
theorem txt_nil : TxtOk ("" : Str) := by
  have e : ("" : Str).length = 0 := by decide
  exact ⟨by omega, fun u hu => by have := word_len hu; omega⟩
def fkk (k : Nat) (i : Nat) : List V := (List.range i).map fun (j : Nat) => V.bl (decide (V.int (0 + (k : Int)) = V.int (0 + (j : Int))))
theorem flags_are : ∀ k, k < 5 → flagsV k = fkk k 7 := by
  intro k hk
  have : k = 0 ∨ k = 1 ∨ k = 2 ∨ k = 3 ∨ k = 4 := by omega
  rcases this with rfl | rfl | rfl | rfl | rfl <;> decide
theorem EqD.bools {K : PySem.W.Frag} {H : Hp} {n : Nat} {p q : Addr} {xs : List V} (hf : xs.all flatV = true) (hp : H p = some (.lst xs)) (hq : H q = some (.lst xs)) : EqD K H (n + 1) (.ref p) (.ref q) true :=
  EqD.seq (c := false) (SqL.of hp) (SqL.of hq) rfl fun j x y h1 h2 => by
    rw [h1] at h2
    cases h2
    have hx := List.all_eq_true.mp hf x (List.mem_of_getElem? h1)
    have := EqD.flat (K := K) (H := H) (n := n) hx hx
    have e : eqV x x = true := by
      have := eqVs_refl (xs := [x]) (by simpa using hx)
      simpa [eqVs] using this
    rw [e] at this
    exact this
theorem pmapM {α β : Type} {F G : α → β → Prop} {l : List α} {m : List β} (h : Paired F l m) (k : ∀ a b, a ∈ l → F a b → G a b) : Paired G l m := by
  induction h with
  | nil => exact .nil
  | cons r t ih => exact .cons (k _ _ (List.mem_cons_self ..) r) (ih fun a b ha => k a b (List.mem_cons_of_mem _ ha))
def spLaw (K : PySem.W.Frag) : Sp := fun vs H Q _ => ∃ (a : Addr) (ns : List Int), vs = [.ref a] ∧ SqL K H a (ns.map V.int) ∧ ns.length ≤ 63 ∧ ∀ H', Q (.bl true) H'
section
variable {P : Program} {w : World} {K : PySem.W.Frag} {mg : Str → Option Value} {base : Heap} {S Tx St Rs Pl Ak : Addr}
abbrev s_law : Stmt := top 25
theorem sc_law : FnScope ["script", "deck", "turn", "text", "again", "once", "free", "errors"] ["script"] (defScope s_law) := ⟨rfl, rfl, rfl, by decide +kernel, rfl, by decide +kernel, by decide +kernel⟩
theorem ok_law {f f1 f2 f3 f4 f5 f6 f7 f8 f9 f10 f11 f12 f13 : Addr} {fd fd1 fd2 fd3 fd4 fd5 fd6 fd7 fd8 fd9 fd10 fd11 fd12 fd13 : FuncData} {tF : Tok} (F : Fun K "law" "law" s_law f fd) (T : Txt mg)
    (C_FIGURES : mg "FIGURES" = some (.str c_FIGURES tF))
    (X_SumError : XSp K mg "SumError" S) (X_NoText : XRz K mg "NoText" Tx) (X_NoStretch : XRz K mg "NoStretch" St) (X_NoRest : XRz K mg "NoRest" Rs) (X_NoPlace : XRz K mg "NoPlace" Pl) (X_NoAsk : XRz K mg "NoAsk" Ak) (XR : XRel K S Tx St Rs Pl Ak)
    (D_read_row : DefAt K mg "read_row" s_read_row ["text"] f1 fd1) (D_is_number : DefAt K mg "is_number" s_is_number ["word"] f2 fd2)
    (D__law_deck : DefAt K mg "_law_deck" s_law_deck ["script"] f3 fd3) (D__law_take : DefAt K mg "_law_take" s_law_take ["deck", "many"] f4 fd4) (D__law_some_number : DefAt K mg "_law_some_number" s_law_some_number ["deck", "kind"] f5 fd5) (D__law_row : DefAt K mg "_law_row" s_law_row ["deck", "most"] f6 fd6)
    (D__law_flags : DefAt K mg "_law_flags" s_law_flags ["thing"] f7 fd7) (D__law_same : DefAt K mg "_law_same" s_law_same ["found", "due"] f8 fd8) (D__law_number_in : DefAt K mg "_law_number_in" s_law_number_in ["word"] f9 fd9) (D__law_due : DefAt K mg "_law_due" s_law_due ["text"] f10 fd10)
    (D__law_told : DefAt K mg "_law_told" s_law_told ["text"] f11 fd11) (D__law_right : DefAt K mg "_law_right" s_law_right ["text"] f12 fd12) (D__law_sign : DefAt K mg "_law_sign" s_law_sign ["deck"] f13 fd13) {f14 : Addr} {fd14 : FuncData} (D__law_spoilt : DefAt K mg "_law_spoilt" s_law_spoilt ["deck", "text"] f14 fd14) : FnOk P w K mg base CX0 5 f fd ["script"] (spLaw K) := by
  have G_is_number : FnOk P w K mg base CX0 1 f2 fd2 ["word"] spIsNum := ok_is_number D_is_number.fn T C_FIGURES
  have G_read_row : FnOk P w K mg base CX0 2 f1 fd1 ["text"] spRead := ok_read_row D_read_row.fn T D_is_number G_is_number
  have B_read_row : FnOk P w K mg base (CXx P w) 2 f1 fd1 ["text"] (spReadB Tx) := bad_read_row D_read_row.fn T D_is_number G_is_number X_NoText
  have G__law_deck : FnOk P w K mg base CX0 1 f3 fd3 ["script"] (spDeck K) := ok_deck D__law_deck.fn T
  have G__law_take : FnOk P w K mg base CX0 1 f4 fd4 ["deck", "many"] spTake := ok_take D__law_take.fn T
  have G__law_row : FnOk P w K mg base CX0 3 f6 fd6 ["deck", "most"] spRow := ok_row D__law_row.fn T D__law_take D__law_some_number
  have G__law_flags : FnOk P w K mg base CX0 1 f7 fd7 ["thing"] (spFlags K S Tx St Rs Pl Ak) := ok_flags D__law_flags.fn T X_SumError X_NoText X_NoStretch X_NoRest X_NoPlace X_NoAsk
  have G__law_same : FnOk P w K mg base CX0 3 f8 fd8 ["found", "due"] (spSame 2) := ok_same T D__law_same 2
  have G__law_number_in : FnOk P w K mg base CX0 1 f9 fd9 ["word"] spNumIn := ok_number_in D__law_number_in.fn T
  have G__law_due : FnOk P w K mg base CX0 2 f10 fd10 ["text"] spDue2 := ok_due D__law_due.fn T D__law_number_in G__law_number_in
  have G__law_told : FnOk P w K mg base CX0 3 f11 fd11 ["text"] spDue2 := ok_told D__law_told.fn T X_SumError X_NoText XR D_read_row G_read_row B_read_row D__law_flags G__law_flags
  have G__law_right : FnOk P w K mg base CX0 4 f12 fd12 ["text"] spRightT := ok_right D__law_right.fn T D__law_due G__law_due D__law_told G__law_told D__law_same G__law_same
  have G__law_sign : FnOk P w K mg base CX0 2 f13 fd13 ["deck"] spSign := ok_sign D__law_sign.fn T D__law_take G__law_take
  have G__law_spoilt : FnOk P w K mg base CX0 3 f14 fd14 ["deck", "text"] spSpoilt := ok_spoilt D__law_spoilt.fn T D__law_take G__law_take D__law_sign G__law_sign
  refine F.ok sc_law (fun vs H Q E h => ?_) (fun cdv A outer s H vs Q E hr h => ?_)
  · obtain ⟨a, ns, rfl, _⟩ := h
    rfl
  · obtain ⟨a, scr, rfl, hS, hlen, k⟩ := h
    have hu := hr.units0
    have hu64 := hr.units
    have hsl := sizeLine_eq
    refine ⟨_, (pss_cons (ps_set (i := 1) sc_law.nd rfl (Or.inr rfl) (pe_call G__law_deck (hr.mono (by first | decide | exact Nat.le_refl _)) rfl D__law_deck.mg D__law_deck.fn.kp D__law_deck.bd .nil pass0 (pa_cons (pv 0) pa_nil)))
      (pss_cons (ps_for PassesOwn.never rfl (pi_range1 (by rfl) T.b_range (pa_cons pe_int pa_nil)) (pg_name (i := 2) sc_law.nd rfl (Or.inl rfl))
        (pss_cons (ps_set (i := 3) sc_law.nd rfl (Or.inl rfl) (pe_bm PySem.F.plainAttrs_str PySem.F.slot_str_join PySem.F.type_str_join mt_join pe_str (pa_cons (pe_comp (N := ["number"]) (cap := [none]) rfl (show blkOk ["script", "deck", "turn", "text", "again", "once", "free", "errors"] (defScope s_law) ["number"] [none] _ = true by decide +kernel) (piT (K := K) rfl (pe_call G__law_row (hr.mono (by first | decide | exact Nat.le_refl _)) rfl D__law_row.mg D__law_row.fn.kp D__law_row.bd .nil pass0 (pa_cons (pv 1) (pa_cons pe_int pa_nil)))) (fun cl C s3 H3 fp => ⟨(pg_name (i := 0) (show (["number"] : List Str).Nodup by decide +kernel) rfl (Or.inl rfl)), pts_nil, fun it acc => (paf_emit rfl (pe_callTy call_str_int (by rfl) T.b_str PyProof.Rows.Boot.«str» (pa_cons (pv 0) pa_nil)))⟩)) pa_nil)))
        (pss_one (ps_for PassesOwn.never rfl (pi_range1 (by rfl) T.b_range (pa_cons pe_int pa_nil)) (pg_name (i := 4) sc_law.nd rfl (Or.inl rfl))
          (pss_cons (ps_set (i := 5) sc_law.nd rfl (Or.inl rfl) (pe_call G__law_spoilt (hr.mono (by first | decide | exact Nat.le_refl _)) rfl D__law_spoilt.mg D__law_spoilt.fn.kp D__law_spoilt.bd .nil pass0 (pa_cons (pv 1) (pa_cons (pv 3) pa_nil))))
          (pss_one (ps_if (PW.pt (pw_or (pt_not (pt_val (pe_call G__law_right (hr.mono (by first | decide | exact Nat.le_refl _)) rfl D__law_right.mg D__law_right.fn.kp D__law_right.bd .nil pass0 (pa_cons (pv 3) pa_nil)))) (pw_or (pt_not (pt_val (pe_call G__law_right (hr.mono (by first | decide | exact Nat.le_refl _)) rfl D__law_right.mg D__law_right.fn.kp D__law_right.bd .nil pass0 (pa_cons (pv 5) pa_nil)))) (pw_or1 (pt_not (pt_val (pe_call G__law_right (hr.mono (by first | decide | exact Nat.le_refl _)) rfl D__law_right.mg D__law_right.fn.kp D__law_right.bd .nil pass0 (pa_cons (pe_call G__law_spoilt (hr.mono (by first | decide | exact Nat.le_refl _)) rfl D__law_spoilt.mg D__law_spoilt.fn.kp D__law_spoilt.bd .nil pass0 (pa_cons (pv 1) (pa_cons (pv 5) pa_nil))) pa_nil))))))))
            (pss_one (ps_ret pe_bl))
            pss_nil)))))))
      (pss_cons (ps_set (i := 6) sc_law.nd rfl (Or.inl rfl) (pe_bm PySem.F.plainAttrs_str PySem.F.slot_str_join PySem.F.type_str_join mt_join pe_str (pa_cons (pe_comp (N := ["k", "deck"]) (cap := [none, some 1]) rfl (show blkOk ["script", "deck", "turn", "text", "again", "once", "free", "errors"] (defScope s_law) ["k", "deck"] [none, some 1] _ = true by decide +kernel) (pi_range1 (by rfl) T.b_range (pa_cons (pe_call G__law_take (hr.mono (by first | decide | exact Nat.le_refl _)) rfl D__law_take.mg D__law_take.fn.kp D__law_take.bd .nil pass0 (pa_cons (pv 1) (pa_cons pe_int pa_nil))) pa_nil)) (fun cl C s3 H3 fp => ⟨(pg_name (i := 0) (show (["k", "deck"] : List Str).Nodup by decide +kernel) rfl (Or.inl rfl)), pts_nil, fun it acc => (paf_emit rfl (pe_call G__law_sign (hr.mono (by first | decide | exact Nat.le_refl _)) rfl D__law_sign.mg D__law_sign.fn.kp D__law_sign.bd .nil pass0 (pa_cons (pv 1) pa_nil)))⟩)) pa_nil)))
      (pss_cons (ps_if (PW.pt (pw_or (pt_not (pt_val (pe_call G__law_right (hr.mono (by first | decide | exact Nat.le_refl _)) rfl D__law_right.mg D__law_right.fn.kp D__law_right.bd .nil pass0 (pa_cons (pv 6) pa_nil)))) (pw_or1 (pt_not (pt_val (pe_call G__law_right (hr.mono (by first | decide | exact Nat.le_refl _)) rfl D__law_right.mg D__law_right.fn.kp D__law_right.bd .nil pass0 (pa_cons pe_str pa_nil)))))))
        (pss_one (ps_ret pe_bl))
        pss_nil)
      (pss_cons (ps_set (i := 7) sc_law.nd rfl (Or.inl rfl) (pe_lst (pa_cons (pe_mkx ⟨rfl, rfl, rfl⟩ (by rfl) X_NoText.mg X_NoText.ex (pa_cons pe_str pa_nil)) (pa_cons (pe_mkx ⟨rfl, rfl, rfl⟩ (by rfl) X_NoStretch.mg X_NoStretch.ex (pa_cons pe_str pa_nil)) (pa_cons (pe_mkx ⟨rfl, rfl, rfl⟩ (by rfl) X_NoRest.mg X_NoRest.ex (pa_cons pe_str pa_nil)) (pa_cons (pe_mkx ⟨rfl, rfl, rfl⟩ (by rfl) X_NoPlace.mg X_NoPlace.ex (pa_cons pe_str pa_nil)) (pa_cons (pe_mkx ⟨rfl, rfl, rfl⟩ (by rfl) X_NoAsk.mg X_NoAsk.ex (pa_cons pe_str pa_nil)) pa_nil)))))))
      (pss_one (ps_ret (pe_cmpR (oEqD (K := K) rfl hu64) (pe_comp (N := ["one"]) (cap := [none]) rfl (show blkOk ["script", "deck", "turn", "text", "again", "once", "free", "errors"] (defScope s_law) ["one"] [none] _ = true by decide +kernel) (piL (K := K) rfl (pv 7)) (fun cl C s3 H3 fp => ⟨(pg_name (i := 0) (show (["one"] : List Str).Nodup by decide +kernel) rfl (Or.inl rfl)), pts_nil, fun it acc => (paf_emit rfl (pe_call G__law_flags (hr.mono (by first | decide | exact Nat.le_refl _)) rfl D__law_flags.mg D__law_flags.fn.kp D__law_flags.bd .nil pass0 (pa_cons (pv 0) pa_nil)))⟩)) (pe_compC (N := ["k"]) rfl (show blkOkC ["k"] _ = true by decide +kernel) (pi_range1 (by rfl) T.b_range (pa_cons pe_int pa_nil)) (fun cl C s3 H3 fp => ⟨(pg_name (i := 0) (show (["k"] : List Str).Nodup by decide +kernel) rfl (Or.inr rfl)), pts_nil, fun it acc => (paf_emit rfl (pe_comp (N := ["j", "k"]) (cap := [none, some 0]) rfl (show blkOk ["k"] _ ["j", "k"] [none, some 0] _ = true by kernel_rfl) (pi_range1 (by rfl) T.b_range (pa_cons pe_int pa_nil)) (fun cl C s3 H3 fp => ⟨(pg_name (i := 0) (show (["j", "k"] : List Str).Nodup by decide +kernel) rfl (Or.inl rfl)), pts_nil, fun it acc => (paf_emit rfl (pe_cmpR op_eq (pv 1) (pv 0) (nomark _)))⟩)))⟩)) (nomark _))))))))), ?_⟩
    refine ⟨_, rfl, a, scr, rfl, hS, hlen, fun d c H1 _ _ D1 S1 => ?_⟩
    dsimp only [gName]
    refine ⟨_, rfl, by decide, by decide, for_range (n := 6) (fun i σ H' => ∃ v2 v3 v4 v5 v6 v7 : Option V, σ = [some (.ref a), some (.ref d), v2, v3, v4, v5, v6, v7] ∧ Deck H' d c) ⟨_, _, _, _, _, _, rfl, D1⟩ ?_ ?_⟩
    · rintro i σ H2 _ ⟨v2, v3, v4, v5, v6, v7, rfl, D2⟩
      refine ⟨rfl, _, rfl, d, c, 60, rfl, D2, by decide, by decide, fun p ns H3 _ hp hl hb D3 S3 => ⟨p, rfl, ⟨_, SqT.of hp⟩, fun acc hacc => ?_⟩⟩
      have hb' : ∀ n ∈ ns, n.natAbs < 10 ^ 15 := fun n hn => by have := hb n hn; unfold Bnd at this; omega
      have hl' : ns.length ≤ 60 := by omega
      refine walk_tup (xs := ns.map V.int) (fun j σ H' => ∃ v : Option V, σ = [v] ∧ H' acc = some (.lst (((ns.take j).map numS).map V.str)) ∧ Same H3 H') ⟨none, rfl, upd_same, Same.lay hacc⟩ ?_ ?_ ?_
      · rintro j σ H4 _ ⟨v, rfl, ha, S4⟩
        exact SqT.of (S4 _ _ hp)
      · rintro j x σ H4 hx ⟨v, rfl, ha, S4⟩
        obtain ⟨n, hn, rfl⟩ : ∃ n, ns[j]? = some n ∧ V.int n = x := by rw [List.getElem?_map] at hx; exact Option.map_eq_some_iff.mp hx
        have hnb := hb' n (List.mem_of_getElem? hn)
        have hj : j < ns.length := (List.getElem?_eq_some_iff.mp hn).1
        have hlog : n.natAbs.log2 < 1920 := by
          by_cases h0 : n.natAbs = 0
          · rw [h0]; decide
          · exact Nat.lt_trans ((Nat.log2_lt h0).mpr (Nat.lt_trans hnb (show 10 ^ 15 < 2 ^ 64 by decide))) (by decide)
        refine ⟨_, rfl, n, rfl, hlog, _, ha, size_lt (by rw [List.length_map, List.length_map, List.length_take]; omega), ?_⟩
        refine ⟨_, rfl, ?_, fun b o e => by rw [upd_ne (ne_of_none e hacc)]; exact S4 _ _ e⟩
        rw [upd_same, map_take_succ numS hn, List.map_append]
        rfl
      rintro σ H4 ⟨v, rfl, ha, S4⟩
      rw [List.length_map, List.take_length] at ha
      have hjl : ((ns.map numS).map (·.length)).sum + (ns.map numS).length * blank.length ≤ sizeLine := by
        have h1 := sum_len hb'
        have h3 : blank.length = 1 := rfl
        rw [h3, List.length_map]
        omega
      refine ⟨blank, acc, ns.map numS, rfl, rfl, ha, hjl, ?_⟩
      dsimp only [gName]
      have D4 := D3.same S4
      have tb0 : TB 16 1100 (Str.join blank (ns.map numS)) := tb_row hl' hb'
      generalize Str.join blank (ns.map numS) = z0 at tb0
      refine ⟨_, rfl, by decide, by decide, for_range (n := 4) (fun j σ H' => ∃ v4 v5 : Option V, σ = [some (.ref a), some (.ref d), some (.int (0 + (i : Int))), some (.str z0), v4, v5, v6, v7] ∧ Deck H' d c) ⟨_, _, rfl, D4⟩ ?_ ?_⟩
      · rintro j σ H5 _ ⟨v4, v5, rfl, D5⟩
        refine ⟨_, rfl, _, rfl, d, c, z0, 16, 1100, rfl, D5, tb0, by decide, by decide, by decide, fun z1 H6 tb1 D6 S6 => ?_⟩
        dsimp only [gName]
        refine ⟨_, rfl, z0, rfl, tb0.ok (by decide) (by decide), fun H7 S7 => ⟨true, rfl, iteB ⟨_, rfl, z1, rfl, tb1.ok (by decide) (by decide), fun H8 S8 => ⟨true, rfl, iteB ?_⟩⟩⟩⟩
        refine ⟨_, rfl, _, rfl, d, c, z1, 33, 1126, rfl, (D6.same S7).same S8, tb1, by decide, by decide, by decide, fun z2 H9 tb2 D9 S9 => ⟨z2, rfl, tb2.ok (by decide) (by decide), fun H10 S10 => ⟨true, rfl, iteB ⟨_, _, rfl, D9.same S10⟩⟩⟩⟩
      · rintro σ H5 ⟨v4, v5, rfl, D5⟩
        exact ⟨_, _, _, _, _, _, rfl, D5⟩
    · rintro σ H2 ⟨v2, v3, v4, v5, v6, v7, rfl, D2⟩
      refine ⟨rfl, _, rfl, d, c, 301, rfl, D2, by decide, by decide, fun r H3 r0 r1 D3 S3 => ⟨r, rfl, by omega, by omega, fun acc hacc => ?_⟩⟩
      obtain ⟨n1, n2⟩ := D3.nd hacc
      refine walk_range (n := r.toNat) (fun j σ H' => ∃ (v : Option V) (cs : List Nat), σ = [v, some (.ref d)] ∧ cs.length = j ∧ H' acc = some (.lst ((cs.map fun c => (⟨#[c]⟩ : Str)).map V.str)) ∧ Deck H' d c) ⟨none, [], rfl, rfl, upd_same, D3.lay hacc⟩ ?_ ?_
      · rintro j σ H4 hj ⟨v, cs, rfl, hc, ha, D4⟩
        refine ⟨_, rfl, d, c, rfl, D4, fun ch H5 D5 S5 => ⟨_, S5 _ _ ha n1 n2, by rw [List.length_map, List.length_map]; omega, _, cs ++ [ch], rfl, by rw [List.length_append, hc]; rfl, ?_, D5.wr n1 n2⟩⟩
        rw [upd_same, List.map_append, List.map_append]; rfl
      rintro σ H4 ⟨v, cs, rfl, hc, ha, D4⟩
      have hc3 : cs.length ≤ 300 := by omega
      refine ⟨("" : Str), acc, _, rfl, rfl, ha, ?_, ?_⟩
      · rw [ones_len, List.length_map]
        show _ + _ * 0 ≤ _
        omega
      dsimp only [gName]
      have okf := txt_free hc3
      generalize Str.join ("" : Str) (cs.map fun c => (⟨#[c]⟩ : Str)) = zf at okf
      refine ⟨_, rfl, zf, rfl, okf, fun H5 S5 => ⟨true, rfl, iteB ⟨("" : Str), rfl, txt_nil, fun H6 S6 => ⟨true, rfl, iteB ?_⟩⟩⟩⟩
      -- the errors
      refine ⟨by show 1 ≤ sizeLine; omega, fun a0 h0 => ⟨by show 1 ≤ sizeLine; omega, fun a1 h1 => ⟨by show 1 ≤ sizeLine; omega, fun a2 h2 => ⟨by show 1 ≤ sizeLine; omega, fun a3 h3 => ⟨by show 1 ≤ sizeLine; omega, fun a4 h4 => ⟨by show 5 ≤ sizeLine; omega, fun er her => ?_⟩⟩⟩⟩⟩⟩
      dsimp only [gName]
      have T1 := Same.lay (o := .ext (ExcAt a1 St)) h1
      have T2 := Same.lay (o := .ext (ExcAt a2 Rs)) h2
      have T3 := Same.lay (o := .ext (ExcAt a3 Pl)) h3
      have T4 := Same.lay (o := .ext (ExcAt a4 Ak)) h4
      have T5 := Same.lay (o := .lst [.ref a0, .ref a1, .ref a2, .ref a3, .ref a4]) her
      have g0 := T5 _ _ (T4 _ _ (T3 _ _ (T2 _ _ (T1 _ _ (upd_same (H := H6) (a := a0) (o := .ext (ExcAt a0 Tx)))))))
      have g1 := T5 _ _ (T4 _ _ (T3 _ _ (T2 _ _ upd_same)))
      have g2 := T5 _ _ (T4 _ _ (T3 _ _ upd_same))
      have g3 := T5 _ _ (T4 _ _ upd_same)
      have g4 := T5 _ _ upd_same
      have ge : upd (upd (upd (upd (upd (upd H6 a0 (.ext (ExcAt a0 Tx))) a1 (.ext (ExcAt a1 St))) a2 (.ext (ExcAt a2 Rs))) a3 (.ext (ExcAt a3 Pl))) a4 (.ext (ExcAt a4 Ak))) er (.lst [.ref a0, .ref a1, .ref a2, .ref a3, .ref a4]) er = some (.lst [.ref a0, .ref a1, .ref a2, .ref a3, .ref a4]) := upd_same
      generalize upd (upd (upd (upd (upd (upd H6 a0 (.ext (ExcAt a0 Tx))) a1 (.ext (ExcAt a1 St))) a2 (.ext (ExcAt a2 Rs))) a3 (.ext (ExcAt a3 Pl))) a4 (.ext (ExcAt a4 Ak))) er (.lst [.ref a0, .ref a1, .ref a2, .ref a3, .ref a4]) = H7 at g0 g1 g2 g3 g4 ge
      clear T1 T2 T3 T4 T5 h0 h1 h2 h3 h4
      refine ⟨_, rfl, er, rfl, ⟨_, SqL.of ge⟩, fun ac hac => ?_⟩
      refine walk_list (xs := [.ref a0, .ref a1, .ref a2, .ref a3, .ref a4]) (fun j σ H' => ∃ (v : Option V) (as : List Addr), σ = [v] ∧ H' ac = some (.lst (as.map V.ref)) ∧ Paired (fun b i => H' b = some (.lst (flagsV i)) ∧ b ≠ ac) as (List.range j) ∧ Same H7 H') ⟨none, [], rfl, upd_same, .nil, Same.lay hac⟩ ?_ ?_ ?_
      · rintro j σ H8 _ ⟨v, as, rfl, _, _, S8⟩
        exact SqL.of (S8 _ _ ge)
      · rintro j x σ H8 hx ⟨v, as, rfl, ha, hP, S8⟩
        obtain ⟨b, C, rfl, hC, kk, hj⟩ : ∃ b C, x = V.ref b ∧ H8 b = some (.ext (ExcAt b C)) ∧ CK K S Tx St Rs Pl Ak C j ∧ j < 5 := by
          have hj : j < 5 := (List.getElem?_eq_some_iff.mp hx).1
          match j, hj with
          | 0, h => cases hx; exact ⟨a0, Tx, rfl, S8 _ _ g0, ck0 X_NoText.cl XR, h⟩
          | 1, h => cases hx; exact ⟨a1, St, rfl, S8 _ _ g1, ck1 X_NoStretch.cl XR, h⟩
          | 2, h => cases hx; exact ⟨a2, Rs, rfl, S8 _ _ g2, ck2 X_NoRest.cl XR, h⟩
          | 3, h => cases hx; exact ⟨a3, Pl, rfl, S8 _ _ g3, ck3 X_NoPlace.cl XR, h⟩
          | 4, h => cases hx; exact ⟨a4, Ak, rfl, S8 _ _ g4, ck4 X_NoAsk.cl XR, h⟩
        have asl : as.length = j := by have := Paired.length hP; rw [List.length_range] at this; exact this
        refine ⟨_, rfl, b, C, j, rfl, hC, kk, fun q H9 hq S9 => ⟨_, S9 _ _ ha, by rw [List.length_map]; omega, _, as ++ [q], rfl, by rw [upd_same, List.map_append]; rfl, ?_, fun b o e => by rw [upd_ne (ne_of_none e hac)]; exact S9 _ _ (S8 b o e)⟩⟩
        rw [List.range_succ]
        have hne : q ≠ ac := fun e => by
          rw [e, S9 _ _ ha] at hq
          have e2 : as.map V.ref = flagsV j := by injection hq with hq; injection hq
          have := congrArg List.length e2
          rw [List.length_map, asl] at this
          have e3 : (flagsV j).length = 7 := rfl
          omega
        exact Paired.snoc' (pmapM hP fun b i _ h => ⟨by rw [upd_ne h.2]; exact S9 _ _ h.1, h.2⟩) ⟨by rw [upd_ne hne]; exact hq, hne⟩
      rintro σ H8 ⟨v, as, rfl, ha8, hP8, S8⟩
      refine ⟨_, rfl, by decide, by decide, fun oc hoc => ?_⟩
      refine walk_range (n := 5) (fun j σ H' => ∃ (v : Option V) (bs : List Addr), σ = [v] ∧ H' oc = some (.lst (bs.map V.ref)) ∧ Paired (fun b i => H' b = some (.lst (fkk i 7)) ∧ b ≠ oc) bs (List.range j) ∧ Same H8 H') ⟨none, [], rfl, upd_same, .nil, Same.lay hoc⟩ ?_ ?_
      · rintro j σ H9 hj ⟨v, bs, rfl, hb9, hP9, S9⟩
        have bsl : bs.length = j := by have := Paired.length hP9; rw [List.length_range] at this; exact this
        refine ⟨_, rfl, by decide, by decide, fun ic hic => ?_⟩
        have hio : oc ≠ ic := ne_of_none hb9 hic
        refine walk_range (n := 7) (fun i σ H' => ∃ v : Option V, σ = [v, some (.int (0 + (j : Int)))] ∧ H' ic = some (.lst (fkk j i)) ∧ Same H9 H') ⟨none, rfl, upd_same, Same.lay hic⟩ ?_ ?_
        · rintro i σ H10 hi ⟨v, rfl, hc10, S10⟩
          refine ⟨_, rfl, _, rfl, rfl, fkk j i, hc10, size_lt (by unfold fkk; rw [List.length_map, List.length_range]; omega), ?_⟩
          refine ⟨_, rfl, ?_, fun b o e => by rw [upd_ne (ne_of_none e hic)]; exact S10 b o e⟩
          rw [upd_same]
          unfold fkk
          rw [List.range_succ, List.map_append]
          rfl
        rintro σ H10 ⟨v, rfl, hc10, S10⟩
        refine ⟨_, S10 _ _ hb9, by rw [List.length_map]; omega, _, bs ++ [ic], rfl, by rw [upd_same, List.map_append]; rfl, ?_, fun b o e => by rw [upd_ne (ne_of_none e hoc)]; exact S10 _ _ (S9 b o e)⟩
        rw [List.range_succ]
        exact Paired.snoc' (pmapM hP9 fun b i _ h => ⟨by rw [upd_ne h.2]; exact S10 _ _ h.1, h.2⟩) ⟨by rw [upd_ne (Ne.symm hio)]; exact hc10, Ne.symm hio⟩
      rintro σ H9 ⟨v, bs, rfl, hb9, hP9, S9⟩
      have asl : as.length = 5 := by have := Paired.length hP8; rw [List.length_range] at this; exact this
      have bsl : bs.length = 5 := by have := Paired.length hP9; rw [List.length_range] at this; exact this
      refine ⟨1, true, by decide, EqD.seq (c := false) (SqL.of (S9 _ _ ha8)) (SqL.of hb9) (by rw [List.length_map, List.length_map, asl, bsl]) fun j x y hx hy => ?_, .inl ⟨_, rfl⟩, k H9⟩
      rw [List.getElem?_map] at hx hy
      obtain ⟨b1, hb1, rfl⟩ := Option.map_eq_some_iff.mp hx
      obtain ⟨b2, hb2, rfl⟩ := Option.map_eq_some_iff.mp hy
      obtain ⟨i1, hi1, q1, _⟩ := Paired.at' hP8 hb1
      obtain ⟨i2, hi2, q2, _⟩ := Paired.at' hP9 hb2
      have hj : j < 5 := by rw [← asl]; exact (List.getElem?_eq_some_iff.mp hb1).1
      have hi1' : (List.range 5)[j]? = some i1 := hi1
      rw [List.getElem?_range hj] at hi1'
      have e1 : j = i1 := Option.some.inj hi1'
      subst e1
      have hi2' : (List.range 5)[j]? = some i2 := hi2
      rw [List.getElem?_range hj] at hi2'
      have e2 : j = i2 := Option.some.inj hi2'
      subst e2
      rw [← flags_are j hj] at q2
      exact EqD.bools (by rfl) (S9 _ _ q1) q2
end
end My

namespace My
open PySem L2
theorem all_mk {l : PySem.W.OpenLaw} {w : World} {K : PySem.W.Frag} {h : Heap} {mg : Str → Option Value} {fa f1 f2 f3 f4 f5 f6 f7 f8 f9 f10 f11 f12 f13 f14 f15 xS xTx xSt xRs xPl xAk : Addr} (X : K.In h) (G : h.Ns mainGlobals mg) (hfa : mg "law" = some (.ref fa))
    {od1 an1 od2 an2 od3 an3 od4 an4 od5 an5 od6 an6 od7 an7 od8 an8 od9 an9 od10 an10 od11 an11 od12 an12 od13 an13 od14 an14 od15 an15 : Option Addr} {sl1 sl2 sl3 sl4 sl5 sl6 sl7 sl8 sl9 sl10 sl11 sl12 sl13 sl14 sl15 : Array (Option Value)} {oc1 kV1 dc1 pm1 cd1 ct1 oc2 kV2 dc2 pm2 cd2 ct2 oc3 kV3 dc3 pm3 cd3 ct3 oc4 kV4 dc4 pm4 cd4 ct4 oc5 kV5 dc5 pm5 cd5 ct5 oc6 kV6 dc6 pm6 cd6 ct6 oc7 kV7 dc7 pm7 cd7 ct7 oc8 kV8 dc8 pm8 cd8 ct8 oc9 kV9 dc9 pm9 cd9 ct9 oc10 kV10 dc10 pm10 cd10 ct10 oc11 kV11 dc11 pm11 cd11 ct11 oc12 kV12 dc12 pm12 cd12 ct12 oc13 kV13 dc13 pm13 cd13 ct13 oc14 kV14 dc14 pm14 cd14 ct14 oc15 kV15 dc15 pm15 cd15 ct15 : Value} {clS clTx clSt clRs clPl clAk : ClassData} {tkFIGURES : Tok}
    (a1 : PySem.W.nsIn K mainGlobals "read_row" = some (some (.ref f1))) (l1 : K.lookup f1 = some ⟨oc1, od1, .func (PySem.W.fnOf "read_row" "read_row" (defArgs s_read_row) (defBody s_read_row) (defScope s_read_row) .none kV1 dc1 pm1 an1 cd1 ct1), sl1⟩) (c1 : PySem.W.codeIn K cd1 "read_row" = true) (k1 : PySem.W.keepIn K (.ref f1) = true)
    (a2 : PySem.W.nsIn K mainGlobals "is_number" = some (some (.ref f2))) (l2 : K.lookup f2 = some ⟨oc2, od2, .func (PySem.W.fnOf "is_number" "is_number" (defArgs s_is_number) (defBody s_is_number) (defScope s_is_number) .none kV2 dc2 pm2 an2 cd2 ct2), sl2⟩) (c2 : PySem.W.codeIn K cd2 "is_number" = true) (k2 : PySem.W.keepIn K (.ref f2) = true)
    (a3 : PySem.W.nsIn K mainGlobals "_law_deck" = some (some (.ref f3))) (l3 : K.lookup f3 = some ⟨oc3, od3, .func (PySem.W.fnOf "_law_deck" "_law_deck" (defArgs s_law_deck) (defBody s_law_deck) (defScope s_law_deck) .none kV3 dc3 pm3 an3 cd3 ct3), sl3⟩) (c3 : PySem.W.codeIn K cd3 "_law_deck" = true) (k3 : PySem.W.keepIn K (.ref f3) = true)
    (a4 : PySem.W.nsIn K mainGlobals "_law_take" = some (some (.ref f4))) (l4 : K.lookup f4 = some ⟨oc4, od4, .func (PySem.W.fnOf "_law_take" "_law_take" (defArgs s_law_take) (defBody s_law_take) (defScope s_law_take) .none kV4 dc4 pm4 an4 cd4 ct4), sl4⟩) (c4 : PySem.W.codeIn K cd4 "_law_take" = true) (k4 : PySem.W.keepIn K (.ref f4) = true)
    (a5 : PySem.W.nsIn K mainGlobals "_law_some_number" = some (some (.ref f5))) (l5 : K.lookup f5 = some ⟨oc5, od5, .func (PySem.W.fnOf "_law_some_number" "_law_some_number" (defArgs s_law_some_number) (defBody s_law_some_number) (defScope s_law_some_number) .none kV5 dc5 pm5 an5 cd5 ct5), sl5⟩) (c5 : PySem.W.codeIn K cd5 "_law_some_number" = true) (k5 : PySem.W.keepIn K (.ref f5) = true)
    (a6 : PySem.W.nsIn K mainGlobals "_law_row" = some (some (.ref f6))) (l6 : K.lookup f6 = some ⟨oc6, od6, .func (PySem.W.fnOf "_law_row" "_law_row" (defArgs s_law_row) (defBody s_law_row) (defScope s_law_row) .none kV6 dc6 pm6 an6 cd6 ct6), sl6⟩) (c6 : PySem.W.codeIn K cd6 "_law_row" = true) (k6 : PySem.W.keepIn K (.ref f6) = true)
    (a7 : PySem.W.nsIn K mainGlobals "_law_flags" = some (some (.ref f7))) (l7 : K.lookup f7 = some ⟨oc7, od7, .func (PySem.W.fnOf "_law_flags" "_law_flags" (defArgs s_law_flags) (defBody s_law_flags) (defScope s_law_flags) .none kV7 dc7 pm7 an7 cd7 ct7), sl7⟩) (c7 : PySem.W.codeIn K cd7 "_law_flags" = true) (k7 : PySem.W.keepIn K (.ref f7) = true)
    (a8 : PySem.W.nsIn K mainGlobals "_law_same" = some (some (.ref f8))) (l8 : K.lookup f8 = some ⟨oc8, od8, .func (PySem.W.fnOf "_law_same" "_law_same" (defArgs s_law_same) (defBody s_law_same) (defScope s_law_same) .none kV8 dc8 pm8 an8 cd8 ct8), sl8⟩) (c8 : PySem.W.codeIn K cd8 "_law_same" = true) (k8 : PySem.W.keepIn K (.ref f8) = true)
    (a9 : PySem.W.nsIn K mainGlobals "_law_number_in" = some (some (.ref f9))) (l9 : K.lookup f9 = some ⟨oc9, od9, .func (PySem.W.fnOf "_law_number_in" "_law_number_in" (defArgs s_law_number_in) (defBody s_law_number_in) (defScope s_law_number_in) .none kV9 dc9 pm9 an9 cd9 ct9), sl9⟩) (c9 : PySem.W.codeIn K cd9 "_law_number_in" = true) (k9 : PySem.W.keepIn K (.ref f9) = true)
    (a10 : PySem.W.nsIn K mainGlobals "_law_due" = some (some (.ref f10))) (l10 : K.lookup f10 = some ⟨oc10, od10, .func (PySem.W.fnOf "_law_due" "_law_due" (defArgs s_law_due) (defBody s_law_due) (defScope s_law_due) .none kV10 dc10 pm10 an10 cd10 ct10), sl10⟩) (c10 : PySem.W.codeIn K cd10 "_law_due" = true) (k10 : PySem.W.keepIn K (.ref f10) = true)
    (a11 : PySem.W.nsIn K mainGlobals "_law_told" = some (some (.ref f11))) (l11 : K.lookup f11 = some ⟨oc11, od11, .func (PySem.W.fnOf "_law_told" "_law_told" (defArgs s_law_told) (defBody s_law_told) (defScope s_law_told) .none kV11 dc11 pm11 an11 cd11 ct11), sl11⟩) (c11 : PySem.W.codeIn K cd11 "_law_told" = true) (k11 : PySem.W.keepIn K (.ref f11) = true)
    (a12 : PySem.W.nsIn K mainGlobals "_law_right" = some (some (.ref f12))) (l12 : K.lookup f12 = some ⟨oc12, od12, .func (PySem.W.fnOf "_law_right" "_law_right" (defArgs s_law_right) (defBody s_law_right) (defScope s_law_right) .none kV12 dc12 pm12 an12 cd12 ct12), sl12⟩) (c12 : PySem.W.codeIn K cd12 "_law_right" = true) (k12 : PySem.W.keepIn K (.ref f12) = true)
    (a13 : PySem.W.nsIn K mainGlobals "_law_sign" = some (some (.ref f13))) (l13 : K.lookup f13 = some ⟨oc13, od13, .func (PySem.W.fnOf "_law_sign" "_law_sign" (defArgs s_law_sign) (defBody s_law_sign) (defScope s_law_sign) .none kV13 dc13 pm13 an13 cd13 ct13), sl13⟩) (c13 : PySem.W.codeIn K cd13 "_law_sign" = true) (k13 : PySem.W.keepIn K (.ref f13) = true)
    (a14 : PySem.W.nsIn K mainGlobals "_law_spoilt" = some (some (.ref f14))) (l14 : K.lookup f14 = some ⟨oc14, od14, .func (PySem.W.fnOf "_law_spoilt" "_law_spoilt" (defArgs s_law_spoilt) (defBody s_law_spoilt) (defScope s_law_spoilt) .none kV14 dc14 pm14 an14 cd14 ct14), sl14⟩) (c14 : PySem.W.codeIn K cd14 "_law_spoilt" = true) (k14 : PySem.W.keepIn K (.ref f14) = true)
    (a15 : PySem.W.nsIn K mainGlobals "law" = some (some (.ref f15))) (l15 : K.lookup f15 = some ⟨oc15, od15, .func (PySem.W.fnOf "law" "law" (defArgs s_law) (defBody s_law) (defScope s_law) .none kV15 dc15 pm15 an15 cd15 ct15), sl15⟩) (c15 : PySem.W.codeIn K cd15 "law" = true) (k15 : PySem.W.keepIn K (.ref f15) = true)
    (zc_FIGURES : PySem.W.nsIn K mainGlobals "FIGURES" = some (some (.str c_FIGURES tkFIGURES)))
    (eS : PySem.W.nsIn K mainGlobals "SumError" = some (some (.ref xS)))
    (eS_is : PySem.W.clsIn K xS = some clS)
    (eS_ty : PySem.W.typeIn K (.ref xS) = some (.type "type"))
    (eS_bx : PySem.W.mroIn K xS (.type "BaseException") = some true)
    (eTx : PySem.W.nsIn K mainGlobals "NoText" = some (some (.ref xTx)))
    (eTx_is : PySem.W.clsIn K xTx = some clTx)
    (eTx_ex : PySem.W.excIn K xTx bmV "ValueError.__new__" = true)
    (eTx_ga : PySem.W.findIn K (.ref xTx) "__getattribute__" = some (some (.builtin "BaseException.__getattribute__")))
    (eTx_gn : PySem.W.findIn K (.ref xTx) "__getattr__" = some none)
    (eTx_cl : PySem.W.findIn K (.ref xTx) "__class__" = some (some (.builtin "object.__class__")))
    (eTx_ob : PySem.W.mroIn K xTx (.type "object") = some true)
    (eTx_bx : PySem.W.mroIn K xTx (.type "BaseException") = some true)
    (eSt : PySem.W.nsIn K mainGlobals "NoStretch" = some (some (.ref xSt)))
    (eSt_is : PySem.W.clsIn K xSt = some clSt)
    (eSt_ex : PySem.W.excIn K xSt bmV "ValueError.__new__" = true)
    (eSt_ga : PySem.W.findIn K (.ref xSt) "__getattribute__" = some (some (.builtin "BaseException.__getattribute__")))
    (eSt_gn : PySem.W.findIn K (.ref xSt) "__getattr__" = some none)
    (eSt_cl : PySem.W.findIn K (.ref xSt) "__class__" = some (some (.builtin "object.__class__")))
    (eSt_ob : PySem.W.mroIn K xSt (.type "object") = some true)
    (eSt_bx : PySem.W.mroIn K xSt (.type "BaseException") = some true)
    (eRs : PySem.W.nsIn K mainGlobals "NoRest" = some (some (.ref xRs)))
    (eRs_is : PySem.W.clsIn K xRs = some clRs)
    (eRs_ex : PySem.W.excIn K xRs bmV "ValueError.__new__" = true)
    (eRs_ga : PySem.W.findIn K (.ref xRs) "__getattribute__" = some (some (.builtin "BaseException.__getattribute__")))
    (eRs_gn : PySem.W.findIn K (.ref xRs) "__getattr__" = some none)
    (eRs_cl : PySem.W.findIn K (.ref xRs) "__class__" = some (some (.builtin "object.__class__")))
    (eRs_ob : PySem.W.mroIn K xRs (.type "object") = some true)
    (eRs_bx : PySem.W.mroIn K xRs (.type "BaseException") = some true)
    (ePl : PySem.W.nsIn K mainGlobals "NoPlace" = some (some (.ref xPl)))
    (ePl_is : PySem.W.clsIn K xPl = some clPl)
    (ePl_ex : PySem.W.excIn K xPl bmV "ValueError.__new__" = true)
    (ePl_ga : PySem.W.findIn K (.ref xPl) "__getattribute__" = some (some (.builtin "BaseException.__getattribute__")))
    (ePl_gn : PySem.W.findIn K (.ref xPl) "__getattr__" = some none)
    (ePl_cl : PySem.W.findIn K (.ref xPl) "__class__" = some (some (.builtin "object.__class__")))
    (ePl_ob : PySem.W.mroIn K xPl (.type "object") = some true)
    (ePl_bx : PySem.W.mroIn K xPl (.type "BaseException") = some true)
    (eAk : PySem.W.nsIn K mainGlobals "NoAsk" = some (some (.ref xAk)))
    (eAk_is : PySem.W.clsIn K xAk = some clAk)
    (eAk_ex : PySem.W.excIn K xAk bmV "ValueError.__new__" = true)
    (eAk_ga : PySem.W.findIn K (.ref xAk) "__getattribute__" = some (some (.builtin "BaseException.__getattribute__")))
    (eAk_gn : PySem.W.findIn K (.ref xAk) "__getattr__" = some none)
    (eAk_cl : PySem.W.findIn K (.ref xAk) "__class__" = some (some (.builtin "object.__class__")))
    (eAk_ob : PySem.W.mroIn K xAk (.type "object") = some true)
    (eAk_bx : PySem.W.mroIn K xAk (.type "BaseException") = some true)
    (r_sub : PySem.W.mroIn K xTx (.ref xS) = some true)
    (r_s0 : PySem.W.kitOne K (.ref xTx) (.ref xS) = some true)
    (r_s1 : PySem.W.kitOne K (.ref xSt) (.ref xS) = some true)
    (r_s2 : PySem.W.kitOne K (.ref xRs) (.ref xS) = some true)
    (r_s3 : PySem.W.kitOne K (.ref xPl) (.ref xS) = some true)
    (r_s4 : PySem.W.kitOne K (.ref xAk) (.ref xS) = some true)
    (r_v0 : PySem.W.kitOne K (.ref xTx) (.type "ValueError") = some true)
    (r_v1 : PySem.W.kitOne K (.ref xSt) (.type "ValueError") = some true)
    (r_v2 : PySem.W.kitOne K (.ref xRs) (.type "ValueError") = some true)
    (r_v3 : PySem.W.kitOne K (.ref xPl) (.type "ValueError") = some true)
    (r_v4 : PySem.W.kitOne K (.ref xAk) (.type "ValueError") = some true)
    (r_n01 : PySem.W.kitOne K (.ref xTx) (.ref xSt) = some false)
    (r_n02 : PySem.W.kitOne K (.ref xTx) (.ref xRs) = some false)
    (r_n03 : PySem.W.kitOne K (.ref xTx) (.ref xPl) = some false)
    (r_n04 : PySem.W.kitOne K (.ref xTx) (.ref xAk) = some false)
    (r_n10 : PySem.W.kitOne K (.ref xSt) (.ref xTx) = some false)
    (r_n12 : PySem.W.kitOne K (.ref xSt) (.ref xRs) = some false)
    (r_n13 : PySem.W.kitOne K (.ref xSt) (.ref xPl) = some false)
    (r_n14 : PySem.W.kitOne K (.ref xSt) (.ref xAk) = some false)
    (r_n20 : PySem.W.kitOne K (.ref xRs) (.ref xTx) = some false)
    (r_n21 : PySem.W.kitOne K (.ref xRs) (.ref xSt) = some false)
    (r_n23 : PySem.W.kitOne K (.ref xRs) (.ref xPl) = some false)
    (r_n24 : PySem.W.kitOne K (.ref xRs) (.ref xAk) = some false)
    (r_n30 : PySem.W.kitOne K (.ref xPl) (.ref xTx) = some false)
    (r_n31 : PySem.W.kitOne K (.ref xPl) (.ref xSt) = some false)
    (r_n32 : PySem.W.kitOne K (.ref xPl) (.ref xRs) = some false)
    (r_n34 : PySem.W.kitOne K (.ref xPl) (.ref xAk) = some false)
    (r_n40 : PySem.W.kitOne K (.ref xAk) (.ref xTx) = some false)
    (r_n41 : PySem.W.kitOne K (.ref xAk) (.ref xSt) = some false)
    (r_n42 : PySem.W.kitOne K (.ref xAk) (.ref xRs) = some false)
    (r_n43 : PySem.W.kitOne K (.ref xAk) (.ref xPl) = some false)
    (z_len : PySem.W.nsIn K mainGlobals "len" = some none)
    (z_sum : PySem.W.nsIn K mainGlobals "sum" = some none)
    (z_range : PySem.W.nsIn K mainGlobals "range" = some none)
    (z_tuple : PySem.W.nsIn K mainGlobals "tuple" = some none)
    (z_list : PySem.W.nsIn K mainGlobals "list" = some none)
    (z_int : PySem.W.nsIn K mainGlobals "int" = some none)
    (z_str : PySem.W.nsIn K mainGlobals "str" = some none)
    (z_bool : PySem.W.nsIn K mainGlobals "bool" = some none)
    (z_isinstance : PySem.W.nsIn K mainGlobals "isinstance" = some none)
    (z_min : PySem.W.nsIn K mainGlobals "min" = some none)
    (z_max : PySem.W.nsIn K mainGlobals "max" = some none)
    (z_zip : PySem.W.nsIn K mainGlobals "zip" = some none)
    (z_reversed : PySem.W.nsIn K mainGlobals "reversed" = some none)
    (z_sorted : PySem.W.nsIn K mainGlobals "sorted" = some none)
    (z_abs : PySem.W.nsIn K mainGlobals "abs" = some none)
    (z_all : PySem.W.nsIn K mainGlobals "all" = some none)
    (z_any : PySem.W.nsIn K mainGlobals "any" = some none)
    (z_set : PySem.W.nsIn K mainGlobals "set" = some none)
    (z_ValueError : PySem.W.nsIn K mainGlobals "ValueError" = some none)
    : ∃ fd : FuncData, (∀ (s : Shared) (v : Value), BindsTo s fd ⟨[v], []⟩ [("script", v)]) ∧ ∀ base : Heap, K.In base → base.Ns mainGlobals mg → FnOk l.prog w K mg base CX0 5 fa fd ["script"] (spLaw K) := by
  have e := hfa.symm.trans (PySem.W.mg_of X G a15)
  cases e
  have T : Txt mg := ⟨PySem.W.mg_none_of X G z_len, PySem.W.mg_none_of X G z_sum, PySem.W.mg_none_of X G z_range, PySem.W.mg_none_of X G z_tuple, PySem.W.mg_none_of X G z_list, PySem.W.mg_none_of X G z_int, PySem.W.mg_none_of X G z_str, PySem.W.mg_none_of X G z_bool, PySem.W.mg_none_of X G z_isinstance, PySem.W.mg_none_of X G z_min, PySem.W.mg_none_of X G z_max, PySem.W.mg_none_of X G z_zip, PySem.W.mg_none_of X G z_reversed, PySem.W.mg_none_of X G z_sorted, PySem.W.mg_none_of X G z_abs, PySem.W.mg_none_of X G z_all, PySem.W.mg_none_of X G z_any, PySem.W.mg_none_of X G z_set, PySem.W.mg_none_of X G z_ValueError⟩
  have F1 := fun_mk (st := s_read_row) l1 c1 k1
  have b1 := F1.binds (ps := ["text"]) fun _ _ _ _ _ _ us hl => match us, hl with | [_], _ => rfl
  have D1 : DefAt K mg "read_row" s_read_row ["text"] f1 _ := ⟨F1, PySem.W.mg_of X G a1, b1⟩
  have F2 := fun_mk (st := s_is_number) l2 c2 k2
  have b2 := F2.binds (ps := ["word"]) fun _ _ _ _ _ _ us hl => match us, hl with | [_], _ => rfl
  have D2 : DefAt K mg "is_number" s_is_number ["word"] f2 _ := ⟨F2, PySem.W.mg_of X G a2, b2⟩
  have F3 := fun_mk (st := s_law_deck) l3 c3 k3
  have b3 := F3.binds (ps := ["script"]) fun _ _ _ _ _ _ us hl => match us, hl with | [_], _ => rfl
  have D3 : DefAt K mg "_law_deck" s_law_deck ["script"] f3 _ := ⟨F3, PySem.W.mg_of X G a3, b3⟩
  have F4 := fun_mk (st := s_law_take) l4 c4 k4
  have b4 := F4.binds (ps := ["deck", "many"]) fun _ _ _ _ _ _ us hl => match us, hl with | [_, _], _ => rfl
  have D4 : DefAt K mg "_law_take" s_law_take ["deck", "many"] f4 _ := ⟨F4, PySem.W.mg_of X G a4, b4⟩
  have F5 := fun_mk (st := s_law_some_number) l5 c5 k5
  have b5 := F5.binds (ps := ["deck", "kind"]) fun _ _ _ _ _ _ us hl => match us, hl with | [_, _], _ => rfl
  have D5 : DefAt K mg "_law_some_number" s_law_some_number ["deck", "kind"] f5 _ := ⟨F5, PySem.W.mg_of X G a5, b5⟩
  have F6 := fun_mk (st := s_law_row) l6 c6 k6
  have b6 := F6.binds (ps := ["deck", "most"]) fun _ _ _ _ _ _ us hl => match us, hl with | [_, _], _ => rfl
  have D6 : DefAt K mg "_law_row" s_law_row ["deck", "most"] f6 _ := ⟨F6, PySem.W.mg_of X G a6, b6⟩
  have F7 := fun_mk (st := s_law_flags) l7 c7 k7
  have b7 := F7.binds (ps := ["thing"]) fun _ _ _ _ _ _ us hl => match us, hl with | [_], _ => rfl
  have D7 : DefAt K mg "_law_flags" s_law_flags ["thing"] f7 _ := ⟨F7, PySem.W.mg_of X G a7, b7⟩
  have F8 := fun_mk (st := s_law_same) l8 c8 k8
  have b8 := F8.binds (ps := ["found", "due"]) fun _ _ _ _ _ _ us hl => match us, hl with | [_, _], _ => rfl
  have D8 : DefAt K mg "_law_same" s_law_same ["found", "due"] f8 _ := ⟨F8, PySem.W.mg_of X G a8, b8⟩
  have F9 := fun_mk (st := s_law_number_in) l9 c9 k9
  have b9 := F9.binds (ps := ["word"]) fun _ _ _ _ _ _ us hl => match us, hl with | [_], _ => rfl
  have D9 : DefAt K mg "_law_number_in" s_law_number_in ["word"] f9 _ := ⟨F9, PySem.W.mg_of X G a9, b9⟩
  have F10 := fun_mk (st := s_law_due) l10 c10 k10
  have b10 := F10.binds (ps := ["text"]) fun _ _ _ _ _ _ us hl => match us, hl with | [_], _ => rfl
  have D10 : DefAt K mg "_law_due" s_law_due ["text"] f10 _ := ⟨F10, PySem.W.mg_of X G a10, b10⟩
  have F11 := fun_mk (st := s_law_told) l11 c11 k11
  have b11 := F11.binds (ps := ["text"]) fun _ _ _ _ _ _ us hl => match us, hl with | [_], _ => rfl
  have D11 : DefAt K mg "_law_told" s_law_told ["text"] f11 _ := ⟨F11, PySem.W.mg_of X G a11, b11⟩
  have F12 := fun_mk (st := s_law_right) l12 c12 k12
  have b12 := F12.binds (ps := ["text"]) fun _ _ _ _ _ _ us hl => match us, hl with | [_], _ => rfl
  have D12 : DefAt K mg "_law_right" s_law_right ["text"] f12 _ := ⟨F12, PySem.W.mg_of X G a12, b12⟩
  have F13 := fun_mk (st := s_law_sign) l13 c13 k13
  have b13 := F13.binds (ps := ["deck"]) fun _ _ _ _ _ _ us hl => match us, hl with | [_], _ => rfl
  have D13 : DefAt K mg "_law_sign" s_law_sign ["deck"] f13 _ := ⟨F13, PySem.W.mg_of X G a13, b13⟩
  have F14 := fun_mk (st := s_law_spoilt) l14 c14 k14
  have b14 := F14.binds (ps := ["deck", "text"]) fun _ _ _ _ _ _ us hl => match us, hl with | [_, _], _ => rfl
  have D14 : DefAt K mg "_law_spoilt" s_law_spoilt ["deck", "text"] f14 _ := ⟨F14, PySem.W.mg_of X G a14, b14⟩
  have F15 := fun_mk (st := s_law) l15 c15 k15
  exact ⟨PySem.W.fnOf "law" "law" (defArgs s_law) (defBody s_law) (defScope s_law) .none kV15 dc15 pm15 an15 cd15 ct15, fun s v => .of_eq rfl, fun base _ _ => ok_law F15 T (PySem.W.mg_of X G zc_FIGURES) ⟨PySem.W.mg_of X G eS, ⟨eS_ty, eS_bx, (by rw [eS_is]; rfl)⟩⟩ ⟨PySem.W.mg_of X G eTx, eTx_ex, ⟨eTx_ga, eTx_gn, eTx_cl, eTx_ob, eTx_bx, (by rw [eTx_is]; rfl)⟩⟩ ⟨PySem.W.mg_of X G eSt, eSt_ex, ⟨eSt_ga, eSt_gn, eSt_cl, eSt_ob, eSt_bx, (by rw [eSt_is]; rfl)⟩⟩ ⟨PySem.W.mg_of X G eRs, eRs_ex, ⟨eRs_ga, eRs_gn, eRs_cl, eRs_ob, eRs_bx, (by rw [eRs_is]; rfl)⟩⟩ ⟨PySem.W.mg_of X G ePl, ePl_ex, ⟨ePl_ga, ePl_gn, ePl_cl, ePl_ob, ePl_bx, (by rw [ePl_is]; rfl)⟩⟩ ⟨PySem.W.mg_of X G eAk, eAk_ex, ⟨eAk_ga, eAk_gn, eAk_cl, eAk_ob, eAk_bx, (by rw [eAk_is]; rfl)⟩⟩ ⟨r_sub, r_s0, r_s1, r_s2, r_s3, r_s4, r_v0, r_v1, r_v2, r_v3, r_v4, r_n01, r_n02, r_n03, r_n04, r_n10, r_n12, r_n13, r_n14, r_n20, r_n21, r_n23, r_n24, r_n30, r_n31, r_n32, r_n34, r_n40, r_n41, r_n42, r_n43⟩ D1 D2 D3 D4 D5 D6 D7 D8 D9 D10 D11 D12 D13 D14⟩
theorem walk {l : PySem.W.OpenLaw} {q : Program} {loose : List Str} {XP : (Str → Option Value) → Heap → Prop} {YP : World → Heap → Prop} {d : DefRec} {K : Params → PySem.W.Frag} (hn : l.most = some 63) (hdf : d.params.defaults = [])
    (hY : ∀ (w : World) (h : Heap), YP w h → (K w.params).In h)
    (F : ∀ (w : World) (mg : Str → Option Value) (fa : Addr) (h : Heap), (K w.params).In h → h.Ns mainGlobals mg → mg d.name = some (.ref fa) →
      ∃ fd : FuncData, (∀ (s : Shared) (u : Value), BindsTo s fd ⟨[u], []⟩ [("script", u)]) ∧ ∀ base : Heap, (K w.params).In base → base.Ns mainGlobals mg → FnOk l.prog w (K w.params) mg base CX0 5 fa fd ["script"] (spLaw (K w.params))) :
    PySem.W.WalkO q loose XP YP l.row.toRowW d [] (fun f vs => PySem.call f vs) :=
  L2.walk_of (n := 63) (k := 5) (x := "script") (CX := fun _ => CX0) (sp := fun w => spLaw (K w.params)) hn (by decide) hdf ⟨rfl, by decide, by decide⟩ hY F (fun _ _ a ns hl _ hS => ⟨a, ns, rfl, hS, hl, fun _ => rfl⟩) fun _ _ _ _ _ z => z
end My
open PySem PySem.W PyProof.Rows
set_option maxRecDepth 100000 in
set_option maxHeartbeats 0 in
theorem PySem.Challenge.cw_toldsums_k02_texts_of_no_row_holds : PySem.Challenge.rw_toldsums_k02_texts_of_no_row.Holds := by
  w_on; o_law; k_head; (case hw => w_witness2)
  k_fill
  refine My.walk (l := PySem.Challenge.rw_toldsums_k02_texts_of_no_row) rfl rfl (fun w h Y => PySem.W.kIn_of Y) ?F
  case F =>
    intro w mg fa h KX G hmg
    refine' My.all_mk KX G hmg ?a1 ?l1 ?c1 ?k1 ?a2 ?l2 ?c2 ?k2 ?a3 ?l3 ?c3 ?k3 ?a4 ?l4 ?c4 ?k4 ?a5 ?l5 ?c5 ?k5 ?a6 ?l6 ?c6 ?k6 ?a7 ?l7 ?c7 ?k7 ?a8 ?l8 ?c8 ?k8 ?a9 ?l9 ?c9 ?k9 ?a10 ?l10 ?c10 ?k10 ?a11 ?l11 ?c11 ?k11 ?a12 ?l12 ?c12 ?k12 ?a13 ?l13 ?c13 ?k13 ?a14 ?l14 ?c14 ?k14 ?a15 ?l15 ?c15 ?k15 ?zc_FIGURES ?eS ?eS_is ?eS_ty ?eS_bx ?eTx ?eTx_is ?eTx_ex ?eTx_ga ?eTx_gn ?eTx_cl ?eTx_ob ?eTx_bx ?eSt ?eSt_is ?eSt_ex ?eSt_ga ?eSt_gn ?eSt_cl ?eSt_ob ?eSt_bx ?eRs ?eRs_is ?eRs_ex ?eRs_ga ?eRs_gn ?eRs_cl ?eRs_ob ?eRs_bx ?ePl ?ePl_is ?ePl_ex ?ePl_ga ?ePl_gn ?ePl_cl ?ePl_ob ?ePl_bx ?eAk ?eAk_is ?eAk_ex ?eAk_ga ?eAk_gn ?eAk_cl ?eAk_ob ?eAk_bx ?r_sub ?r_s0 ?r_s1 ?r_s2 ?r_s3 ?r_s4 ?r_v0 ?r_v1 ?r_v2 ?r_v3 ?r_v4 ?r_n01 ?r_n02 ?r_n03 ?r_n04 ?r_n10 ?r_n12 ?r_n13 ?r_n14 ?r_n20 ?r_n21 ?r_n23 ?r_n24 ?r_n30 ?r_n31 ?r_n32 ?r_n34 ?r_n40 ?r_n41 ?r_n42 ?r_n43 ?z_len ?z_sum ?z_range ?z_tuple ?z_list ?z_int ?z_str ?z_bool ?z_isinstance ?z_min ?z_max ?z_zip ?z_reversed ?z_sorted ?z_abs ?z_all ?z_any ?z_set ?z_ValueError
    (case a1 => k_is)
    (case l1 => k_is)
    (case c1 => k_is)
    (case k1 => k_is)
    (case a2 => k_is)
    (case l2 => k_is)
    (case c2 => k_is)
    (case k2 => k_is)
    (case a3 => k_is)
    (case l3 => k_is)
    (case c3 => k_is)
    (case k3 => k_is)
    (case a4 => k_is)
    (case l4 => k_is)
    (case c4 => k_is)
    (case k4 => k_is)
    (case a5 => k_is)
    (case l5 => k_is)
    (case c5 => k_is)
    (case k5 => k_is)
    (case a6 => k_is)
    (case l6 => k_is)
    (case c6 => k_is)
    (case k6 => k_is)
    (case a7 => k_is)
    (case l7 => k_is)
    (case c7 => k_is)
    (case k7 => k_is)
    (case a8 => k_is)
    (case l8 => k_is)
    (case c8 => k_is)
    (case k8 => k_is)
    (case a9 => k_is)
    (case l9 => k_is)
    (case c9 => k_is)
    (case k9 => k_is)
    (case a10 => k_is)
    (case l10 => k_is)
    (case c10 => k_is)
    (case k10 => k_is)
    (case a11 => k_is)
    (case l11 => k_is)
    (case c11 => k_is)
    (case k11 => k_is)
    (case a12 => k_is)
    (case l12 => k_is)
    (case c12 => k_is)
    (case k12 => k_is)
    (case a13 => k_is)
    (case l13 => k_is)
    (case c13 => k_is)
    (case k13 => k_is)
    (case a14 => k_is)
    (case l14 => k_is)
    (case c14 => k_is)
    (case k14 => k_is)
    (case a15 => k_is)
    (case l15 => k_is)
    (case c15 => k_is)
    (case k15 => k_is)
    (case zc_FIGURES => k_is)
    (case eS => k_is)
    (case eS_is => k_is)
    (case eS_ty => k_is)
    (case eS_bx => k_is)
    (case eTx => k_is)
    (case eTx_is => k_is)
    (case eTx_ex => k_exc)
    (case eTx_ga => k_is)
    (case eTx_gn => k_is)
    (case eTx_cl => k_is)
    (case eTx_ob => k_is)
    (case eTx_bx => k_is)
    (case eSt => k_is)
    (case eSt_is => k_is)
    (case eSt_ex => k_exc)
    (case eSt_ga => k_is)
    (case eSt_gn => k_is)
    (case eSt_cl => k_is)
    (case eSt_ob => k_is)
    (case eSt_bx => k_is)
    (case eRs => k_is)
    (case eRs_is => k_is)
    (case eRs_ex => k_exc)
    (case eRs_ga => k_is)
    (case eRs_gn => k_is)
    (case eRs_cl => k_is)
    (case eRs_ob => k_is)
    (case eRs_bx => k_is)
    (case ePl => k_is)
    (case ePl_is => k_is)
    (case ePl_ex => k_exc)
    (case ePl_ga => k_is)
    (case ePl_gn => k_is)
    (case ePl_cl => k_is)
    (case ePl_ob => k_is)
    (case ePl_bx => k_is)
    (case eAk => k_is)
    (case eAk_is => k_is)
    (case eAk_ex => k_exc)
    (case eAk_ga => k_is)
    (case eAk_gn => k_is)
    (case eAk_cl => k_is)
    (case eAk_ob => k_is)
    (case eAk_bx => k_is)
    (case r_sub => k_is)
    (case r_s0 => kit_is)
    (case r_s1 => kit_is)
    (case r_s2 => kit_is)
    (case r_s3 => kit_is)
    (case r_s4 => kit_is)
    (case r_v0 => kit_is)
    (case r_v1 => kit_is)
    (case r_v2 => kit_is)
    (case r_v3 => kit_is)
    (case r_v4 => kit_is)
    (case r_n01 => kit_is)
    (case r_n02 => kit_is)
    (case r_n03 => kit_is)
    (case r_n04 => kit_is)
    (case r_n10 => kit_is)
    (case r_n12 => kit_is)
    (case r_n13 => kit_is)
    (case r_n14 => kit_is)
    (case r_n20 => kit_is)
    (case r_n21 => kit_is)
    (case r_n23 => kit_is)
    (case r_n24 => kit_is)
    (case r_n30 => kit_is)
    (case r_n31 => kit_is)
    (case r_n32 => kit_is)
    (case r_n34 => kit_is)
    (case r_n40 => kit_is)
    (case r_n41 => kit_is)
    (case r_n42 => kit_is)
    (case r_n43 => kit_is)
    (case z_len => k_is)
    (case z_sum => k_is)
    (case z_range => k_is)
    (case z_tuple => k_is)
    (case z_list => k_is)
    (case z_int => k_is)
    (case z_str => k_is)
    (case z_bool => k_is)
    (case z_isinstance => k_is)
    (case z_min => k_is)
    (case z_max => k_is)
    (case z_zip => k_is)
    (case z_reversed => k_is)
    (case z_sorted => k_is)
    (case z_abs => k_is)
    (case z_all => k_is)
    (case z_any => k_is)
    (case z_set => k_is)
    (case z_ValueError => k_is)

