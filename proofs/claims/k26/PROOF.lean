import PyProof.Rows.All
import Wide.All
import OpenK.AllK
import Wide.FinOn
import Lean
import PyProof.EqAt
import PyProof.EqKinds
import PyProof.TupleCall
import PyProof.ZipIter
import PyProof.NeKinds
import PyProof.Rows.CallKwBuiltin
import KE.KDictSum
import KE.KSortTup
import KE.KRevIter
import PyProof.Rows.Range3
import PyProof.Rows.FactsT2
import PyProof.DictTable
import PyProof.NsDelKeeps
import PyProof.Rows.SortRuns
import PyProof.ListRange
import KE.KLam
import KE.KNestM
import KE.KIntText
import PyProof.StrLawsTight
import PyProof.StrLawsIn
import PyProof.StrLawsAffix
import PyProof.StrLawsChain
import PyProof.StrWalks
import PyProof.ConsumeWalk
import PyProof.SliceStr2
import PyProof.StrLawsIdx
import PyProof.StrOps2
import PyProof.AutoSeq1
import PyProof.ListMulRoad
import KE.KSortKey
import PyProof.DictTruth
import PySem.Challenge.RW_toldsums_k26_whole_planted_rows_parted
set_option Elab.async false
set_option linter.all false
set_option maxRecDepth 100000
set_option maxHeartbeats 4000000
/-! THE HAND LAYER, for ints, bools, texts, own classes, LISTS and tuples (index, slices, in, append, pop ..), calls, loops. Paste it whole ahead of your own text; what your proof does not reach may be deleted. -/
namespace L2
open PySem PySem.Spec PyProof.Rows

/-- a key: an int or a str -/
abbrev Key := Sum Int Str
def keyIs : Key → Value → Bool
  | .inl k, v => Value.isInt k v
  | .inr x, v => Value.isStrOf x v
def keyH (w : World) : Key → Int
  | .inl k => hashInt k
  | .inr x => hashStr w x
theorem keyIs_shape : ∀ {k : Key} {v : Value}, keyIs k v = true → (∃ i t, k = Sum.inl i ∧ v = Value.int i t) ∨ (∃ x t, k = Sum.inr x ∧ v = Value.str x t)
  | .inl i, v, h => by
    obtain ⟨t, e⟩ := Value.isInt_shape (k := i) (v := v) h
    exact .inl ⟨i, t, rfl, e⟩
  | .inr x, v, h => by
    obtain ⟨t, e⟩ := Value.isStrOf_shape (x := x) (v := v) h
    exact .inr ⟨x, t, rfl, e⟩
theorem key_ll (a b : Int) : decide ((Sum.inl a : Key) = Sum.inl b) = (a == b) := by
  by_cases e : a = b
  · subst e; simp
  · have h : ¬ (Sum.inl a : Key) = Sum.inl b := fun q => e (Sum.inl.inj q)
    rw [decide_eq_false h]
    exact (beq_eq_false_iff_ne.mpr e).symm
theorem key_rr (a b : Str) : decide ((Sum.inr a : Key) = Sum.inr b) = decide (a = b) := by
  by_cases e : a = b
  · subst e; simp
  · have h : ¬ (Sum.inr a : Key) = Sum.inr b := fun q => e (Sum.inr.inj q)
    rw [decide_eq_false h, decide_eq_false e]
theorem key_lr (a : Int) (b : Str) : decide ((Sum.inl a : Key) = Sum.inr b) = false := decide_eq_false (fun q => nomatch q)
theorem key_rl (a : Str) (b : Int) : decide ((Sum.inr a : Key) = Sum.inl b) = false := decide_eq_false (fun q => nomatch q)

def mixKind (prog : Program) (w : World) : PySem.KeyKind prog w Key where
  is := keyIs
  hash := keyH w
  inj := fun v a b ha hb => by
    rcases keyIs_shape ha with ⟨i, t, rfl, rfl⟩ | ⟨x, t, rfl, rfl⟩
    · rcases keyIs_shape hb with ⟨j, u, rfl, e⟩ | ⟨y, u, rfl, e⟩
      · injection e with e1 _; rw [e1]
      · exact nomatch e
    · rcases keyIs_shape hb with ⟨j, u, rfl, e⟩ | ⟨y, u, rfl, e⟩
      · exact nomatch e
      · injection e with e1 _; rw [e1]
  byValue := fun k v h => by
    rcases keyIs_shape h with ⟨i, t, rfl, rfl⟩ | ⟨x, t, rfl, rfl⟩ <;> rfl
  pyHash := fun hv h => by
    rcases keyIs_shape hv with ⟨i, t, rfl, rfl⟩ | ⟨x, t, rfl, rfl⟩
    · exact wpAny_pyHash_int h
    · exact wpAny_pyHash_str h
  eqBool := fun hu hv h => by
    rcases keyIs_shape hu with ⟨i, t, rfl, rfl⟩ | ⟨x, t, rfl, rfl⟩
    · rcases keyIs_shape hv with ⟨j, u, rfl, rfl⟩ | ⟨y, u, rfl, rfl⟩
      · rw [key_ll] at h; exact wpAny_eqBool_int h
      · rw [key_lr] at h; exact SeqAt.EqAt.int_str i t y u _ _ _ _ h
    · rcases keyIs_shape hv with ⟨j, u, rfl, rfl⟩ | ⟨y, u, rfl, rfl⟩
      · rw [key_rl] at h; exact SeqAt.EqAt.str_int x t j u _ _ _ _ h
      · rw [key_rr] at h; exact wpAny_eqBool_str h
  «strs» := fun k x t v h => by
    rcases keyIs_shape h with ⟨i, u, rfl, e⟩ | ⟨y, u, rfl, e⟩
    · exact nomatch e
    · injection e with e1 _
      subst e1
      cases v <;> rfl

end L2

namespace L2
open PySem PySem.Spec PyProof.Rows

/-- a value, without the heap -/
inductive V where
  | non | bl (b : Bool) | int (i : Int) | str (x : Str) | byt (b : Array UInt8) | flt (b : UInt64) | ref (a : Addr) | ty (n : String)
  deriving DecidableEq

def RelV : V → Value → Prop
  | .non, u => u = Value.none
  | .bl b, u => u = Value.bool b
  | .int i, u => ∃ t, u = Value.int i t
  | .str x, u => ∃ t, u = Value.str x t
  | .byt b, u => ∃ t, u = Value.bytes b t
  | .flt b, u => ∃ t, u = Value.float b t
  | .ref a, u => u = Value.ref a
  | .ty n, u => u = Value.type n

abbrev Vals : List V → List Value → Prop := Paired RelV
theorem Vals.length {xs : List V} {us : List Value} (r : Vals xs us) : xs.length = us.length := Paired.length r
theorem Vals.get : ∀ {xs : List V} {us : List Value} {i : Nat} {x : V}, Vals xs us → xs[i]? = some x → ∃ u, us[i]? = some u ∧ RelV x u
  | _, _, _, _, .nil, e => by simp at e
  | _, _, 0, _, .cons r _, e => by simp at e; subst e; exact ⟨_, rfl, r⟩
  | _, _, i + 1, x, .cons _ t, e => by
    obtain ⟨u, h1, h2⟩ := Vals.get (i := i) (x := x) t (by simpa using e)
    exact ⟨u, by simpa using h1, h2⟩
theorem Vals.set {x : V} {u : Value} (r : RelV x u) : ∀ {xs : List V} {us : List Value} (i : Nat), Vals xs us → Vals (xs.set i x) (us.set i u)
  | _, _, _, .nil => .nil
  | _, _, 0, .cons _ t => .cons r t
  | _, _, i + 1, .cons q t => .cons q (Vals.set r i t)
theorem Vals.append : ∀ {xs ys : List V} {us ws : List Value}, Vals xs us → Vals ys ws → Vals (xs ++ ys) (us ++ ws)
  | _, _, _, _, .nil, s => s
  | _, _, _, _, .cons r t, s => .cons r (Vals.append t s)
theorem Vals.take : ∀ {xs : List V} {us : List Value} (n : Nat), Vals xs us → Vals (xs.take n) (us.take n)
  | _, _, 0, _ => .nil
  | _, _, _ + 1, .nil => .nil
  | _, _, n + 1, .cons r t => .cons r (Vals.take n t)
theorem Vals.drop : ∀ {xs : List V} {us : List Value} (n : Nat), Vals xs us → Vals (xs.drop n) (us.drop n)
  | _, _, 0, r => r
  | _, _, _ + 1, .nil => .nil
  | _, _, n + 1, .cons _ t => Vals.drop n t
def RelO : Option V → Option Value → Prop
  | some v, some u => RelV v u
  | none, none => True
  | _, _ => False
def KV {κ : Type} : List (κ × V) → List (κ × Value) → Prop := Paired fun (p : κ × V) (q : κ × Value) => p.1 = q.1 ∧ RelV p.2 q.2

/-- a key of a dict (00_mix): an int or a text -/
def kV : Key → V
  | .inl i => .int i
  | .inr x => .str x

/-- what stands at a tracked address -/
inductive HO where
  /-- a list -/
  | lst (xs : List V)
  /-- a tuple (never changes) -/
  | tup (xs : List V)
  /-- a dict whose keys are ints and texts; one whose keys are tuples of ints and texts (the empty one is both) -/
  | dK (kvs : List (Key × V)) | dT (kvs : List (List Key × V))
  /-- a set of ints: its members, its size -/
  | set (S : Int → Bool) (n : Nat)
  /-- an instance of the class at C, its dict at dx, its attributes -/
  | ins (C dx : Addr) (fs : List (Str × V))
  /-- the dict of the instance at x -/
  | own (x : Addr)
  /-- the dict of an exception -/
  | xd (fs : List (Str × V))
  /-- a bound method, f of x -/
  | met (f x : Addr)
  /-- a range object lo, lo + 1, .. below hi -/
  | rng (lo hi : Int)
  /-- a thing that is known to the object (the script; a dict while a loop walks it): read, never written while it is so -/
  | frz (o : Obj) (u : HO)
  /-- a code object's table -/
  | tbl (ps : Array Value)
  /-- any other thing, by what is true of its one object (a def of one's own: SetO a S n := HO.ext fun h => ..) -/
  | ext (φ : Heap → Prop)

abbrev Hp := Addr → Option HO
def upd (H : Hp) (a : Addr) (o : HO) : Hp := fun b => if b = a then some o else H b
theorem upd_same {H : Hp} {a : Addr} {o : HO} : upd H a o a = some o := by unfold upd; rw [if_pos rfl]
theorem upd_ne {H : Hp} {a b : Addr} {o : HO} (h : b ≠ a) : upd H a o b = H b := by unfold upd; rw [if_neg h]
/-- two objects of different content stand apart -/
theorem ne_of {H : Hp} {a b : Addr} {o u : HO} (h : H a = some o) (h' : H b = some u) (d : o ≠ u) : a ≠ b := by
  intro e; subst e; rw [h] at h'; exact d (Option.some.inj h')
theorem ne_of_none {H : Hp} {a b : Addr} {o : HO} (h : H a = some o) (h' : H b = none) : a ≠ b := by
  intro e; subst e; rw [h] at h'; cases h'

section
variable (P : Program) (w : World)
def ObjOk (H : Hp) (h : Heap) (a : Addr) : HO → Prop
  | .lst xs => xs.length ≤ sizeLine ∧ ∃ (its : List Value) (n : Nat), Vals xs its ∧ h.get? a = some { cls := .type "list", data := .seq its.toArray n }
  | .tup xs => xs.length ≤ sizeLine ∧ ∃ its : List Value, Vals xs its ∧ IsTup h a its.toArray
  | .dK kvs => kvs.length ≤ sizeLine ∧ (a == sysModules) = false ∧ ∃ vs, KV kvs vs ∧ h.DictOf (mixKind P w) a vs
  | .dT kvs => kvs.length ≤ sizeLine ∧ (a == sysModules) = false ∧ ∃ xs : List (List Key × Addr × Value),
      Paired (fun (p : List Key × V) (q : List Key × Addr × Value) => p.1 = q.1 ∧ H q.2.1 = some (.tup (p.1.map kV)) ∧ RelV p.2 q.2.2) kvs xs ∧
      ∃ o es ep, h.get? a = some o ∧ o.ExactDict ∧ o.data = .dict es ep ∧ es.toList = xs.map (entryOfKey (tupleKind (mixKind P w))) ∧ (xs.map (·.1)).Nodup
  | .set S n => h.SetOf (intKind P w) a S n
  | .ins C dx fs => H dx = some (.own a) ∧ fs.length ≤ 1000 ∧ dx ≠ a ∧ h.get? a = some (PySem.W.instObj C dx) ∧
      ∃ mA, h.Ns1 dx mA ∧ (∀ f, RelO (fs.lookup f) (mA f)) ∧ PySem.Within mA (fs.map (·.1))
  | .own _ => ∃ o, h.get? a = some o
  | .xd fs => ∃ mA, h.Ns1 a mA ∧ ∀ f, RelO (fs.lookup f) (mA f)
  | .rng lo hi => ∃ t u v, h.get? a = some { cls := .type "range", data := .fields #[.int lo t, .int hi u, .int 1 v] }
  | .frz o u => h.get? a = some o ∧ ObjOk H h a u
  | .tbl ps => h.get? a = some { cls := .none, data := .fields ps }
  | .met f x => h.get? a = some (PySem.W.methodObj (.ref f) (.ref x))
  | .ext φ => φ h ∧ (∃ o, h.get? a = some o) ∧ ∀ h1 h2 : Heap, φ h1 → (∀ o, h1.get? a = some o → h2.get? a = some o) → φ h2
/-- the abstract heap is held -/
def HOk (H : Hp) (h : Heap) : Prop := ∀ a o, H a = some o → ObjOk P w H h a o
end

section
variable {P : Program} {w : World} {H H' : Hp} {h h' : Heap} {a : Addr} {o : HO}
theorem ObjOk.lt (x : ObjOk P w H h a o) : a < h.objs.size := by
  cases o with
  | lst xs => obtain ⟨_, _, _, _, e⟩ := x; exact Heap.lt_size e
  | tup xs => obtain ⟨_, _, _, p⟩ := x; exact p.lt
  | dK kvs => obtain ⟨_, _, _, _, o, _, _, e, _⟩ := x; exact Heap.lt_size e
  | dT kvs => obtain ⟨_, _, _, _, o, _, _, e, _⟩ := x; exact Heap.lt_size e
  | set S n => obtain ⟨o, _, _, _, e, _⟩ := x; exact Heap.lt_size e
  | ins C dx fs => obtain ⟨_, _, _, e, _⟩ := x; exact Heap.lt_size e
  | own y => obtain ⟨_, e⟩ := x; exact Heap.lt_size e
  | xd fs => obtain ⟨_, ⟨_, _, _, e, _⟩, _⟩ := x; exact Heap.lt_size e
  | rng lo hi => obtain ⟨_, _, _, e⟩ := x; exact Heap.lt_size e
  | frz ob u => obtain ⟨e, _⟩ := x; exact Heap.lt_size e
  | tbl ps => exact Heap.lt_size (show h.get? a = some _ from x)
  | met f y => exact Heap.lt_size (show h.get? a = some _ from x)
  | ext φ => obtain ⟨_, ⟨_, e⟩, _⟩ := x; exact Heap.lt_size e
theorem Paired.mapP {α β : Type} {F G : α → β → Prop} : ∀ {l₁ : List α} {l₂ : List β}, Paired F l₁ l₂ → (∀ a b, F a b → G a b) → Paired G l₁ l₂
  | _, _, .nil, _ => .nil
  | _, _, .cons r t, f => .cons (f _ _ r) (Paired.mapP t f)
/-- what an object's description leans on: its own object, its own dict, the tuples -/
theorem ObjOk.stay (x : ObjOk P w H h a o) (k : ∀ b u, (b = a ∨ H b = some (.own a)) → h.get? b = some u → h'.get? b = some u)
    (ho : ∀ b, H b = some (.own a) → H' b = some (.own a)) (ht : ∀ b xs, H b = some (.tup xs) → H' b = some (.tup xs)) : ObjOk P w H' h' a o := by
  induction o with
  | lst xs => obtain ⟨z, its, n, r, e⟩ := x; exact ⟨z, its, n, r, k _ _ (.inl rfl) e⟩
  | tup xs => obtain ⟨z, its, r, ob, e, c⟩ := x; exact ⟨z, its, r, ob, k _ _ (.inl rfl) e, c⟩
  | dK kvs => obtain ⟨z, y, vs, r, ob, es, ep, e, c⟩ := x; exact ⟨z, y, vs, r, ob, es, ep, k _ _ (.inl rfl) e, c⟩
  | dT kvs =>
    obtain ⟨z, y, xs, r, ob, es, ep, e, c⟩ := x
    exact ⟨z, y, xs, Paired.mapP r fun p q z => ⟨z.1, ht _ _ z.2.1, z.2.2⟩, ob, es, ep, k _ _ (.inl rfl) e, c⟩
  | set S n => obtain ⟨ob, es, ep, t, e, c⟩ := x; exact ⟨ob, es, ep, t, k _ _ (.inl rfl) e, c⟩
  | ins C dx fs =>
    obtain ⟨d, z, ne, e, mA, ⟨od, es, ep, e2, c⟩, r⟩ := x
    exact ⟨ho _ d, z, ne, k _ _ (.inl rfl) e, mA, ⟨od, es, ep, k _ _ (.inr d) e2, c⟩, r⟩
  | own y => obtain ⟨ob, e⟩ := x; exact ⟨ob, k _ _ (.inl rfl) e⟩
  | xd fs => obtain ⟨mA, ⟨od, es, ep, e, c⟩, r⟩ := x; exact ⟨mA, ⟨od, es, ep, k _ _ (.inl rfl) e, c⟩, r⟩
  | rng lo hi => obtain ⟨t, u, v, e⟩ := x; exact ⟨t, u, v, k _ _ (.inl rfl) e⟩
  | frz ob u ih => obtain ⟨e, q⟩ := x; exact ⟨k _ _ (.inl rfl) e, ih q⟩
  | tbl ps =>
    have e : h.get? a = some { cls := .none, data := .fields ps } := x
    show h'.get? a = some { cls := .none, data := .fields ps }
    exact k a _ (.inl rfl) e
  | met f y =>
    have e : h.get? a = some (PySem.W.methodObj (.ref f) (.ref y)) := x
    show h'.get? a = some (PySem.W.methodObj (.ref f) (.ref y))
    exact k a _ (.inl rfl) e
  | ext φ => obtain ⟨p, ⟨o, e⟩, st⟩ := x; exact ⟨st _ _ p fun o q => k _ _ (.inl rfl) q, ⟨o, k _ _ (.inl rfl) e⟩, st⟩
theorem HOk.lt (x : HOk P w H h) (e : H a = some o) : a < h.objs.size := (x a o e).lt
theorem HOk.fresh (x : HOk P w H h) (e : h.objs.size ≤ a) : H a = none := by
  cases q : H a with
  | none => rfl
  | some u => exact absurd (Nat.lt_of_lt_of_le (x.lt q) e) (Nat.lt_irrefl _)
/-- every object of the heap is kept -/
theorem HOk.kept (x : HOk P w H h) (k : ∀ b u, h.get? b = some u → h'.get? b = some u) : HOk P w H h' := fun a o e =>
  (x a o e).stay (fun b u _ q => k b u q) (fun _ q => q) fun _ _ q => q
/-- a new object is laid and tracked -/
theorem HOk.laid (x : HOk P w H h) (k : ∀ b u, h.get? b = some u → h'.get? b = some u) (hp : h.objs.size ≤ a) (new : ObjOk P w (upd H a o) h' a o) : HOk P w (upd H a o) h' := fun b u e => by
  have hn := x.fresh hp
  by_cases hb : b = a
  · subst hb; rw [upd_same] at e; cases e; exact new
  · rw [upd_ne hb] at e
    exact (x b u e).stay (fun c v _ q => k c v q) (fun c q => by rw [upd_ne (ne_of_none q hn)]; exact q) fun c xs q => by rw [upd_ne (ne_of_none q hn)]; exact q
end

/-- what may be read as u: it is u, or a known u -/
def Rd (H : Hp) (a : Addr) (u : HO) : Prop := H a = some u ∨ ∃ o, H a = some (.frz o u)
theorem Rd.of {H : Hp} {a : Addr} {u : HO} (h : H a = some u) : Rd H a u := .inl h
theorem Rd.ok {P : Program} {w : World} {H : Hp} {h : Heap} {a : Addr} {u : HO} (r : Rd H a u) (x : HOk P w H h) : ObjOk P w H h a u := by
  rcases r with r | ⟨o, r⟩
  · exact x a u r
  · obtain ⟨_, q⟩ := x a _ r
    exact q
/-- what may be written -/
def Mut : Option HO → Prop
  | some (.lst _) => True
  | some (.dK _) => True
  | some (.dT _) => True
  | some (.set _ _) => True
  | some (.ins _ _ _) => True
  | some (.ext _) => True
  | _ => False
section
variable {P : Program} {w : World} {H : Hp} {h h' : Heap} {x e : Addr} {o' : HO}
/-- the object at e is changed: x itself, or the dict of the instance x -/
theorem HOk.write (ok : HOk P w H h) (mu : Mut (H x)) (he : e = x ∨ H e = some (.own x)) (k : ∀ b u, b ≠ e → h.get? b = some u → h'.get? b = some u) (heo : ∃ u, h'.get? e = some u)
    (new : ObjOk P w (upd H x o') h' x o') : HOk P w (upd H x o') h' := fun b u q => by
  have nown : ∀ c y, H c = some (.own y) → c ≠ x := fun c y r z => by subst z; rw [r] at mu; exact mu
  have ntup : ∀ c xs, H c = some (.tup xs) → c ≠ x := fun c xs r z => by subst z; rw [r] at mu; exact mu
  by_cases hb : b = x
  · subst hb; rw [upd_same] at q; cases q; exact new
  · rw [upd_ne hb] at q
    by_cases hbe : b = e
    · have q' : H b = some (.own x) := by
        rcases he with z | z
        · exact absurd (hbe.trans z) hb
        · rw [hbe]; exact z
      rw [q] at q'; cases q'
      obtain ⟨v, hv⟩ := heo
      exact ⟨v, by rw [hbe]; exact hv⟩
    · refine (ok b u q).stay (fun c v hc r => k c v ?_ r) (fun c r => by rw [upd_ne (nown c b r)]; exact r) fun c xs r => by rw [upd_ne (ntup c xs r)]; exact r
      rcases hc with rfl | hc
      · exact hbe
      · rintro rfl
        rcases he with z | z
        · exact nown c b hc z
        · rw [hc] at z; cases z; exact hb rfl
end

/-! ### kept unless tracked; of the frames at fs (the callers') the slots may change (an exception that passes writes there); of the records at ex (iterators) nothing is said -/
structure Un (fs ex : List Addr) (H H' : Hp) (h h' : Heap) : Prop where
  keep : ∀ b o, h.get? b = some o → H b = none → b ∉ fs → b ∉ ex → h'.get? b = some o
  slot : ∀ b o, h.get? b = some o → H b = none → b ∈ fs → b ∉ ex → ∃ sl, h'.get? b = some { o with slots := sl }
  free : ∀ b o, h.get? b = some o → H b = none → b ∉ ex → H' b = none
  there : ∀ b o, h.get? b = some o → b ∉ ex → ∃ o', h'.get? b = some o'
  tups : ∀ b xs, H b = some (.tup xs) → H' b = some (.tup xs)
  frzs : ∀ b o u, H b = some (.frz o u) → H' b = some (.frz o u)
  tbls : ∀ b ps, H b = some (.tbl ps) → ∃ more, H' b = some (.tbl (ps ++ more))
section
variable {fs fs' ex ex' : List Addr} {H H1 H2 : Hp} {h h1 h2 h' : Heap} {a x e : Addr} {o : HO}
theorem Un.any (u : Un fs ex H H1 h h1) {b : Addr} {ob : Obj} (q : h.get? b = some ob) (n : H b = none) (hx : b ∉ ex) : ∃ sl, h1.get? b = some { ob with slots := sl } := by
  by_cases hb : b ∈ fs
  · exact u.slot b ob q n hb hx
  · exact ⟨ob.slots, u.keep b ob q n hb hx⟩
theorem Un.trans (a : Un fs ex H H1 h h1) (b : Un fs ex H1 H2 h1 h2) : Un fs ex H H2 h h2 where
  keep := fun c ob q n hc hx => b.keep c ob (a.keep c ob q n hc hx) (a.free c ob q n hx) hc hx
  slot := fun c ob q n hc hx => by
    obtain ⟨sl, e1⟩ := a.slot c ob q n hc hx
    obtain ⟨sl', e2⟩ := b.slot c _ e1 (a.free c ob q n hx) hc hx
    exact ⟨sl', e2⟩
  free := fun c ob q n hx => by
    obtain ⟨o', e1⟩ := a.there c ob q hx
    exact b.free c o' e1 (a.free c ob q n hx) hx
  there := fun c ob q hx => by
    obtain ⟨o', e1⟩ := a.there c ob q hx
    exact b.there c o' e1 hx
  tups := fun c xs q => b.tups c xs (a.tups c xs q)
  frzs := fun c ob xs q => b.frzs c ob xs (a.frzs c ob xs q)
  tbls := fun c ps q => by
    obtain ⟨m1, e1⟩ := a.tbls c ps q
    obtain ⟨m2, e2⟩ := b.tbls c _ e1
    exact ⟨m1 ++ m2, by rw [e2, Array.append_assoc]⟩
theorem Un.kept (k : ∀ b u, h.get? b = some u → h'.get? b = some u) : Un fs ex H H h h' :=
  ⟨fun b ob q _ _ _ => k b ob q, fun b ob q _ _ _ => ⟨ob.slots, k b ob q⟩, fun _ _ _ n _ => n, fun b ob q _ => ⟨ob, k b ob q⟩, fun _ _ q => q, fun _ _ _ q => q, fun _ ps q => ⟨#[], by rw [q]; simp⟩⟩
theorem Un.refl : Un fs ex H H h h := Un.kept fun _ _ q => q
theorem Un.laid (k : ∀ b u, h.get? b = some u → h'.get? b = some u) (hp : h.objs.size ≤ a) (hn : H a = none) : Un fs ex H (upd H a o) h h' where
  keep := fun b u q _ _ _ => k b u q
  slot := fun b u q _ _ _ => ⟨u.slots, k b u q⟩
  free := fun b u q n _ => by rw [upd_ne (Nat.ne_of_lt (Nat.lt_of_lt_of_le (Heap.lt_size q) hp))]; exact n
  there := fun b u q _ => ⟨u, k b u q⟩
  tups := fun b xs q => by rw [upd_ne (ne_of_none q hn)]; exact q
  frzs := fun b u xs q => by rw [upd_ne (ne_of_none q hn)]; exact q
  tbls := fun b ps q => ⟨#[], by rw [upd_ne (ne_of_none q hn), q]; simp⟩
theorem Un.write (mu : Mut (H x)) (he : e = x ∨ H e = some (.own x)) (k : ∀ b u, b ≠ e → h.get? b = some u → h'.get? b = some u) (heo : ∃ u, h'.get? e = some u) : Un fs ex H (upd H x o) h h' := by
  have hx : ∀ b, H b = none → b ≠ x := fun b n z => by subst z; rw [n] at mu; exact mu
  have hb : ∀ b, H b = none → b ≠ e := fun b n z => by
    subst z
    rcases he with r | r
    · exact hx b n r
    · rw [n] at r; cases r
  have hm : ∀ b u, H b = some u → ¬ Mut (some u) → b ≠ x := fun b u q nm z => by subst z; rw [q] at mu; exact nm mu
  refine ⟨fun b u q n _ _ => k b u (hb b n) q, fun b u q n _ _ => ⟨u.slots, k b u (hb b n) q⟩, fun b u q n _ => by rw [upd_ne (hx b n)]; exact n, fun b u q _ => ?_,
    fun b xs q => by rw [upd_ne (hm b _ q fun z => z)]; exact q, fun b u xs q => by rw [upd_ne (hm b _ q fun z => z)]; exact q, fun b ps q => ⟨#[], by rw [upd_ne (hm b _ q fun z => z), q]; simp⟩⟩
  by_cases hbe : b = e
  · subst hbe; exact heo
  · exact ⟨u, k b u hbe q⟩
theorem Un.mono (u : Un fs ex H H1 h h1) (hs : ∀ b ∈ fs, b ∈ fs') (hx : ∀ b ∈ ex, b ∈ ex') : Un fs' ex' H H1 h h1 :=
  ⟨fun b ob q n hb he => u.keep b ob q n (fun z => hb (hs b z)) fun z => he (hx b z), fun _ _ q n _ he => u.any q n fun z => he (hx _ z), fun b ob q n he => u.free b ob q n fun z => he (hx b z), fun b ob q he => u.there b ob q fun z => he (hx b z), u.tups, u.frzs, u.tbls⟩
end

/-! ### the heap without what is tracked -/
def trk (h : Heap) (H : Hp) : List Addr := (List.range h.objs.size).filter fun a => (H a).isSome
def hidT (h : Heap) (H : Hp) : Heap := PySem.W.hideAll h (trk h H)
theorem hidT_size (h : Heap) (H : Hp) : (hidT h H).objs.size = h.objs.size := PySem.W.hideAll_size _ _
theorem hidT_get {h : Heap} {H : Hp} {b : Addr} {o : Obj} (e : h.get? b = some o) (n : H b = none) : (hidT h H).get? b = some o :=
  PySem.W.hideAll_get _ e fun hm => by
    have q : (H b).isSome = true := (List.mem_filter.mp hm).2
    rw [n] at q; simp at q
theorem of_hidT {h : Heap} {H : Hp} {b : Addr} {o : Obj} (e : (hidT h H).get? b = some o) : h.get? b = some o ∧ H b = none := by
  have e' : h.get? b = some o := PySem.W.of_hideAll (trk h H) e
  refine ⟨e', ?_⟩
  cases q : H b with
  | none => rfl
  | some x =>
    have hm : b ∈ trk h H := List.mem_filter.mpr ⟨List.mem_range.mpr (Heap.lt_size e'), by simp [q]⟩
    have z : (hidT h H).get? b = none := PySem.W.hideAll_none (trk h H) hm
    rw [z] at e; cases e

/-! ### OpenK's ledger, filled with every new object but one -/
def allNews (g h : Heap) (L : Addr) : List (Addr × Obj) := (List.range h.objs.size).filterMap fun a => if a = L ∨ (g.get? a).isSome = true then none else (h.get? a).map fun o => (a, o)
def rest (g h : Heap) (L d : Addr) : List (Addr × Obj) := (allNews g h L).filter fun p => decide (p.1 ≠ d)
end L2

namespace L2
open PySem PySem.Spec PyProof.Rows

/-- the module's facts, over the base: the heap at the law's entry without what is tracked there -/
structure Mod (K : PySem.W.Frag) (mg : Str → Option Value) (base : Heap) : Prop where
  kin : K.In base
  glob : base.Ns mainGlobals mg
  blt : ∃ mb, base.Ns builtinsNs mb ∧ ∀ x : Str, x ≠ "__name__" → mb x = bootBuiltins x
  nolimit : base.NoLimit

/-- the context: a def's body (or a comprehension's block) running. base: fixed through the whole law; s₀, H₀: the entry; outer: the frames whose slots others may change (a def's callers); stack: all frames that run;
   ex: iterators that were made ahead of the entry and are walked here (a comprehension's); fn: the names whose cells were made at the entry (a def: all; a comprehension's block: its own); calm: not within an except suite; pn: pins that every state bears; xe: what is wanted of an exception that leaves the code -/
structure Cx where
  prog : Program
  w : World
  K : PySem.W.Frag
  mg : Str → Option Value
  base : Heap
  A : Around
  N : List Str
  s₀ : Shared
  H₀ : Hp
  env : Env
  outer : List Env
  stack : List Env
  ex : List Addr
  fn : Str → Bool
  calm : Bool
  pn : List (Addr × Obj)
  xe : Value → Shared → Prop
/-- the callers' frames -/
def frs (l : List Env) : List Addr := l.filterMap (·.frame)
abbrev Cx.fs (X : Cx) : List Addr := frs X.outer

def Vis (sc : Scope) (x : Str) : Prop := sc.names.lookup x = some .local ∨ sc.names.lookup x = some .cell ∨ sc.names.lookup x = some .free
def Loc (sc : Scope) (x : Str) : Prop := sc.names.lookup x = some .local ∨ sc.names.lookup x = some .cell
def Look (env : Env) (h : Heap) (m : Str → Option Value) (x : Str) (u : Value) : Prop :=
  (env.kindOf x = some .local ∧ m x = some u) ∨ ((env.kindOf x = some .cell ∨ env.kindOf x = some .free) ∧ ∃ c, env.cells.lookup x = some c ∧ h.IsCell c (some u))

structure Cx.Ok (X : Cx) : Prop where
  mod : Mod X.K X.mg X.base
  kind : X.env.scope.kind = .function
  glob : X.env.globals = mainGlobals
  blt : X.env.builtins = builtinsNs
  above : X.s₀.heap.objs.size ≤ X.env.locals
  inj : ∀ x y c, X.env.cells.lookup x = some c → X.env.cells.lookup y = some c → x = y
  has : ∀ x, (X.env.kindOf x = some .cell ∨ X.env.kindOf x = some .free) → ∃ c, X.env.cells.lookup x = some c
  cab : ∀ x c, X.fn x = true → X.env.cells.lookup x = some c → X.s₀.heap.objs.size ≤ c
  hd : X.calm = true → X.A.handled = none
  frames : X.A.frames = some X.stack
  stk : X.stack = X.outer ∨ (X.stack = X.env :: X.outer ∧ X.env.frame = some X.env.locals)
  exf : ∀ b ∈ X.ex, b ≠ X.env.locals ∧ ∀ x c, X.env.cells.lookup x = some c → c ≠ b
  bs : ∀ b o, X.base.get? b = some o → X.s₀.heap.get? b = some o ∧ X.H₀ b = none
  bsz : X.base.objs.size ≤ X.s₀.heap.objs.size
  noex : ∀ b o, X.base.get? b = some o → b ∉ X.ex
  exfs : ∀ b ∈ X.ex, b ∉ X.fs
  funs : X.s₀.heap.FunFrames X.base X.outer
  frf : ∀ b ∈ X.fs, X.H₀ b = none

structure Inv (X : Cx) (pins : List (Addr × Obj)) (σ : List (Option V)) (H : Hp) (s : Shared) : Prop where
  ok : X.Ok
  os : s.os = X.s₀.os
  bare : AllBare s.gens
  base : Un X.fs X.ex X.H₀ H X.s₀.heap s.heap
  loc : ∃ m, s.heap.Ns X.env.locals m ∧ ∀ (i : Nat) (x : Str) (v : V), X.N[i]? = some x → σ[i]? = some (some v) → Vis X.env.scope x → ∃ u, RelV v u ∧ Look X.env s.heap m x u
  cell : ∀ x c, X.env.cells.lookup x = some c → ∃ v, s.heap.IsCell c v
  free : H X.env.locals = none
  freeC : ∀ x c, X.env.cells.lookup x = some c → H c = none
  pin : ∀ p ∈ X.pn ++ pins, s.heap.get? p.1 = some p.2 ∧ H p.1 = none ∧ p.1 ≠ X.env.locals ∧ p.1 ∉ X.fs ∧ ∀ v, p.2.data ≠ .cell v
  hok : HOk X.prog X.w H s.heap
  len : σ.length = X.N.length

section
variable {X : Cx} {pins : List (Addr × Obj)} {σ : List (Option V)} {H H' : Hp} {s : Shared} {h' : Heap}

theorem Cx.Ok.nofr (ok : X.Ok) {b : Addr} {o : Obj} (e : X.base.get? b = some o) : b ∉ X.fs := fun hb => by
  have := (ok.funs.mem hb).1
  rw [e] at this; cases this
theorem Inv.bs (I : Inv X pins σ H s) : ∀ b o, X.base.get? b = some o → s.heap.get? b = some o ∧ H b = none := fun b o e =>
  ⟨I.base.keep b o (I.ok.bs b o e).1 (I.ok.bs b o e).2 (I.ok.nofr e) (I.ok.noex b o e), I.base.free b o (I.ok.bs b o e).1 (I.ok.bs b o e).2 (I.ok.noex b o e)⟩
theorem Inv.bk (I : Inv X pins σ H s) : ∀ b o, X.base.get? b = some o → s.heap.get? b = some o := fun b o e => (I.bs b o e).1
theorem Inv.mod (I : Inv X pins σ H s) : Mod X.K X.mg X.base := I.ok.mod
theorem Inv.kIn (I : Inv X pins σ H s) : X.K.In s.heap := I.ok.mod.kin.keeps I.bk
theorem Inv.nolimit (I : Inv X pins σ H s) : s.heap.NoLimit := I.ok.mod.nolimit.keeps I.bk
/-- the frame over the base: for OpenK's rules (K.In X.base is I.mod.kin) -/
theorem Inv.fr (I : Inv X pins σ H s) : ∃ m, Fr X.base X.env.locals s.heap m :=
  let ⟨m, hn, _⟩ := I.loc
  ⟨m, hn, I.bk, Nat.le_trans I.ok.bsz I.ok.above⟩
theorem Inv.lt (I : Inv X pins σ H s) : X.env.locals < s.heap.objs.size := let ⟨_, hn, _⟩ := I.loc; hn.lt
theorem Inv.sz (I : Inv X pins σ H s) : X.s₀.heap.objs.size ≤ s.heap.objs.size := Nat.le_trans I.ok.above (Nat.le_of_lt I.lt)
theorem Inv.nofs (I : Inv X pins σ H s) {a : Addr} (h : s.heap.objs.size ≤ a) : a ∉ X.fs := fun hb => by
  obtain ⟨_, o, ho, _⟩ := I.ok.funs.mem hb
  exact absurd (Nat.lt_of_lt_of_le (Heap.lt_size ho) (Nat.le_trans I.sz h)) (Nat.lt_irrefl _)
theorem Inv.cne (I : Inv X pins σ H s) : ∀ x c, X.env.cells.lookup x = some c → c ≠ X.env.locals := fun x c e z => by
  obtain ⟨v, o, ho, hd⟩ := I.cell x c e
  obtain ⟨m, ⟨o', es, ep, ho', hd', _⟩, _⟩ := I.loc
  rw [z, ho'] at ho; cases ho; rw [hd'] at hd; cases hd
theorem Inv.funs (I : Inv X pins σ H s) : s.heap.FunFrames X.base X.outer := by
  have all : ∀ (l : List Env), (∀ b ∈ frs l, b ∈ X.fs) → X.s₀.heap.FunFrames X.base l → s.heap.FunFrames X.base l := by
    intro l
    induction l with
    | nil => intro _ _; trivial
    | cons env r ih =>
      intro hs hl
      obtain ⟨hk, ⟨L, o, hf, hn, ho, hd⟩, hr⟩ := hl
      have hL : L ∈ X.fs := hs L (by unfold frs; rw [List.filterMap_cons, hf]; exact List.mem_cons_self)
      obtain ⟨sl, e⟩ := I.base.slot L o ho (I.ok.frf L hL) hL fun z => I.ok.exfs L z hL
      exact ⟨hk, ⟨L, _, hf, hn, e, hd⟩, ih (fun b hb => hs b (by unfold frs; rw [List.filterMap_cons, hf]; exact List.mem_cons_of_mem _ hb)) hr⟩
  exact all X.outer (fun _ hb => hb) I.ok.funs

/-- the frames that run, for a call -/
theorem Inv.stack (I : Inv X pins σ H s) : s.heap.FunFrames X.base X.stack := by
  rcases I.ok.stk with e | ⟨e, hf⟩
  · rw [e]; exact I.funs
  · rw [e]
    obtain ⟨m, hn, _⟩ := I.loc
    refine .cons (by rw [I.ok.kind]; decide) hf hn ?_ I.funs
    exact Heap.get?_none_of_le (Nat.le_trans I.ok.bsz I.ok.above)
theorem Inv.stkSub (I : Inv X pins σ H s) : ∀ b ∈ frs X.stack, b ∈ X.env.locals :: X.fs := fun b hb => by
  rcases I.ok.stk with e | ⟨e, hf⟩
  · rw [e] at hb; exact List.mem_cons_of_mem _ hb
  · rw [e] at hb
    unfold frs at hb
    rw [List.filterMap_cons, hf] at hb
    exact hb
theorem Inv.stkFree (I : Inv X pins σ H s) : ∀ b ∈ frs X.stack, H b = none := fun b hb => by
  rcases List.mem_cons.mp (I.stkSub b hb) with e | hb
  · rw [e]; exact I.free
  · obtain ⟨_, o, ho, _⟩ := I.ok.funs.mem hb
    exact I.base.free b o ho (I.ok.frf b hb) fun z => I.ok.exfs b z hb

/-- THE STEP: the untracked objects but the frame and the records at ch are kept (the callers' frames up to slots), the frame's map is kept, the new abstract heap is held -/
theorem Inv.step {g' : Array GenState} {t' : Nat} {d' : Drawn} {ch : List Addr} (I : Inv X pins σ H s)
    (hch : ∀ b ∈ ch, (b ∈ X.ex ∨ X.s₀.heap.objs.size ≤ b) ∧ b ≠ X.env.locals ∧ (∀ x c, X.env.cells.lookup x = some c → c ≠ b) ∧ ∀ p ∈ X.pn ++ pins, p.1 ≠ b)
    (keep : ∀ b o, b ≠ X.env.locals → b ∉ X.fs → b ∉ ch → s.heap.get? b = some o → H b = none → h'.get? b = some o)
    (slot : ∀ b o, b ≠ X.env.locals → b ∈ X.fs → b ∉ ch → s.heap.get? b = some o → H b = none → ∃ sl, h'.get? b = some { o with slots := sl }) (free : ∀ b o, b ∉ ch → s.heap.get? b = some o → H b = none → H' b = none)
    (there : ∀ b o, b ∉ ch → s.heap.get? b = some o → ∃ o', h'.get? b = some o')
    (tups : ∀ b xs, H b = some (.tup xs) → H' b = some (.tup xs)) (frzs : ∀ b o u, H b = some (.frz o u) → H' b = some (.frz o u)) (tbls : ∀ b ps, H b = some (.tbl ps) → ∃ more, H' b = some (.tbl (ps ++ more)))
    (ns : ∀ m, s.heap.Ns X.env.locals m → h'.Ns X.env.locals m) (hok : HOk X.prog X.w H' h') (hg : AllBare g') :
    Inv X pins σ H' { s with heap := h', gens := g', drawn := d', toks := t' } := by
  have neL : ∀ b o, X.s₀.heap.get? b = some o → b ≠ X.env.locals := fun b o e => Nat.ne_of_lt (Nat.lt_of_lt_of_le (Heap.lt_size e) I.ok.above)
  have neC : ∀ b o, X.s₀.heap.get? b = some o → b ∉ X.ex → b ∉ ch := fun b o e hx hb => by
    rcases (hch b hb).1 with z | z
    · exact hx z
    · exact absurd (Nat.lt_of_lt_of_le (Heap.lt_size e) z) (Nat.lt_irrefl _)
  have cellK : ∀ x c, X.env.cells.lookup x = some c → ∀ v, s.heap.IsCell c v → h'.IsCell c v := fun x c e v ⟨o, ho, hd⟩ => by
    have nch : c ∉ ch := fun z => (hch c z).2.2.1 x c e rfl
    by_cases hc : c ∈ X.fs
    · obtain ⟨sl, q⟩ := slot c o (I.cne x c e) hc nch ho (I.freeC x c e)
      exact ⟨_, q, hd⟩
    · exact ⟨o, keep c o (I.cne x c e) hc nch ho (I.freeC x c e), hd⟩
  refine ⟨I.ok, I.os, hg, ⟨fun b o e n hb hx => ?_, fun b o e n hb hx => ?_, fun b o e n hx => ?_, fun b o e hx => ?_, fun b xs e => tups b xs (I.base.tups b xs e), fun b o xs e => frzs b o xs (I.base.frzs b o xs e), fun b ps e => ?_⟩, ?_, fun x c e => ?_, ?_, fun x c e => ?_, fun p hp => ?_, hok, I.len⟩
  · exact keep b o (neL b o e) hb (neC b o e hx) (I.base.keep b o e n hb hx) (I.base.free b o e n hx)
  · obtain ⟨sl, e1⟩ := I.base.slot b o e n hb hx
    obtain ⟨sl', e2⟩ := slot b _ (neL b o e) hb (neC b o e hx) e1 (I.base.free b o e n hx)
    exact ⟨sl', e2⟩
  · obtain ⟨o', e1⟩ := I.base.there b o e hx
    exact free b o' (neC b o e hx) e1 (I.base.free b o e n hx)
  · obtain ⟨o', e1⟩ := I.base.there b o e hx
    exact there b o' (neC b o e hx) e1
  · obtain ⟨m1, e1⟩ := I.base.tbls b ps e
    obtain ⟨m2, e2⟩ := tbls b _ e1
    exact ⟨m1 ++ m2, by rw [e2, Array.append_assoc]⟩
  · obtain ⟨m, hn, hl⟩ := I.loc
    refine ⟨m, ns m hn, fun i x v e1 e2 e3 => ?_⟩
    obtain ⟨u, r, l⟩ := hl i x v e1 e2 e3
    refine ⟨u, r, ?_⟩
    rcases l with l | ⟨k, c, e, z⟩
    · exact .inl l
    · exact .inr ⟨k, c, e, cellK x c e _ z⟩
  · obtain ⟨v, z⟩ := I.cell x c e
    exact ⟨v, cellK x c e v z⟩
  · obtain ⟨m, ⟨o, _, _, ho, _⟩, _⟩ := I.loc
    exact free _ o (fun z => (hch _ z).2.1 rfl) ho I.free
  · obtain ⟨v, o, ho, hd⟩ := I.cell x c e
    exact free c o (fun z => (hch c z).2.2.1 x c e rfl) ho (I.freeC x c e)
  · obtain ⟨e, n, ne, nf, d⟩ := I.pin p hp
    have nch : p.1 ∉ ch := fun z => (hch p.1 z).2.2.2 p hp rfl
    exact ⟨keep p.1 p.2 ne nf nch e n, free p.1 p.2 nch e n, ne, nf, d⟩
/-- .. where the frame's own object is kept too -/
theorem Inv.un {t' : Nat} (I : Inv X pins σ H s) (u : Un X.fs [] H H' s.heap h') (hok : HOk X.prog X.w H' h') : Inv X pins σ H' { s with heap := h', toks := t' } := by
  obtain ⟨m, ⟨o, es, ep, ho, r⟩, _⟩ := id I.loc
  obtain ⟨sl, hL⟩ := u.any ho I.free (by simp)
  exact I.step (g' := s.gens) (d' := s.drawn) (ch := []) (fun _ z => nomatch z) (fun b o _ hb _ e n => u.keep b o e n hb (by simp)) (fun b o _ hb _ e n => u.slot b o e n hb (by simp)) (fun b o _ e n => u.free b o e n (by simp)) (fun b o _ e => u.there b o e (by simp)) u.tups u.frzs u.tbls (fun m' hm => by
    obtain ⟨o', es', ep', ho', r'⟩ := hm
    rw [ho] at ho'; cases ho'
    exact ⟨_, es', ep', hL, r'⟩) hok I.bare
/-- behind a call (or a comprehension's block): the slots of this frame may have changed too, the records at ch may have turned -/
theorem Inv.call {g' : Array GenState} {t' : Nat} {d' : Drawn} {ch : List Addr} (I : Inv X pins σ H s) (u : Un (frs X.stack) ch H H' s.heap h') (hok : HOk X.prog X.w H' h') (hg : AllBare g')
    (hch : ∀ b ∈ ch, (b ∈ X.ex ∨ X.s₀.heap.objs.size ≤ b) ∧ b ≠ X.env.locals ∧ (∀ x c, X.env.cells.lookup x = some c → c ≠ b) ∧ ∀ p ∈ X.pn ++ pins, p.1 ≠ b) :
    Inv X pins σ H' { s with heap := h', gens := g', drawn := d', toks := t' } := by
  obtain ⟨m, ⟨o, es, ep, ho, r⟩, _⟩ := id I.loc
  obtain ⟨sl, hL⟩ := u.any ho I.free fun z => (hch _ z).2.1 rfl
  exact I.step (ch := ch) hch (fun b o hL hb hc e n => u.keep b o e n (fun z => (List.mem_cons.mp (I.stkSub b z)).elim hL hb) hc) (fun b o _ _ hc e n => u.any e n hc) (fun b o hc e n => u.free b o e n hc) (fun b o hc e => u.there b o e hc) u.tups u.frzs u.tbls (fun m' hm => by
    obtain ⟨o', es', ep', ho', r'⟩ := hm
    rw [ho] at ho'; cases ho'
    exact ⟨_, es', ep', hL, r'⟩) hok hg
/-- an untracked record of ours (an iterator) has turned -/
theorem Inv.turned {t' : Nat} {it : Addr} (I : Inv X pins σ H s) (k : ∀ b o, b ≠ it → s.heap.get? b = some o → h'.get? b = some o) (hn : H it = none) (hL : it ≠ X.env.locals)
    (h1 : it ∈ X.ex ∨ X.s₀.heap.objs.size ≤ it) (h2 : ∀ x c, X.env.cells.lookup x = some c → c ≠ it) (h3 : ∀ p ∈ X.pn ++ pins, p.1 ≠ it) : Inv X pins σ H { s with heap := h', toks := t' } := by
  have nit : ∀ b u, H b = some u → b ≠ it := fun b u e z => by rw [z, hn] at e; cases e
  refine I.step (g' := s.gens) (d' := s.drawn) (ch := [it]) (fun b hb => ?_) (fun b o _ _ hc e _ => k b o (fun z => hc (by simp [z])) e) (fun b o _ _ hc e _ => ⟨o.slots, k b o (fun z => hc (by simp [z])) e⟩) (fun _ _ _ _ n => n)
    (fun b o hc e => ⟨o, k b o (fun z => hc (by simp [z])) e⟩) (fun _ _ e => e) (fun _ _ _ e => e) (fun b ps e => ⟨#[], by rw [e]; simp⟩) (fun m hm => ?_) (fun b u e => ?_) I.bare
  · have e : b = it := by simpa using hb
    subst e
    exact ⟨h1, hL, h2, h3⟩
  · obtain ⟨o, es, ep, ho, r⟩ := hm
    exact ⟨o, es, ep, k _ o (Ne.symm hL) ho, r⟩
  · refine (I.hok b u e).stay (fun c v hc q => k c v ?_ q) (fun _ q => q) fun _ _ q => q
    rcases hc with z | z
    · rw [z]; exact nit b u e
    · exact nit c _ z
theorem Inv.tok (I : Inv X pins σ H s) (t : Nat) : Inv X pins σ H { s with toks := t } := I.un (h' := s.heap) (t' := t) Un.refl I.hok
/-- all objects kept -/
theorem Inv.kept {t' : Nat} (I : Inv X pins σ H s) (k : ∀ b u, s.heap.get? b = some u → h'.get? b = some u) : Inv X pins σ H { s with heap := h', toks := t' } := I.un (Un.kept k) (I.hok.kept k)
/-- a new object laid and tracked -/
theorem Inv.laid {a : Addr} {o : HO} {t' : Nat} (I : Inv X pins σ H s) (k : ∀ b u, s.heap.get? b = some u → h'.get? b = some u) (hp : s.heap.objs.size ≤ a) (new : ObjOk X.prog X.w (upd H a o) h' a o) :
    Inv X pins σ (upd H a o) { s with heap := h', toks := t' } := I.un (Un.laid k hp (I.hok.fresh hp)) (I.hok.laid k hp new)
/-- an object written -/
theorem Inv.write {x e : Addr} {o : HO} {t' : Nat} (I : Inv X pins σ H s) (mu : Mut (H x)) (he : e = x ∨ H e = some (.own x)) (k : ∀ b u, b ≠ e → s.heap.get? b = some u → h'.get? b = some u) (heo : ∃ u, h'.get? e = some u)
    (new : ObjOk X.prog X.w (upd H x o) h' x o) : Inv X pins σ (upd H x o) { s with heap := h', toks := t' } := I.un (Un.write mu he k heo) (I.hok.write mu he k heo new)
/-- forgetting slots, pins -/
theorem Inv.weak {σ' : List (Option V)} (I : Inv X pins σ H s) (hl : σ'.length = σ.length) (w : ∀ (i : Nat) v, σ'[i]? = some (some v) → σ[i]? = some (some v)) : Inv X pins σ' H s :=
  ⟨I.ok, I.os, I.bare, I.base, let ⟨m, hn, hl'⟩ := I.loc; ⟨m, hn, fun i x v e1 e2 e3 => hl' i x v e1 (w i v e2) e3⟩, I.cell, I.free, I.freeC, I.pin, I.hok, hl.trans I.len⟩
theorem Inv.pins_of {pins' : List (Addr × Obj)} (I : Inv X pins σ H s) (h : ∀ p ∈ pins', s.heap.get? p.1 = some p.2 ∧ H p.1 = none ∧ p.1 ≠ X.env.locals ∧ p.1 ∉ X.fs ∧ ∀ v, p.2.data ≠ .cell v) : Inv X pins' σ H s :=
  ⟨I.ok, I.os, I.bare, I.base, I.loc, I.cell, I.free, I.freeC, fun p hp => (List.mem_append.mp hp).elim (fun z => I.pin p (List.mem_append_left _ z)) (h p), I.hok, I.len⟩

theorem nodup_ix {N : List Str} (hN : N.Nodup) {i j : Nat} {x : Str} (a : N[i]? = some x) (b : N[j]? = some x) : i = j := by
  obtain ⟨h1, e1⟩ := List.getElem?_eq_some_iff.mp a
  obtain ⟨h2, e2⟩ := List.getElem?_eq_some_iff.mp b
  exact (List.getElem_inj hN).mp (e1.trans e2.symm)

/-- a name is stored; what changed -/
theorem store_ok2 {M : Model} {A : Around} {E : Value → Shared → Prop} {i : Nat} {x : Str} {v : V} {u : Value} {Q : Unit → Shared → Prop} (I : Inv X pins σ H s) (hN : X.N.Nodup) (hi : X.N[i]? = some x) (hx : Loc X.env.scope x) (r : RelV v u)
    (h : ∀ s', Inv X pins (σ.set i (some v)) H s' → (∃ a, Heap.SameBut a s.heap s'.heap ∧ (a = X.env.locals ∨ X.env.cells.lookup x = some a)) → Q () s') (hf : X.fn x = true ∨ X.env.scope.names.lookup x = some .local := by first | exact .inl rfl | exact .inr rfl | assumption) : wpAny M A (storeName X.env x u) Q E s := by
  obtain ⟨m, hn, hl⟩ := id I.loc
  have hcls : (X.env.scope.kind == .class || (X.env.scope.kind == .module && X.env.locals != X.env.globals)) = false := by rw [I.ok.kind]; rfl
  have hiσ : i < σ.length := by rw [I.len]; exact (List.getElem?_eq_some_iff.mp hi).1
  have cne := I.cne
  have tracked : ∀ {a : Addr} {h' : Heap}, (∃ o, s.heap.get? a = some o ∧ H a = none) → Heap.SameBut a s.heap h' → HOk X.prog X.w H h' := fun {a h'} ha hs b ob e => by
    obtain ⟨_, _, hfree⟩ := ha
    refine (I.hok b ob e).stay (fun c w' hc q => (hs.2 c ?_).trans q) (fun _ q => q) fun _ _ q => q
    rintro rfl
    rcases hc with rfl | hc
    · rw [hfree] at e; cases e
    · rw [hfree] at hc; cases hc
  rcases hx with hk | hk
  · refine wpAny_storeName_local hk hn (fun h' hn' hs => ?_) hcls
    obtain ⟨oL, _, _, hoL, _⟩ := id hn
    refine h _ ⟨I.ok, I.os, I.bare, ⟨fun b o e n hb hx => ?_, fun b o e n hb hx => ?_, I.base.free, fun b o e hx => ?_, I.base.tups, I.base.frzs, I.base.tbls⟩, ⟨_, hn', fun j y v' e1 e2 e3 => ?_⟩, fun y c e => ?_, I.free, I.freeC, fun p hp => ?_, tracked ⟨oL, hoL, I.free⟩ hs, by simpa using I.len⟩ ⟨_, hs, .inl rfl⟩
    · exact (hs.2 b (Nat.ne_of_lt (Nat.lt_of_lt_of_le (Heap.lt_size e) I.ok.above))).trans (I.base.keep b o e n hb hx)
    · obtain ⟨sl, e1⟩ := I.base.slot b o e n hb hx
      exact ⟨sl, (hs.2 b (Nat.ne_of_lt (Nat.lt_of_lt_of_le (Heap.lt_size e) I.ok.above))).trans e1⟩
    · obtain ⟨o', e1⟩ := I.base.there b o e hx
      exact ⟨o', (hs.2 b (Nat.ne_of_lt (Nat.lt_of_lt_of_le (Heap.lt_size e) I.ok.above))).trans e1⟩
    · by_cases hj : j = i
      · subst hj
        rw [hi] at e1; cases e1
        rw [List.getElem?_set_self hiσ] at e2
        cases e2
        exact ⟨u, r, .inl ⟨hk, by simp⟩⟩
      · rw [List.getElem?_set_ne (Ne.symm hj)] at e2
        obtain ⟨u', r', q⟩ := hl j y v' e1 e2 e3
        refine ⟨u', r', ?_⟩
        rcases q with ⟨k, e⟩ | ⟨k, c, e, z⟩
        · refine .inl ⟨k, ?_⟩
          have : y ≠ x := fun e => hj (nodup_ix hN e1 (e ▸ hi))
          simp [this, e]
        · exact .inr ⟨k, c, e, z.sameBut hs (cne y c e)⟩
    · obtain ⟨w', z⟩ := I.cell y c e
      exact ⟨w', z.sameBut hs (cne y c e)⟩
    · obtain ⟨e, n, ne, nf, d⟩ := I.pin p hp
      exact ⟨(hs.2 p.1 ne).trans e, n, ne, nf, d⟩
  · have hfn : X.fn x = true := by
      rcases hf with z | z
      · exact z
      · rw [z] at hk; cases hk
    obtain ⟨c, hc⟩ := I.ok.has x (.inl hk)
    obtain ⟨w', z⟩ := I.cell x c hc
    refine wpAny_storeName_cell I.ok.kind hk hc z (fun h' hc' hs => ?_)
    obtain ⟨oc, hoc, hocd⟩ := id z
    refine h { s with heap := h' } ⟨I.ok, I.os, I.bare, ⟨fun b o e n hb hx => ?_, fun b o e n hb hx => ?_, I.base.free, fun b o e hx => ?_, I.base.tups, I.base.frzs, I.base.tbls⟩, ⟨m, hn.sameBut hs (Ne.symm (cne x c hc)), fun j y v' e1 e2 e3 => ?_⟩, fun y c' e => ?_, I.free, I.freeC, fun p hp => ?_, tracked ⟨oc, hoc, I.freeC x c hc⟩ hs, by simpa using I.len⟩ ⟨c, hs, .inr hc⟩
    · exact (hs.2 b (Nat.ne_of_lt (Nat.lt_of_lt_of_le (Heap.lt_size e) (I.ok.cab x c hfn hc)))).trans (I.base.keep b o e n hb hx)
    · obtain ⟨sl, e1⟩ := I.base.slot b o e n hb hx
      exact ⟨sl, (hs.2 b (Nat.ne_of_lt (Nat.lt_of_lt_of_le (Heap.lt_size e) (I.ok.cab x c hfn hc)))).trans e1⟩
    · obtain ⟨o', e1⟩ := I.base.there b o e hx
      exact ⟨o', (hs.2 b (Nat.ne_of_lt (Nat.lt_of_lt_of_le (Heap.lt_size e) (I.ok.cab x c hfn hc)))).trans e1⟩
    · by_cases hj : j = i
      · subst hj
        rw [hi] at e1; cases e1
        rw [List.getElem?_set_self hiσ] at e2
        cases e2
        exact ⟨u, r, .inr ⟨.inl hk, c, hc, hc'⟩⟩
      · rw [List.getElem?_set_ne (Ne.symm hj)] at e2
        obtain ⟨u', r', q⟩ := hl j y v' e1 e2 e3
        refine ⟨u', r', ?_⟩
        rcases q with q | ⟨k, c', e, z'⟩
        · exact .inl q
        · refine .inr ⟨k, c', e, z'.sameBut hs ?_⟩
          rintro rfl
          exact hj (nodup_ix hN e1 (I.ok.inj _ _ _ e hc ▸ hi))
    · by_cases hcc : c' = c
      · subst hcc; exact ⟨_, hc'⟩
      · obtain ⟨w2, z2⟩ := I.cell y c' e
        exact ⟨w2, z2.sameBut hs hcc⟩
    · obtain ⟨e, n, ne, nf, d⟩ := I.pin p hp
      refine ⟨(hs.2 p.1 ?_).trans e, n, ne, nf, d⟩
      intro q
      rw [q, hoc] at e
      have q' : oc = p.2 := Option.some.inj e
      exact d w' (by rw [← q']; exact hocd)
theorem store_ok {M : Model} {A : Around} {E : Value → Shared → Prop} {i : Nat} {x : Str} {v : V} {u : Value} {Q : Unit → Shared → Prop} (I : Inv X pins σ H s) (hN : X.N.Nodup) (hi : X.N[i]? = some x) (hx : Loc X.env.scope x) (r : RelV v u)
    (h : ∀ s', Inv X pins (σ.set i (some v)) H s' → Q () s') (hf : X.fn x = true ∨ X.env.scope.names.lookup x = some .local := by first | exact .inl rfl | exact .inr rfl | assumption) : wpAny M A (storeName X.env x u) Q E s :=
  store_ok2 I hN hi hx r (fun s' I' _ => h s' I') hf
/-- behind a call or a block, the state as it is -/
theorem Inv.call' {s' : Shared} {ch : List Addr} (I : Inv X pins σ H s) (ho : s'.os = s.os) (u : Un (frs X.stack) ch H H' s.heap s'.heap) (hok : HOk X.prog X.w H' s'.heap) (hg : AllBare s'.gens)
    (hch : ∀ b ∈ ch, (b ∈ X.ex ∨ X.s₀.heap.objs.size ≤ b) ∧ b ≠ X.env.locals ∧ (∀ x c, X.env.cells.lookup x = some c → c ≠ b) ∧ ∀ p ∈ X.pn ++ pins, p.1 ≠ b) : Inv X pins σ H' s' := by
  obtain ⟨h', g', d', t', o'⟩ := s'
  have e : o' = s.os := ho
  subst e
  exact I.call (g' := g') (t' := t') (d' := d') u hok hg hch
end

/-! ### the judgements -/
/-- an exception: its class, its own dict's address (where it has one), the abstract heap behind it -/
abbrev XK := Value → Option Addr → Hp → Prop
abbrev St := List (Option V)
abbrev VK := V → Hp → Prop
/-- an expression's reading; a test's; an argument list's -/
abbrev TE := St → Hp → VK → Prop
abbrev TT := St → Hp → (Bool → Hp → Prop) → Prop
abbrev TA := St → Hp → (List V → Hp → Prop) → Prop
/-- what is wanted behind a statement -/
structure Ends where
  nx : St → Hp → Prop
  rt : VK
  bk : St → Hp → Prop := fun _ _ => False
  ct : St → Hp → Prop := fun _ _ => False
abbrev TS := Ends → St → Hp → Prop

def EP (X : Cx) (pins : List (Addr × Obj)) (σ : St) (Q : VK) (u : Value) (s' : Shared) : Prop := ∃ v H', Inv X pins σ H' s' ∧ RelV v u ∧ Q v H'
def TP (X : Cx) (pins : List (Addr × Obj)) (σ : St) (Q : Bool → Hp → Prop) (b : Bool) (s' : Shared) : Prop := ∃ H', Inv X pins σ H' s' ∧ Q b H'
def AP (X : Cx) (pins : List (Addr × Obj)) (σ : St) (Q : List V → Hp → Prop) (us : List Value) (s' : Shared) : Prop := ∃ vs H', Inv X pins σ H' s' ∧ Vals vs us ∧ Q vs H'
def SP (X : Cx) (pins : List (Addr × Obj)) (D : Ends) (f : Flow) (s' : Shared) : Prop :=
  match f with
  | .next => ∃ σ' H', Inv X pins σ' H' s' ∧ D.nx σ' H'
  | .brk => ∃ σ' H', Inv X pins σ' H' s' ∧ D.bk σ' H'
  | .cont => ∃ σ' H', Inv X pins σ' H' s' ∧ D.ct σ' H'
  | .ret u => ∃ v σ' H', Inv X pins σ' H' s' ∧ RelV v u ∧ D.rt v H'

def PE (X : Cx) (e : Expr) (t : TE) : Prop :=
  ∀ (pins : List (Addr × Obj)) (s : Shared) (σ : St) (H : Hp) (Q : VK), Inv X pins σ H s → t σ H Q → wpAny (model X.prog X.w) X.A (eval e X.env) (EP X pins σ Q) X.xe s
def PT (X : Cx) (e : Expr) (t : TT) : Prop :=
  ∀ (pins : List (Addr × Obj)) (s : Shared) (σ : St) (H : Hp) (Q : Bool → Hp → Prop), Inv X pins σ H s → t σ H Q → wpAny (model X.prog X.w) X.A (isTrue e X.env (eval e X.env)) (TP X pins σ Q) X.xe s
/-- a test whatever its 'whole' is (and, or) -/
def PW (X : Cx) (e : Expr) (t : TT) : Prop :=
  ∀ (whole : Sem Value) (pins : List (Addr × Obj)) (s : Shared) (σ : St) (H : Hp) (Q : Bool → Hp → Prop), Inv X pins σ H s → t σ H Q → wpAny (model X.prog X.w) X.A (isTrue e X.env whole) (TP X pins σ Q) X.xe s
theorem PW.pt {X : Cx} {e : Expr} {t : TT} (h : PW X e t) : PT X e t := h _
/-- an argument list (no star), from the left -/
def PA (X : Cx) (es : List Expr) (t : TA) : Prop :=
  ∀ (pos : Pos) (pins : List (Addr × Obj)) (s : Shared) (σ : St) (H : Hp) (Q : List V → Hp → Prop), Inv X pins σ H s → t σ H Q → wpAny (model X.prog X.w) X.A (spliced (backTo pos (starEach es X.env))) (AP X pins σ Q) X.xe s
def PS (X : Cx) (st : Stmt) (t : TS) : Prop :=
  ∀ (pins : List (Addr × Obj)) (s : Shared) (σ : St) (H : Hp) (D : Ends), Inv X pins σ H s → t D σ H → wpAny (model X.prog X.w) X.A (exec st X.env) (SP X pins D) X.xe s
def PSs (X : Cx) (st : List Stmt) (t : TS) : Prop :=
  ∀ (pins : List (Addr × Obj)) (s : Shared) (σ : St) (H : Hp) (D : Ends), Inv X pins σ H s → t D σ H → wpAny (model X.prog X.w) X.A (execs st X.env) (SP X pins D) X.xe s
/-- weaken the end -/
theorem thn {α : Type} {t : Sem α} {Q Q' : α → Shared → Prop} {M : Model} {A : Around} {E : Value → Shared → Prop} {s : Shared} (h : wpAny M A t Q E s) (hQ : ∀ a s, Q a s → Q' a s) : wpAny M A t Q' E s := wpAny_mono h hQ fun _ _ x => x
end L2

namespace L2
open PySem PySem.Spec PyProof.Rows
section
variable {X : Cx}

/-! ### names and constants -/
def tVar (i : Nat) : TE := fun σ H Q => ∃ v, σ[i]? = some (some v) ∧ Q v H
def tC (v : V) : TE := fun _ H Q => Q v H
theorem pe_var {i : Nat} {x : Str} {pos : Pos} (hN : X.N[i]? = some x) (hv : Vis X.env.scope x) (hd : (x == ("__debug__" : Str)) = false := by decide) (hcd : (x == ("__classdict__" : Str)) = false := by decide) : PE X (.Name x pos) (tVar i) := by
  intro pins s σ H Q I h
  obtain ⟨v, e, h⟩ := h
  obtain ⟨m, hn, hl⟩ := I.loc
  obtain ⟨u, r, l⟩ := hl i x v hN e hv
  have fin : EP X pins σ Q u s := ⟨v, H, I, r, h⟩
  rcases l with ⟨hk, hm⟩ | ⟨hk, c, hc, hcell⟩
  · exact wpAny_Name (wpAny_loadName_local I.ok.kind hk hn hm fin) hd
  · rcases hk with hk | hk
    · exact wpAny_Name (wpAny_loadName_cell I.ok.kind hk hc hcell fin) hd
    · exact wpAny_Name (wpAny_loadName_free I.ok.kind hk hc hcell fin hcd) hd
theorem pe_int {i j pos} : PE X (.Constant (.int i) j pos) (tC (.int i)) := fun _ _ _ H _ I h => wpAny_Constant_int ⟨.int i, H, I.tok _, ⟨_, rfl⟩, h⟩
theorem pe_bl {b j pos} : PE X (.Constant (.bool b) j pos) (tC (.bl b)) := fun _ _ _ H _ I h => Constant_bool ⟨.bl b, H, I, rfl, h⟩
theorem pe_non {j pos} : PE X (.Constant .none j pos) (tC .non) := fun _ _ _ H _ I h => Constant_none ⟨.non, H, I, rfl, h⟩
/-- a global name of the def -/
def Gl (X : Cx) (x : Str) : Prop := X.env.kindOf x = some .globalImplicit
theorem ld_glob {E : Value → Shared → Prop} {pins : List (Addr × Obj)} {s : Shared} {σ : St} {H : Hp} {x : Str} {u : Value} {pos : Pos} {Q : Value → Shared → Prop} (I : Inv X pins σ H s) (hg : Gl X x) (hm : X.mg x = some u) (h : Q u s)
    (hd : (x == ("__debug__" : Str)) = false := by decide) : wpAny (model X.prog X.w) X.A (eval (.Name x pos) X.env) Q E s :=
  Calls.Name_function_global I.ok.kind hg (Calls.loadGlobal_global (by rw [I.ok.glob]; exact I.mod.glob.keeps I.bk) hm h) hd
theorem ld_blt {E : Value → Shared → Prop} {pins : List (Addr × Obj)} {s : Shared} {σ : St} {H : Hp} {x : Str} {u : Value} {pos : Pos} {Q : Value → Shared → Prop} (I : Inv X pins σ H s) (hg : Gl X x) (hm : X.mg x = none) (hv : bootBuiltins x = some u) (h : Q u s)
    (hn : x ≠ "__name__" := by decide) (hd : (x == ("__debug__" : Str)) = false := by decide) : wpAny (model X.prog X.w) X.A (eval (.Name x pos) X.env) Q E s := by
  obtain ⟨mb, h1, h2⟩ := I.mod.blt
  exact Calls.Name_function_global I.ok.kind hg (Calls.loadGlobal_builtin (by rw [I.ok.glob]; exact I.mod.glob.keeps I.bk) hm (by rw [I.ok.blt]; exact h1.keeps I.bk) ((h2 x hn).trans hv) h) hd
/-- a module's constant, a class, a function, as a value -/
theorem pe_glob {x : Str} {v : V} {u : Value} {pos : Pos} (hg : Gl X x) (hm : X.mg x = some u) (r : RelV v u) (hd : (x == ("__debug__" : Str)) = false := by decide) : PE X (.Name x pos) (tC v) :=
  fun _ _ _ H _ I h => ld_glob I hg hm ⟨v, H, I, r, h⟩ hd
/-! ### arithmetic -/
variable {a b : Expr} {ta tb : TE} {pos : Pos}
/-! ### comparisons -/
/-- a comparison as a value, as a test -/
def tB (t : TE) : TT := fun σ H Q => t σ H fun x H1 => ∃ c, x = .bl c ∧ Q c H1
/-- an expression whose value is a bool, as a test -/
theorem pt_val {e : Expr} {t : TE} (h : PE X e t) (he : ∀ whole, isTrue e X.env whole = (do let v ← whole; standAt e.pos; holding [v] (truthy v)) := by intro _; rfl) : PT X e (tB t) := by
  intro pins s σ H Q I hw
  refine isTrue_plain (thn (h pins s σ H _ I hw) fun v s1 ⟨x, H1, I1, r1, q1⟩ => ?_) (he _)
  obtain ⟨d, rfl, q⟩ := q1
  cases r1
  exact wpAny_truthy_bool ⟨H1, I1, q⟩

/-! ### and, or, not -/
variable {tA tB' : TT} {rest : List Expr}
def tAnd (t u : TT) : TT := fun σ H Q => t σ H fun c H1 => if c = true then u σ H1 Q else Q false H1
def tOr (t u : TT) : TT := fun σ H Q => t σ H fun c H1 => if c = true then Q true H1 else u σ H1 Q
def tNot (t : TT) : TT := fun σ H Q => t σ H fun c H1 => Q (!c) H1
theorem pw_and1 (ha : PT X a tA) : PW X (.BoolOp .And [a] pos) tA := by
  intro wh pins s σ H Q I h
  refine isTrue_and (thn (ha pins s σ H Q I h) fun c s1 e => ?_)
  cases c with
  | true => exact isTrue_and_nil e
  | false => exact e
theorem pw_or1 (ha : PT X a tA) : PW X (.BoolOp .Or [a] pos) tA := by
  intro wh pins s σ H Q I h
  refine isTrue_or (thn (ha pins s σ H Q I h) fun c s1 e => ?_)
  cases c with
  | false => exact isTrue_or_nil e
  | true => exact e
theorem pw_and (ha : PT X a tA) (hb : PW X (.BoolOp .And (b :: rest) pos) tB') : PW X (.BoolOp .And (a :: b :: rest) pos) (tAnd tA tB') := by
  intro wh pins s σ H Q I h
  refine isTrue_and (thn (ha pins s σ H _ I h) fun c s1 ⟨H1, I1, q1⟩ => ?_)
  cases c with
  | true => exact hb wh pins s1 σ H1 Q I1 q1
  | false => exact ⟨H1, I1, q1⟩
theorem pw_or (ha : PT X a tA) (hb : PW X (.BoolOp .Or (b :: rest) pos) tB') : PW X (.BoolOp .Or (a :: b :: rest) pos) (tOr tA tB') := by
  intro wh pins s σ H Q I h
  refine isTrue_or (thn (ha pins s σ H _ I h) fun c s1 ⟨H1, I1, q1⟩ => ?_)
  cases c with
  | true => exact ⟨H1, I1, q1⟩
  | false => exact hb wh pins s1 σ H1 Q I1 q1
theorem pt_not (ha : PT X a tA) : PT X (.UnaryOp .Not a pos) (tNot tA) := by
  intro pins s σ H Q I h
  exact isTrue_not (ha pins s σ H (fun c H1 => Q (!c) H1) I h)
/-- .. as values (bools) -/
def tAndV (ta tb : TE) : TE := fun σ H Q => ta σ H fun x H1 => ∃ c, x = .bl c ∧ if c = true then tb σ H1 Q else Q (.bl false) H1
def tOrV (ta tb : TE) : TE := fun σ H Q => ta σ H fun x H1 => ∃ c, x = .bl c ∧ if c = true then Q (.bl true) H1 else tb σ H1 Q
theorem pe_one {op} {t : TE} (h : PE X a t) : PE X (.BoolOp op [a] pos) t := fun pins s σ H Q I hw => BoolOp_one (h pins s σ H Q I hw)
theorem pe_and (ha : PE X a ta) (hb : PE X (.BoolOp .And (b :: rest) pos) tb) : PE X (.BoolOp .And (a :: b :: rest) pos) (tAndV ta tb) := by
  intro pins s σ H Q I h
  refine BoolOp_and (thn (ha pins s σ H _ I h) fun v s1 ⟨x, H1, I1, r1, q1⟩ => ?_)
  obtain ⟨c, rfl, q1⟩ := q1
  cases r1
  refine wpAny_truthy_bool ?_
  cases c with
  | true => exact hb pins s1 σ H1 Q I1 q1
  | false => exact ⟨.bl false, H1, I1, rfl, q1⟩
theorem pe_or (ha : PE X a ta) (hb : PE X (.BoolOp .Or (b :: rest) pos) tb) : PE X (.BoolOp .Or (a :: b :: rest) pos) (tOrV ta tb) := by
  intro pins s σ H Q I h
  refine BoolOp_or (thn (ha pins s σ H _ I h) fun v s1 ⟨x, H1, I1, r1, q1⟩ => ?_)
  obtain ⟨c, rfl, q1⟩ := q1
  cases r1
  refine wpAny_truthy_bool ?_
  cases c with
  | false => exact hb pins s1 σ H1 Q I1 q1
  | true => exact ⟨.bl true, H1, I1, rfl, q1⟩
end
end L2

namespace L2
open PySem PySem.Spec PyProof.Rows

/-! ### a list, a tuple that is read: tracked, frozen, or an object of the module -/
def SqL (K : PySem.W.Frag) (H : Hp) (a : Addr) (xs : List V) : Prop :=
  Rd H a (.lst xs) ∨
    ∃ (o : Obj) (its : Array Value) (n : Nat), K.lookup a = some o ∧ o.cls = .type "list" ∧ o.dict = none ∧ o.data = .seq its n ∧ its.size ≤ sizeLine ∧ Vals xs its.toList
def SqT (K : PySem.W.Frag) (H : Hp) (a : Addr) (xs : List V) : Prop :=
  Rd H a (.tup xs) ∨
    ∃ (o : Obj) (its : Array Value) (n : Nat), K.lookup a = some o ∧ o.cls = .type "tuple" ∧ o.data = .seq its n ∧ its.size ≤ sizeLine ∧ Vals xs its.toList
def absV : Value → Option V
  | .none => some .non
  | .bool b => some (.bl b)
  | .int i _ => some (.int i)
  | .str x _ => some (.str x)
  | .bytes b _ => some (.byt b)
  | .float b _ => some (.flt b)
  | .ref a => some (.ref a)
  | .type n => some (.ty n)
  | _ => none
theorem RelV.abs {x : V} {u : Value} (r : RelV x u) : absV u = some x := by
  cases x with
  | non => cases r; rfl
  | bl _ => cases r; rfl
  | int _ => obtain ⟨t, rfl⟩ := r; rfl
  | str _ => obtain ⟨t, rfl⟩ := r; rfl
  | byt _ => obtain ⟨t, rfl⟩ := r; rfl
  | flt _ => obtain ⟨t, rfl⟩ := r; rfl
  | ref _ => cases r; rfl
  | ty _ => cases r; rfl
theorem RelV.inj {x y : V} {u : Value} (r : RelV x u) (q : RelV y u) : x = y := Option.some.inj (r.abs.symm.trans q.abs)
theorem Vals.inj : ∀ {xs ys : List V} {us : List Value}, Vals xs us → Vals ys us → xs = ys
  | _, _, _, .nil, .nil => rfl
  | _, _, _, .cons r t, .cons r' t' => by rw [r.inj r', Vals.inj t t']
section
variable {X : Cx} {pins : List (Addr × Obj)} {σ : St} {H : Hp} {s : Shared} {a : Addr} {xs ys : List V}
theorem SqL.of {K : PySem.W.Frag} (h : H a = some (.lst xs)) : SqL K H a xs := .inl (.inl h)
theorem SqT.of {K : PySem.W.Frag} (h : H a = some (.tup xs)) : SqT K H a xs := .inl (.inl h)
theorem Inv.list (I : Inv X pins σ H s) (h : SqL X.K H a xs) : ∃ its : List Value, Vals xs its ∧ PlainL s.heap a its.toArray ∧ xs.length ≤ sizeLine := by
  rcases h with h | ⟨o, its, n, hk, hc, hd, hs, hz, r⟩
  · obtain ⟨z, its, n, r, e⟩ := h.ok I.hok
    exact ⟨its, r, ⟨_, n, e, rfl, rfl, rfl⟩, z⟩
  · refine ⟨its.toList, r, ⟨o, n, I.kIn a o hk, hc, hd, by simpa using hs⟩, ?_⟩
    have e := r.length
    simp only [Array.length_toList] at e
    omega
theorem Inv.tuple (I : Inv X pins σ H s) (h : SqT X.K H a xs) : ∃ its : List Value, Vals xs its ∧ IsTup s.heap a its.toArray ∧ xs.length ≤ sizeLine := by
  rcases h with h | ⟨o, its, n, hk, hc, hs, hz, r⟩
  · obtain ⟨z, its, r, p⟩ := h.ok I.hok
    exact ⟨its, r, p, z⟩
  · refine ⟨its.toList, r, ⟨o, I.kIn a o hk, hc, n, by simpa using hs⟩, ?_⟩
    have e := r.length
    simp only [Array.length_toList] at e
    omega
theorem Inv.list_inj (I : Inv X pins σ H s) (h : SqL X.K H a xs) (h' : SqL X.K H a ys) : xs = ys := by
  obtain ⟨its, r, ⟨o, n, e, _, _, d⟩, _⟩ := I.list h
  obtain ⟨its', r', ⟨o', n', e', _, _, d'⟩, _⟩ := I.list h'
  rw [e] at e'; cases e'
  rw [d] at d'
  injection d' with d1 _
  have : its = its' := by simpa using congrArg Array.toList d1
  subst this
  exact r.inj r'
theorem Inv.tuple_inj (I : Inv X pins σ H s) (h : SqT X.K H a xs) (h' : SqT X.K H a ys) : xs = ys := by
  obtain ⟨its, r, ⟨o, e, _, n, d⟩, _⟩ := I.tuple h
  obtain ⟨its', r', ⟨o', e', _, n', d'⟩, _⟩ := I.tuple h'
  rw [e] at e'; cases e'
  rw [d] at d'
  injection d' with d1 _
  have : its = its' := by simpa using congrArg Array.toList d1
  subst this
  exact r.inj r'
end

/-! ### another wish about exceptions -/
abbrev Cx.wish (X : Cx) (E : Value → Shared → Prop) : Cx := { X with xe := E }
/-- no exception leaves -/
abbrev Cx.nox (X : Cx) : Cx := X.wish fun _ _ => False
theorem Cx.Ok.wish {X : Cx} (ok : X.Ok) (E : Value → Shared → Prop) : (X.wish E).Ok :=
  ⟨ok.mod, ok.kind, ok.glob, ok.blt, ok.above, ok.inj, ok.has, ok.cab, ok.hd, ok.frames, ok.stk, ok.exf, ok.bs, ok.bsz, ok.noex, ok.exfs, ok.funs, ok.frf⟩
theorem Cx.Ok.unwish {X : Cx} {E : Value → Shared → Prop} (ok : (X.wish E).Ok) : X.Ok :=
  ⟨ok.mod, ok.kind, ok.glob, ok.blt, ok.above, ok.inj, ok.has, ok.cab, ok.hd, ok.frames, ok.stk, ok.exf, ok.bs, ok.bsz, ok.noex, ok.exfs, ok.funs, ok.frf⟩
section
variable {X : Cx} {pins : List (Addr × Obj)} {σ : St} {H : Hp} {s : Shared} {E : Value → Shared → Prop}
theorem Inv.wish (I : Inv X pins σ H s) (E : Value → Shared → Prop) : Inv (X.wish E) pins σ H s := ⟨I.ok.wish E, I.os, I.bare, I.base, I.loc, I.cell, I.free, I.freeC, I.pin, I.hok, I.len⟩
theorem Inv.unwish (I : Inv (X.wish E) pins σ H s) : Inv X pins σ H s := ⟨I.ok.unwish, I.os, I.bare, I.base, I.loc, I.cell, I.free, I.freeC, I.pin, I.hok, I.len⟩
theorem SP.unwish {D : Ends} {f : Flow} {s' : Shared} (h : SP (X.wish E) pins D f s') : SP X pins D f s' := by
  cases f with
  | next => obtain ⟨σ', H', I, q⟩ := h; exact ⟨σ', H', I.unwish, q⟩
  | brk => obtain ⟨σ', H', I, q⟩ := h; exact ⟨σ', H', I.unwish, q⟩
  | cont => obtain ⟨σ', H', I, q⟩ := h; exact ⟨σ', H', I.unwish, q⟩
  | ret u => obtain ⟨v, σ', H', I, r, q⟩ := h; exact ⟨v, σ', H', I.unwish, r, q⟩
theorem PE.nox {e : Expr} {t : TE} (h : PE X.nox e t) : PE X e t := fun pins s σ H Q I hw =>
  wpAny_mono (h pins s σ H Q (I.wish _) hw) (fun _ _ ⟨v, H', I', r, q⟩ => ⟨v, H', I'.unwish, r, q⟩) fun _ _ z => False.elim z
theorem PT.nox {e : Expr} {t : TT} (h : PT X.nox e t) : PT X e t := fun pins s σ H Q I hw =>
  wpAny_mono (h pins s σ H Q (I.wish _) hw) (fun _ _ ⟨H', I', q⟩ => ⟨H', I'.unwish, q⟩) fun _ _ z => False.elim z
theorem PSs.nox {st : List Stmt} {t : TS} (h : PSs X.nox st t) : PSs X st t := fun pins s σ H D I hw =>
  wpAny_mono (h pins s σ H D (I.wish _) hw) (fun _ _ q => q.unwish) fun _ _ z => False.elim z
end

/-! ### blocks and small statements -/
section
variable {X : Cx} {st : Stmt} {rest : List Stmt} {t u : TS} {e : Expr} {te : TE} {pos : Pos}
def tNext : TS := fun D σ H => D.nx σ H
def tSeq (t u : TS) : TS := fun D σ H => t { D with nx := u D } σ H
theorem pss_nil : PSs X [] tNext := fun _ _ σ H _ I h => wpAny_execs_nil ⟨σ, H, I, h⟩
theorem pss_cons (h1 : PS X st t) (h2 : PSs X rest u) : PSs X (st :: rest) (tSeq t u) := by
  intro pins s σ H D I h
  refine wpAny_execs_cons (thn (h1 pins s σ H { D with nx := u D } I h) fun f s1 q => ?_)
  cases f with
  | next =>
    obtain ⟨σ', H', I', q⟩ := q
    exact h2 pins s1 σ' H' D I' q
  | ret v => exact q
  | brk => exact q
  | cont => exact q
theorem pss_one (h1 : PS X st t) : PSs X [st] t := by
  intro pins s σ H D I h
  refine wpAny_execs_cons (thn (h1 pins s σ H D I h) fun f s1 q => ?_)
  cases f with
  | next => exact wpAny_execs_nil q
  | ret v => exact q
  | brk => exact q
  | cont => exact q
/-- in a def's body nothing is shown -/
theorem Inv.quiet {pins : List (Addr × Obj)} {σ : St} {H : Hp} {s : Shared} (I : Inv X pins σ H s) : interactive X.env = false := by simp [interactive, I.ok.kind]
/-- an expression whose value is dropped -/
def tDrop (te : TE) : TS := fun D σ H => te σ H fun _ H1 => D.nx σ H1
theorem ps_expr (he : PE X e te) (hs : swapsWith e none pos.line X.env = pure false := by rfl) : PS X (.Expr e pos) (tDrop te) := by
  intro pins s σ H D I h
  exact wpAny_Expr_any (thn (he pins s σ H _ I h) fun v s1 ⟨x, H1, I1, r1, q1⟩ => ⟨σ, H1, I1, q1⟩) I.quiet hs
def tRet (te : TE) : TS := fun D σ H => te σ H D.rt
theorem ps_ret (he : PE X e te) : PS X (.Return (some e) pos) (tRet te) := by
  intro pins s σ H D I h
  exact wpAny_Return_some (thn (he pins s σ H _ I h) fun v s1 ⟨x, H1, I1, r1, q1⟩ => ⟨x, σ, H1, I1, r1, q1⟩)
def tIfS (c : TT) (t u : TS) : TS := fun D σ H => c σ H fun b H1 => if b = true then t D σ H1 else u D σ H1
theorem ps_if {c : Expr} {a b : List Stmt} {tc : TT} (hc : PT X c tc) (ha : PSs X a t) (hb : PSs X b u) : PS X (.If c a b pos) (tIfS tc t u) := by
  intro pins s σ H D I h
  refine wpAny_If (thn (hc pins s σ H _ I h) fun d s1 ⟨H1, I1, q1⟩ => ?_)
  cases d with
  | true => exact ha pins s1 σ H1 D I1 q1
  | false => exact hb pins s1 σ H1 D I1 q1
end

/-! ### targets -/
abbrev TG := V → St → Hp → (St → Hp → Prop) → Prop
abbrev TGs := List V → St → Hp → (St → Hp → Prop) → Prop
def PG (X : Cx) (target : Expr) (t : TG) : Prop :=
  ∀ (pins : List (Addr × Obj)) (s : Shared) (σ : St) (H : Hp) (v : V) (u : Value) (Q : St → Hp → Prop), Inv X pins σ H s → RelV v u → t v σ H Q →
    wpAny (model X.prog X.w) X.A (assign target X.env u) (fun _ s' => ∃ σ' H', Inv X pins σ' H' s' ∧ Q σ' H') X.xe s
/-- several targets, one after another -/
def PGs (X : Cx) (ts : List Expr) (t : TGs) : Prop :=
  ∀ (pins : List (Addr × Obj)) (s : Shared) (σ : St) (H : Hp) (vs : List V) (us : List Value) (Q : St → Hp → Prop), Inv X pins σ H s → Vals vs us → t vs σ H Q →
    wpAny (model X.prog X.w) X.A (assignInOrder ((assignEach ts X.env).map (·.2)) us) (fun _ s' => ∃ σ' H', Inv X pins σ' H' s' ∧ Q σ' H') X.xe s
/-- o[i] = v, by values -/
abbrev TSet := V → V → V → Hp → (Hp → Prop) → Prop
def PSet (X : Cx) (t : TSet) : Prop :=
  ∀ (pins : List (Addr × Obj)) (s : Shared) (σ : St) (H : Hp) (o i v : V) (ov iv u : Value) (Q : Hp → Prop), Inv X pins σ H s → RelV o ov → RelV i iv → RelV v u → t o i v H Q →
    wpAny (model X.prog X.w) X.A (setItem ov iv u) (fun _ s' => ∃ H', Inv X pins σ H' s' ∧ Q H') X.xe s
/-- a op= b, by values -/
abbrev TIp := V → V → Hp → VK → Prop
def PIp (X : Cx) (op : Operator) (t : TIp) : Prop :=
  ∀ (pins : List (Addr × Obj)) (s : Shared) (σ : St) (H : Hp) (x y : V) (v u : Value) (Q : VK), Inv X pins σ H s → RelV x v → RelV y u → t x y H Q →
    wpAny (model X.prog X.w) X.A (inplaceOp op v u) (EP X pins σ Q) X.xe s
section
variable {X : Cx} {pos : Pos}
def gName (i : Nat) : TG := fun v σ H Q => Q (σ.set i (some v)) H
theorem pg_name {i : Nat} {x : Str} (hN : X.N.Nodup) (hi : X.N[i]? = some x) (hx : Loc X.env.scope x) (hf : X.fn x = true ∨ X.env.scope.names.lookup x = some .local := by first | exact .inl rfl | exact .inr rfl | assumption) : PG X (.Name x pos) (gName i) := by
  intro pins s σ H v u Q I r h
  exact wpAny_assign_Name (store_ok I hN hi hx r (fun s' I' => ⟨_, H, I', h⟩) hf)
def gNil : TGs := fun vs σ H Q => vs = [] ∧ Q σ H
def gCons (t : TG) (u : TGs) : TGs := fun vs σ H Q => ∃ v r, vs = v :: r ∧ t v σ H fun σ' H' => u r σ' H' Q
theorem pgs_nil : PGs X [] gNil := by
  intro pins s σ H vs us Q I r h
  obtain ⟨e, h⟩ := h
  subst e
  cases r
  exact assignInOrder_nil ⟨σ, H, I, h⟩
theorem pgs_cons {e : Expr} {es : List Expr} {t : TG} {u : TGs} (h1 : PG X e t) (h2 : PGs X es u)
    (hs : (assignEach (e :: es) X.env).map (·.2) = assign e X.env :: (assignEach es X.env).map (·.2) := by rfl) : PGs X (e :: es) (gCons t u) := by
  intro pins s σ H vs us Q I r h
  obtain ⟨v, vr, e1, h⟩ := h
  subst e1
  cases r with
  | cons r rr =>
    rw [hs]
    refine assignInOrder_cons (thn (h1 pins s σ H _ _ _ I r h) fun _ s1 ⟨σ1, H1, I1, q1⟩ => ?_)
    exact h2 pins s1 σ1 H1 _ _ Q I1 rr q1
/-- (a, b, ..) = a tuple of that length -/
def gTup (K : PySem.W.Frag) (n : Nat) (t : TGs) : TG := fun v σ H Q => ∃ a xs, v = .ref a ∧ SqT K H a xs ∧ xs.length = n ∧ t xs σ H Q
theorem pg_tup {es : List Expr} {k : Nat} {t : TGs} {n : Nat} (hc : X.calm = true) (h : PGs X es t)
    (hn : (assignEach es X.env).length = n := by rfl) (hst : (assignEach es X.env).findIdx? (·.1) = none := by rfl) : PG X (.Tuple es k pos) (gTup X.K n t) := by
  intro pins s σ H v u Q I r hw
  obtain ⟨a, xs, e1, hq, hl, hw⟩ := hw
  subst e1
  cases r
  obtain ⟨its, rv, ht, hz⟩ := I.tuple hq
  refine assign_Tuple_tuple (I.ok.hd hc) ht (by simp [hn, ← hl, rv.length]) hst fun h' hx => ?_
  have I1 : Inv X pins σ H { s with heap := h' } := I.kept (t' := s.toks) fun b o e => hx b o (Nat.ne_of_lt (Heap.lt_size e)) e
  exact h pins _ σ H xs _ Q I1 (by simpa using rv) hw
/-- o[i] = .. -/
def gSub (to ti : TE) (t : TSet) : TG := fun v σ H Q => to σ H fun o H1 => ti σ H1 fun i H2 => t o i v H2 fun H3 => Q σ H3
theorem pg_sub {o i : Expr} {to ti : TE} {t : TSet} (ho : PE X o to) (hi : PE X i ti) (hs : PSet X t)
    (ha : ∀ v, assign (.Subscript o i pos) X.env v = (do
      let ov ← holding [v] (eval o X.env)
      let iv ← holding [v, ov] (eval i X.env)
      standAt pos
      holding [v, ov, iv] (setItem ov iv v)
      release [v, ov, iv] []) := by intro _; rfl) : PG X (.Subscript o i pos) (gSub to ti t) := by
  intro pins s σ H v u Q I r h
  rw [ha]
  refine wpAny_bind (wpAny_holding (thn (ho pins s σ H _ I h) fun ov s1 ⟨x, H1, I1, r1, q1⟩ => ?_))
  refine wpAny_bind (wpAny_holding (thn (hi pins s1 σ H1 _ I1 q1) fun iv s2 ⟨y, H2, I2, r2, q2⟩ => ?_))
  refine wpAny_bind (wpAny_standAt (wpAny_bind (wpAny_holding (thn (hs pins s2 σ H2 x y v ov iv u _ I2 r1 r2 r q2) fun _ s3 ⟨H3, I3, q3⟩ => ?_))))
  exact wpAny_release ⟨σ, H3, I3, q3⟩
/-- target = value -/
def tAsg (te : TE) (g : TG) : TS := fun D σ H => te σ H fun x H1 => g x σ H1 D.nx
theorem ps_asg {tg e : Expr} {te : TE} {g : TG} (he : PE X e te) (hg : PG X tg g) (hs : swapsWithSole [tg] e pos.line X.env = pure false := by rfl) (hw : swappedStores [tg] e X.env = pure none := by rfl)
    (h1 : (assignEach [tg] X.env).map (·.2) = [assign tg X.env] := by rfl) : PS X (.Assign [tg] e pos) (tAsg te g) := by
  intro pins s σ H D I h
  refine wpAny_Assign_stores (thn (he pins s σ H _ I h) fun v s1 ⟨x, H1, I1, r1, q1⟩ => ?_) hs hw
  rw [h1]
  exact thn (hg pins s1 σ H1 x v _ I1 r1 q1) fun _ s2 q => q
/-- name = value -/
theorem ps_set {i : Nat} {x : Str} {e : Expr} {te : TE} {pos' : Pos} (hN : X.N.Nodup) (hi : X.N[i]? = some x) (hx : Loc X.env.scope x) (he : PE X e te) (hs : swapsWith e (some (.Name x pos')) pos.line X.env = pure false := by rfl) (hf : X.fn x = true ∨ X.env.scope.names.lookup x = some .local := by first | exact .inl rfl | exact .inr rfl | assumption) :
    PS X (.Assign [.Name x pos'] e pos) (tAsg te (gName i)) := by
  intro pins s σ H D I h
  refine wpAny_Assign_Name (thn (he pins s σ H _ I h) fun v s1 ⟨y, H1, I1, r1, q1⟩ => ?_) hs
  exact store_ok I1 hN hi hx r1 (fun s2 I2 => ⟨_, H1, I2, q1⟩) hf
/-- o[i] op= e -/
def tAugS (to ti te : TE) (tget : V → V → Hp → VK → Prop) (tip : TIp) (tset : TSet) : TS := fun D σ H => to σ H fun o H1 => ti σ H1 fun i H2 => tget o i H2 fun x H3 => te σ H3 fun y H4 => tip x y H4 fun z H5 => tset o i z H5 fun H6 => D.nx σ H6
/-- o[i], by values -/
def PGet (X : Cx) (t : V → V → Hp → VK → Prop) : Prop :=
  ∀ (pins : List (Addr × Obj)) (s : Shared) (σ : St) (H : Hp) (o i : V) (ov iv : Value) (Q : VK), Inv X pins σ H s → RelV o ov → RelV i iv → t o i H Q →
    wpAny (model X.prog X.w) X.A (getItem ov iv) (EP X pins σ Q) X.xe s
theorem ps_augS {o i e : Expr} {to ti te : TE} {tget : V → V → Hp → VK → Prop} {tip : TIp} {tset : TSet} {op : Operator} {tpos : Pos} (ho : PE X o to) (hi : PE X i ti) (hg : PGet X tget) (he : PE X e te) (hp : PIp X op tip) (hs : PSet X tset)
    (ha : ∀ ov iv new, augStore i ov iv new = (do holding [new, ov, iv] (setItem ov iv new); release [new, ov, iv] []; pure .next) := by intros; rfl) : PS X (.AugAssign (.Subscript o i tpos) op e pos) (tAugS to ti te tget tip tset) := by
  intro pins s σ H D I h
  refine wpAny_AugAssign_SubscriptAny (thn (ho pins s σ H _ I h) fun ov s1 ⟨x1, H1, I1, r1, q1⟩ => ?_) ha
  refine thn (hi pins s1 σ H1 _ I1 q1) fun iv s2 ⟨x2, H2, I2, r2, q2⟩ => ?_
  refine thn (hg pins s2 σ H2 x1 x2 ov iv _ I2 r1 r2 q2) fun old s3 ⟨x3, H3, I3, r3, q3⟩ => ?_
  refine thn (he pins s3 σ H3 _ I3 q3) fun v s4 ⟨x4, H4, I4, r4, q4⟩ => ?_
  refine thn (hp pins s4 σ H4 x3 x4 old v _ I4 r3 r4 q4) fun new s5 ⟨x5, H5, I5, r5, q5⟩ => ?_
  exact thn (hs pins s5 σ H5 x1 x2 x5 ov iv new _ I5 r1 r2 r5 q5) fun _ s6 ⟨H6, I6, q6⟩ => ⟨σ, H6, I6, q6⟩
/-- ints -/
def ipI (f : Int → Int → Int) : TIp := fun x y H Q => ∃ i j, x = .int i ∧ y = .int j ∧ Q (.int (f i j)) H
theorem ip_add : PIp X .Add (ipI fun i j => i + j) := by
  intro pins s σ H x y v u Q I r1 r2 h
  obtain ⟨i, j, e1, e2, q⟩ := h
  subst e1; subst e2
  obtain ⟨t, rfl⟩ := r1
  obtain ⟨t', rfl⟩ := r2
  exact iadd_int ⟨.int _, H, I.tok _, ⟨_, rfl⟩, q⟩
end

/-! ### while -/
section
variable {X : Cx} {pos : Pos}
end

/-! ### what a loop or a comprehension walks -/
/-- at turn i: it yields x (the heap may grow), or it stops -/
structure It where
  go : Nat → Hp → Prop
  yld : Nat → Hp → V → Hp → Prop
  stop : Nat → Hp → Prop
/-- the iterator's own objects may turn: they are not the frame's, not pinned, younger than the entry (or a comprehension's own) -/
def FpOk (X : Cx) (pins : List (Addr × Obj)) (H : Hp) (b : Addr) : Prop :=
  H b = none ∧ b ≠ X.env.locals ∧ b ∉ X.fs ∧ (b ∈ X.ex ∨ X.s₀.heap.objs.size ≤ b) ∧ (∀ x c, X.env.cells.lookup x = some c → c ≠ b) ∧ ∀ p ∈ X.pn ++ pins, p.1 ≠ b
theorem Inv.fpOk {X : Cx} {pins : List (Addr × Obj)} {σ : St} {H H' : Hp} {s : Shared} {b : Addr} (I : Inv X pins σ H s) (hb : s.heap.objs.size ≤ b) (hn : H' b = none) : FpOk X pins H' b := by
  refine ⟨hn, Nat.ne_of_gt (Nat.lt_of_lt_of_le I.lt hb), I.nofs hb, .inr (Nat.le_trans I.sz hb), fun x c e z => ?_, fun p hp z => ?_⟩
  · obtain ⟨v, q⟩ := I.cell x c e
    exact absurd (Nat.lt_of_lt_of_le q.lt (by rw [z]; exact hb)) (Nat.lt_irrefl _)
  · exact absurd (Nat.lt_of_lt_of_le (Heap.lt_size (I.pin p hp).1) (by rw [z]; exact hb)) (Nat.lt_irrefl _)
structure Turn (P : Program) (w : World) (K : PySem.W.Frag) (tg : Expr) (J : It) (fp : List Addr) (it : Addr) (tn : Nat → Heap → Prop) : Prop where
  mem : it ∈ fp
  obj : ∀ i h, tn i h → ∀ b ∈ fp, ∃ o, h.get? b = some o ∧ ∀ v, o.data ≠ .cell v
  keep : ∀ i h h', tn i h → (∀ b ∈ fp, ∀ o, h.get? b = some o → h'.get? b = some o) → tn i h'
  item : ∀ (X : Cx), X.prog = P → X.w = w → X.K = K → X.calm = true → ∀ (i : Nat) (pins : List (Addr × Obj)) (s : Shared) (σ : St) (H : Hp) (E : Value → Shared → Prop), Inv X pins σ H s → (∀ b ∈ fp, FpOk X pins H b) → tn i s.heap → J.go i H →
    wpAny (model P w) X.A (pyNext (.ref it)) (fun r s1 => ∃ u, r = some u ∧
      wpAny (model P w) X.A (letOwnedTupleGo tg (.ref it) u) (fun _ s2 => ∃ x H', Inv X pins σ H' s2 ∧ RelV x u ∧ J.yld i H x H' ∧ tn (i + 1) s2.heap ∧ ∀ b ∈ fp, H' b = none) E s1) E s
  done : ∀ (X : Cx), X.prog = P → X.w = w → X.K = K → X.calm = true → ∀ (i : Nat) (pins : List (Addr × Obj)) (s : Shared) (σ : St) (H : Hp) (E : Value → Shared → Prop), Inv X pins σ H s → (∀ b ∈ fp, FpOk X pins H b) → tn i s.heap → J.stop i H →
    wpAny (model P w) X.A (pyNext (.ref it)) (fun r s1 => r = none ∧ Inv X pins σ H s1) E s
  self : ∀ (A : Around) (i : Nat) (s : Shared) (Q : Value → Shared → Prop) (E : Value → Shared → Prop), tn i s.heap → Q (.ref it) s → wpAny (model P w) A (pyIter (.ref it)) Q E s
abbrev TI := St → Hp → (It → Hp → Prop) → Prop
/-- an iterator has come -/
def PIE (X : Cx) (pins : List (Addr × Obj)) (σ : St) (tg : Expr) (R : It → Hp → Prop) (itv : Value) (s2 : Shared) : Prop :=
  ∃ (it : Addr) (fp : List Addr) (tn : Nat → Heap → Prop) (J : It) (H' : Hp), itv = .ref it ∧ Inv X pins σ H' s2 ∧ Turn X.prog X.w X.K tg J fp it tn ∧ tn 0 s2.heap ∧ (∀ b ∈ fp, FpOk X pins H' b) ∧ R J H'
def PI (X : Cx) (tg iter : Expr) (wi : TI) : Prop :=
  ∀ (pins : List (Addr × Obj)) (s : Shared) (σ : St) (H : Hp) (R : It → Hp → Prop), Inv X pins σ H s → wi σ H R →
    wpAny (model X.prog X.w) X.A (eval iter X.env) (fun v s1 => wpAny (model X.prog X.w) X.A (pyIter v) (PIE X pins σ tg R) X.xe s1) X.xe s

/-- the step ahead of the store is nothing for an iterator that keeps no tuple -/
theorem go_of {M : Model} {A : Around} {E : Value → Shared → Prop} {s : Shared} {tg : Expr} {it : Addr} {u : Value} {o : Obj} {n : String} {vs : Array Value} {Q : Unit → Shared → Prop} (ho : s.heap.get? it = some o) (hc : o.cls = .type n) (hd : o.data = .fields vs)
    (hn : ["enumerate", "zip", "dict_itemiterator", "dict_reverseitemiterator", "odict_iterator", "itertools.zip_longest", "itertools.pairwise"].contains n = false) (hQ : Q () s) : wpAny M A (letOwnedTupleGo tg (.ref it) u) Q E s := by
  unfold letOwnedTupleGo
  cases tg <;> first
    | exact wpAny_pure hQ
    | (cases u <;> first
        | exact wpAny_pure hQ
        | (refine wpAny_bind (wpAny_load ho ?_)
           rw [hc, hd]
           show wpAny M A (if (["enumerate", "zip", "dict_itemiterator", "dict_reverseitemiterator", "odict_iterator", "itertools.zip_longest", "itertools.pairwise"].contains n && vs[0]? == some (rawInt _)) = true then _ else _) Q E s
           rw [if_neg (by intro h; rw [hn, Bool.false_and] at h; cases h)]
           exact wpAny_pure hQ))

/-- the list at a, as it stands at each turn (a loop may append to it) -/
def Itl (K : PySem.W.Frag) (a : Addr) : It :=
  ⟨fun i H => ∃ xs x, SqL K H a xs ∧ xs[i]? = some x, fun i H x H' => H' = H ∧ ∀ xs, SqL K H a xs → xs[i]? = some x, fun i H => ∃ xs, SqL K H a xs ∧ xs.length ≤ i⟩
def Itt (K : PySem.W.Frag) (a : Addr) : It :=
  ⟨fun i H => ∃ xs x, SqT K H a xs ∧ xs[i]? = some x, fun i H x H' => H' = H ∧ ∀ xs, SqT K H a xs → xs[i]? = some x, fun i H => ∃ xs, SqT K H a xs ∧ xs.length ≤ i⟩
/-- lo, lo + 1, .. (n of them) -/
def Itr (lo : Int) (n : Nat) : It := ⟨fun i _ => i < n, fun i H x H' => H' = H ∧ x = .int (lo + i), fun i _ => n ≤ i⟩
theorem turn_list {P : Program} {w : World} {K : PySem.W.Frag} {tg : Expr} (a it : Addr) : Turn P w K tg (Itl K a) [it] it (fun i h => h.IsListIter it a i) where
  mem := by simp
  obj := fun i h st b hb => by
    have e : b = it := by simpa using hb
    subst e
    obtain ⟨o, e, c, d⟩ := st
    exact ⟨o, e, fun v z => by rw [d] at z; cases z⟩
  keep := fun i h h' st k => st.at fun o e => k it (by simp) o e
  item := by
    intro X hP hw hK hc i pins s σ H E I hf st hg
    subst hP hw hK
    obtain ⟨xs, x, hq, hx⟩ := hg
    obtain ⟨its, rv, p, hz⟩ := I.list hq
    obtain ⟨u, hu, ru⟩ := rv.get hx
    obtain ⟨f0, f1, f2, f3, f4, f5⟩ := hf it (by simp)
    refine wpAny_pyNext_list_item st p.isList (x := u) (by simpa using hu) fun h' st' sb => ?_
    have I1 : Inv X pins σ H { s with heap := h' } := I.turned (t' := s.toks) (fun b o hb e => (sb.2 b hb).trans e) f0 f1 f3 f4 f5
    obtain ⟨o, e, c, d⟩ := id st'
    exact ⟨u, rfl, go_of (s := { s with heap := h' }) e c d (by decide) ⟨x, H, I1, ru, ⟨rfl, fun ys hy => by rw [I.list_inj hy hq]; exact hx⟩, st', fun b hb => (hf b hb).1⟩⟩
  done := by
    intro X hP hw hK hc i pins s σ H E I hf st hg
    subst hP hw hK
    obtain ⟨xs, hq, hx⟩ := hg
    obtain ⟨its, rv, p, hz⟩ := I.list hq
    obtain ⟨f0, f1, f2, f3, f4, f5⟩ := hf it (by simp)
    have hl := rv.length
    exact wpAny_pyNext_list_end (I.ok.hd hc) st p.isList (by simp; omega) fun h' eb => ⟨rfl, I.turned (t' := s.toks) (fun b o hb e => eb b o hb e) f0 f1 f3 f4 f5⟩
  self := fun _ _ _ _ _ st h => wpAny_pyIter_listiter st h
theorem turn_tuple {P : Program} {w : World} {K : PySem.W.Frag} {tg : Expr} (a it : Addr) : Turn P w K tg (Itt K a) [it] it (fun i h => h.IsTupleIter it a i) where
  mem := by simp
  obj := fun i h st b hb => by
    have e : b = it := by simpa using hb
    subst e
    obtain ⟨o, e, c, d⟩ := st
    exact ⟨o, e, fun v z => by rw [d] at z; cases z⟩
  keep := fun i h h' st k => st.at fun o e => k it (by simp) o e
  item := by
    intro X hP hw hK hc i pins s σ H E I hf st hg
    subst hP hw hK
    obtain ⟨xs, x, hq, hx⟩ := hg
    obtain ⟨its, rv, p, hz⟩ := I.tuple hq
    obtain ⟨u, hu, ru⟩ := rv.get hx
    obtain ⟨f0, f1, f2, f3, f4, f5⟩ := hf it (by simp)
    refine wpAny_pyNext_tuple_item st (show s.heap.IsTuple a its.toArray from p) (x := u) (by simpa using hu) fun h' st' sb => ?_
    have I1 : Inv X pins σ H { s with heap := h' } := I.turned (t' := s.toks) (fun b o hb e => (sb.2 b hb).trans e) f0 f1 f3 f4 f5
    obtain ⟨o, e, c, d⟩ := id st'
    exact ⟨u, rfl, go_of (s := { s with heap := h' }) e c d (by decide) ⟨x, H, I1, ru, ⟨rfl, fun ys hy => by rw [I.tuple_inj hy hq]; exact hx⟩, st', fun b hb => (hf b hb).1⟩⟩
  done := by
    intro X hP hw hK hc i pins s σ H E I hf st hg
    subst hP hw hK
    obtain ⟨xs, hq, hx⟩ := hg
    obtain ⟨its, rv, p, hz⟩ := I.tuple hq
    obtain ⟨f0, f1, f2, f3, f4, f5⟩ := hf it (by simp)
    have hl := rv.length
    exact wpAny_pyNext_tuple_end (I.ok.hd hc) st (show s.heap.IsTuple a its.toArray from p) (by simp; omega) fun h' eb => ⟨rfl, I.turned (t' := s.toks) (fun b o hb e => eb b o hb e) f0 f1 f3 f4 f5⟩
  self := fun _ _ _ _ _ st h => wpAny_pyIter_tupleiter st h
theorem turn_range {P : Program} {w : World} {K : PySem.W.Frag} {tg : Expr} (it : Addr) (lo : Int) (n : Nat) : Turn P w K tg (Itr lo n) [it] it (fun i h => IsRangeIter h it (lo + (i : Nat) * 1) ((n : Int) - (i : Nat)) 1) where
  mem := by simp
  obj := fun i h st b hb => by
    have e : b = it := by simpa using hb
    subst e
    exact ⟨_, st, fun v z => by
      have z' : Data.fields _ = Data.cell v := z
      cases z'⟩
  keep := fun i h h' st k => k it (by simp) _ st
  item := by
    intro X hP hw hK hc i pins s σ H E I hf st hg
    subst hP hw hK
    obtain ⟨f0, f1, f2, f3, f4, f5⟩ := hf it (by simp)
    have W := Walks.range (prog := X.prog) (w := X.w) (I.ok.hd hc) it lo 1 n
    refine W.item i s _ _ hg st fun v h' tk hv st' kk => ?_
    obtain ⟨t, rfl⟩ := hv
    have I1 : Inv X pins σ H { s with heap := h', toks := tk } := I.turned (fun b o hb e => kk b o (by simpa using hb) e) f0 f1 f3 f4 f5
    refine ⟨_, rfl, go_of (s := { s with heap := h', toks := tk }) (n := "range_iterator") st' rfl rfl (by decide) ⟨.int (lo + i), H, I1, ⟨t, ?_⟩, ⟨rfl, rfl⟩, st', fun b hb => (hf b hb).1⟩⟩
    rw [Int.mul_one]
  done := by
    intro X hP hw hK hc i pins s σ H E I hf st hg
    subst hP hw hK
    obtain ⟨f0, f1, f2, f3, f4, f5⟩ := hf it (by simp)
    exact wpAny_pyNext_range_end (I.ok.hd hc) st (by have : n ≤ i := hg; omega) fun h' eb => ⟨rfl, I.turned (t' := s.toks) (fun b o hb e => eb b o hb e) f0 f1 f3 f4 f5⟩
  self := fun _ _ _ _ _ st h => wpAny_pyIter_rangeiter st h
end L2

namespace L2
open PySem PySem.Spec PyProof.Rows
section
variable {X : Cx} {tg : Expr}
def iList (K : PySem.W.Frag) (tl : TE) : TI := fun σ H R => tl σ H fun x H1 => ∃ a, x = .ref a ∧ (∃ xs, SqL K H1 a xs) ∧ R (Itl K a) H1
def iTup (K : PySem.W.Frag) (tl : TE) : TI := fun σ H R => tl σ H fun x H1 => ∃ a, x = .ref a ∧ (∃ xs, SqT K H1 a xs) ∧ R (Itt K a) H1
theorem pi_list {l : Expr} {tl : TE} (hl : PE X l tl) : PI X tg l (iList X.K tl) := by
  intro pins s σ H R I h
  refine thn (hl pins s σ H _ I h) fun v s1 ⟨x, H1, I1, r1, q1⟩ => ?_
  obtain ⟨a, e, ⟨xs, hq⟩, q⟩ := q1
  subst e
  cases r1
  obtain ⟨its, rv, p, hz⟩ := I1.list hq
  refine wpAny_pyIter_list p.isList ?_
  refine ⟨s1.heap.objs.size, [s1.heap.objs.size], _, _, H1, rfl, I1.kept (t' := s1.toks) fun b o e => Heap.get?_push_of_some _ e, turn_list a _, ⟨_, Heap.get?_push_size _ rfl, rfl, rfl⟩, fun b hb => ?_, q⟩
  have e : b = s1.heap.objs.size := by simpa using hb
  subst e
  exact I1.fpOk (Nat.le_refl _) (I1.hok.fresh (Nat.le_refl _))
theorem pi_tup {l : Expr} {tl : TE} (hl : PE X l tl) : PI X tg l (iTup X.K tl) := by
  intro pins s σ H R I h
  refine thn (hl pins s σ H _ I h) fun v s1 ⟨x, H1, I1, r1, q1⟩ => ?_
  obtain ⟨a, e, ⟨xs, hq⟩, q⟩ := q1
  subst e
  cases r1
  obtain ⟨its, rv, p, hz⟩ := I1.tuple hq
  refine wpAny_pyIter_tuple (show s1.heap.IsTuple a its.toArray from p) ?_
  refine ⟨s1.heap.objs.size, [s1.heap.objs.size], _, _, H1, rfl, I1.kept (t' := s1.toks) fun b o e => Heap.get?_push_of_some _ e, turn_tuple a _, ⟨_, Heap.get?_push_size _ rfl, rfl, rfl⟩, fun b hb => ?_, q⟩
  have e : b = s1.heap.objs.size := by simpa using hb
  subst e
  exact I1.fpOk (Nat.le_refl _) (I1.hok.fresh (Nat.le_refl _))
/-- a range object just made, walked -/
theorem range_it {pins : List (Addr × Obj)} {σ : St} {H : Hp} {s : Shared} {R : It → Hp → Prop} {E : Value → Shared → Prop} {lo hi : Int} {t u v : Tok} {tk : Nat} (I : Inv X pins σ H s) (h1 : -(2 ^ 62) ≤ lo) (h2 : lo < 2 ^ 62) (h3 : -(2 ^ 62) ≤ hi) (h4 : hi < 2 ^ 62)
    (q : R (Itr lo (hi - lo).toNat) H) : wpAny (model X.prog X.w) X.A (pyIter (.ref s.heap.objs.size)) (PIE X pins σ tg R) E { s with heap := s.heap.push { cls := .type "range", data := .fields #[.int lo t, .int hi u, .int 1 v] }, toks := tk } := by
  refine wpAny_pyIter_range (IsRange.new ..) (small_one h1 h2 h3 h4) ?_
  have I1 : Inv X pins σ H { s with heap := s.heap.push { cls := .type "range", data := .fields #[.int lo t, .int hi u, .int 1 v] }, toks := tk } := I.kept fun b o e => Heap.get?_push_of_some _ e
  refine ⟨(s.heap.push { cls := .type "range", data := .fields #[.int lo t, .int hi u, .int 1 v] }).objs.size, [(s.heap.push { cls := .type "range", data := .fields #[.int lo t, .int hi u, .int 1 v] }).objs.size], _, _, H, rfl,
    I1.kept (t' := tk) fun b o e => Heap.get?_push_of_some _ e, turn_range _ lo (hi - lo).toNat, ?_, fun b hb => ?_, q⟩
  · have e1 : lo + ((0 : Nat) : Int) * 1 = lo := by simp
    have e2 : (((hi - lo).toNat : Nat) : Int) - ((0 : Nat) : Int) = Builtin.Range.rangeSize lo hi 1 := by rw [rangeSize_one]; split <;> omega
    show IsRangeIter _ _ (lo + ((0 : Nat) : Int) * 1) ((((hi - lo).toNat : Nat) : Int) - ((0 : Nat) : Int)) 1
    rw [e1, e2]
    exact Heap.get?_push_size _ rfl
  · have e : b = (s.heap.push { cls := .type "range", data := .fields #[.int lo t, .int hi u, .int 1 v] }).objs.size := by simpa using hb
    subst e
    exact I1.fpOk (Nat.le_refl _) (I1.hok.fresh (Nat.le_refl _))
def iRng1 (ta : TA) : TI := fun σ H R => ta σ H fun vs H1 => ∃ j : Int, vs = [.int j] ∧ -(2 ^ 62) ≤ j ∧ j < 2 ^ 62 ∧ R (Itr 0 j.toNat) H1
def iRng2 (ta : TA) : TI := fun σ H R => ta σ H fun vs H1 => ∃ i j : Int, vs = [.int i, .int j] ∧ (-(2 ^ 62) ≤ i ∧ i < 2 ^ 62 ∧ -(2 ^ 62) ≤ j ∧ j < 2 ^ 62) ∧ R (Itr i (j - i).toNat) H1
theorem pi_range1 {a : Expr} {ta : TA} {p pos : Pos} (hg : Gl X "range") (hm : X.mg "range" = none) (ha : PA X [a] ta) (hs : starEach [a] X.env = [(false, eval a X.env)] := by rfl) : PI X tg (.Call (.Name "range" p) [a] [] pos) (iRng1 ta) := by
  intro pins s σ H R I h
  refine Call_ (ld_blt I hg hm boot_range (PyProof.Rows.callWith_type1 (thn (ha pos pins s σ H _ I h) fun us s1 ⟨vs, H1, I1, r1, q1⟩ => ?_) hs rfl))
  obtain ⟨j, e, q1, q2, q⟩ := q1
  subst e
  cases r1 with
  | cons r rr =>
    cases rr
    obtain ⟨t, rfl⟩ := r
    exact call_range_1 (range_it I1 (by omega) (by omega) q1 q2 (by simpa using q))
theorem pi_range2 {a b : Expr} {ta : TA} {p pos : Pos} (hg : Gl X "range") (hm : X.mg "range" = none) (ha : PA X [a, b] ta) (hs : starEach [a, b] X.env = [(false, eval a X.env), (false, eval b X.env)] := by rfl) (hs2 : starEach [b] X.env = [(false, eval b X.env)] := by rfl) :
    PI X tg (.Call (.Name "range" p) [a, b] [] pos) (iRng2 ta) := by
  intro pins s σ H R I h
  refine Call_ (ld_blt I hg hm boot_range (PyProof.Rows.callWith_type1 (thn (ha pos pins s σ H _ I h) fun us s1 ⟨vs, H1, I1, r1, q1⟩ => ?_) (by rw [hs, hs2]) (by rw [hs2]; rfl)))
  obtain ⟨i, j, e, ⟨q1, q2, q3, q4⟩, q⟩ := q1
  subst e
  cases r1 with
  | cons r rr =>
    cases rr with
    | cons r' rr =>
      cases rr
      obtain ⟨t, rfl⟩ := r
      obtain ⟨t', rfl⟩ := r'
      exact call_range_2 (range_it I1 q1 q2 q3 q4 q)

/-! ### for -/
/-- W: the invariant by the turn and a measure; N: what the body is to reach -/
def tFor (wi : TI) (g : TG) (tb : TS) : TS := fun D σ H => wi σ H fun J H1 => ∃ W : Nat → Nat → St → Hp → Prop, (∃ m, W 0 m σ H1) ∧ ∀ i m σ H, W i m σ H →
  (J.stop i H ∧ D.nx σ H) ∨ (J.go i H ∧ ∃ N : St → Hp → Prop, (∀ σ' H', N σ' H' → ∃ m', m' < m ∧ W (i + 1) m' σ' H') ∧ ∀ x H', J.yld i H x H' → g x σ H' fun σ2 H2 => tb { D with nx := N, ct := N, bk := D.nx } σ2 H2)
/-- the records at fp as they stand -/
def pinsAt (fp : List Addr) (h : Heap) : List (Addr × Obj) := fp.filterMap fun b => (h.get? b).map fun o => (b, o)
theorem mem_pinsAt {fp : List Addr} {h : Heap} {b : Addr} {o : Obj} (hb : b ∈ fp) (e : h.get? b = some o) : (b, o) ∈ pinsAt fp h := List.mem_filterMap.mpr ⟨b, hb, by rw [e]; rfl⟩
theorem of_pinsAt {fp : List Addr} {h : Heap} {p : Addr × Obj} (hp : p ∈ pinsAt fp h) : p.1 ∈ fp ∧ h.get? p.1 = some p.2 := by
  obtain ⟨b, hb, e⟩ := List.mem_filterMap.mp hp
  cases q : h.get? b with
  | none => rw [q] at e; cases e
  | some o =>
    rw [q] at e
    have e' : (b, o) = p := Option.some.inj e
    subst e'
    exact ⟨hb, q⟩
theorem Inv.pinned {pins : List (Addr × Obj)} {σ : St} {H : Hp} {s : Shared} {fp : List Addr} (I : Inv X pins σ H s) (hf : ∀ b ∈ fp, FpOk X pins H b) (ho : ∀ b ∈ fp, ∃ o, s.heap.get? b = some o ∧ ∀ v, o.data ≠ .cell v) : Inv X (pins ++ pinsAt fp s.heap) σ H s :=
  I.pins_of fun p hp => (List.mem_append.mp hp).elim (fun z => I.pin p (List.mem_append_right _ z)) fun z => by
    obtain ⟨hb, e⟩ := of_pinsAt z
    obtain ⟨f0, f1, f2, _⟩ := hf p.1 hb
    obtain ⟨o, e', d⟩ := ho p.1 hb
    rw [e] at e'; cases e'
    exact ⟨e, f0, f1, f2, d⟩
theorem Inv.unpinned {pins pl : List (Addr × Obj)} {σ : St} {H : Hp} {s : Shared} (I : Inv X (pins ++ pl) σ H s) : Inv X pins σ H s := I.pins_of fun p hp => I.pin p (List.mem_append_right _ (List.mem_append_left _ hp))
theorem ps_for {iter : Expr} {body : List Stmt} {wi : TI} {g : TG} {tb : TS} {pos : Pos} (hp : PassesOwn (model X.prog X.w) X.A X.env X.xe) (hc : X.calm = true) (hi : PI X tg iter wi) (hg : PG X tg g) (hb : PSs X body tb)
    (hs : ∀ x, foldedSetIterable iter X.env x = pure x := by intro _; rfl) : PS X (.For tg iter body [] pos) (tFor wi g tb) := by
  intro pins s σ H D I h
  refine wpAny_For (thn (hi pins s σ H _ I h) fun v s1 h1 => thn h1 fun itv s2 h2 => ?_) hs
  obtain ⟨it, fp, tn, J, H2, e, I2, T, st2, f2, W, ⟨m0, w0⟩, turn⟩ := h2
  subst e
  -- what stays true of the iterator's objects through the loop
  have stat : ∀ {H' : Hp}, (∀ b ∈ fp, H' b = none) → ∀ b ∈ fp, FpOk X pins H' b := fun hn b hb => ⟨hn b hb, (f2 b hb).2⟩
  refine codeAny_forLoop_any (fun n s' => ∃ i σ' H', Inv X pins σ' H' s' ∧ tn i s'.heap ∧ (∀ b ∈ fp, H' b = none) ∧ W i n σ' H') ?_ m0 ⟨0, σ, H2, I2, st2, fun b hb => (f2 b hb).1, w0⟩
  rintro n s3 ⟨i, σ3, H3, I3, st3, fr3, w3⟩
  rcases turn i n σ3 H3 w3 with ⟨stop, qn⟩ | ⟨go, N, hN, step⟩
  · refine wpAny_passesOwn hp (thn (T.done X rfl rfl rfl hc i pins s3 σ3 H3 X.xe I3 (stat fr3) st3 stop) fun r s4 ⟨hr, I4⟩ => ?_)
    subst hr
    exact wpAny_execs_nil ⟨σ3, H3, I4, qn⟩
  · refine wpAny_passesOwn hp (thn (T.item X rfl rfl rfl hc i pins s3 σ3 H3 X.xe I3 (stat fr3) st3 go) fun r s4 ⟨u, hr, h4⟩ => ?_)
    subst hr
    refine wpAny_passesOwn hp (thn h4 fun _ s5 ⟨x, H5, I5, r5, y5, st5, fr5⟩ => ?_)
    have I5' := I5.pinned (stat fr5) (T.obj _ _ st5)
    refine wpAny_passesOwn hp (thn (hg _ s5 σ3 H5 x u _ I5' r5 (step x H5 y5)) fun _ s6 ⟨σ6, H6, I6, q6⟩ => ?_)
    refine wpAny_passesOwn hp (thn (hb _ s6 σ6 H6 _ I6 q6) fun f s7 q7 => ?_)
    have again : ∀ {σ7 : St} {H7 : Hp}, Inv X (pins ++ pinsAt fp s5.heap) σ7 H7 s7 → N σ7 H7 → ∃ m, m < n ∧ ∃ i σ' H', Inv X pins σ' H' s7 ∧ tn i s7.heap ∧ (∀ b ∈ fp, H' b = none) ∧ W i m σ' H' := fun {σ7 H7} I7 n7 => by
      obtain ⟨m', hm, w7⟩ := hN σ7 H7 n7
      refine ⟨m', hm, i + 1, σ7, H7, I7.unpinned, T.keep _ _ _ st5 fun b hb o e => (I7.pin (b, o) (List.mem_append_right _ (List.mem_append_right _ (mem_pinsAt hb e)))).1, fun b hb => ?_, w7⟩
      obtain ⟨o, e, d⟩ := T.obj _ _ st5 b hb
      exact (I7.pin (b, o) (List.mem_append_right _ (List.mem_append_right _ (mem_pinsAt hb e)))).2.1
    cases f with
    | next => obtain ⟨σ7, H7, I7, n7⟩ := q7; exact again I7 n7
    | cont => obtain ⟨σ7, H7, I7, n7⟩ := q7; exact again I7 n7
    | brk => obtain ⟨σ7, H7, I7, q7⟩ := q7; exact ⟨σ7, H7, I7.unpinned, q7⟩
    | ret v => obtain ⟨x7, σ7, H7, I7, r7, q7⟩ := q7; exact ⟨x7, σ7, H7, I7.unpinned, r7, q7⟩
end

/-! ### the forms one uses -/
/-- over a list that the body leaves as it is -/
theorem for_list {K : PySem.W.Frag} {a : Addr} {xs : List V} {g : TG} {tb : TS} {D : Ends} {σ : St} {H : Hp} (Pv : Nat → St → Hp → Prop) (h0 : Pv 0 σ H) (hl : ∀ i σ H, i ≤ xs.length → Pv i σ H → SqL K H a xs)
    (hs : ∀ i x σ H, xs[i]? = some x → Pv i σ H → g x σ H fun σ2 H2 => tb { D with nx := Pv (i + 1), ct := Pv (i + 1), bk := D.nx } σ2 H2) (hd : ∀ σ H, Pv xs.length σ H → D.nx σ H) :
    ∃ W : Nat → Nat → St → Hp → Prop, (∃ m, W 0 m σ H) ∧ ∀ i m σ H, W i m σ H →
      ((Itl K a).stop i H ∧ D.nx σ H) ∨ ((Itl K a).go i H ∧ ∃ N : St → Hp → Prop, (∀ σ' H', N σ' H' → ∃ m', m' < m ∧ W (i + 1) m' σ' H') ∧ ∀ x H', (Itl K a).yld i H x H' → g x σ H' fun σ2 H2 => tb { D with nx := N, ct := N, bk := D.nx } σ2 H2) := by
  refine ⟨fun i m σ H => m = xs.length - i ∧ i ≤ xs.length ∧ Pv i σ H, ⟨xs.length, by simp, Nat.zero_le _, h0⟩, ?_⟩
  rintro i m σ H ⟨rfl, hi, p⟩
  have q := hl i σ H hi p
  by_cases hlt : i < xs.length
  · refine .inr ⟨⟨xs, xs[i], q, by simp [hlt]⟩, Pv (i + 1), fun σ' H' p' => ⟨xs.length - (i + 1), by omega, rfl, hlt, p'⟩, fun x H' y => ?_⟩
    obtain ⟨e, y⟩ := y
    subst e
    exact hs i x σ _ (y xs q) p
  · have e : i = xs.length := by omega
    subst e
    exact .inl ⟨⟨xs, q, Nat.le_refl _⟩, hd σ H p⟩
theorem for_tup {K : PySem.W.Frag} {a : Addr} {xs : List V} {g : TG} {tb : TS} {D : Ends} {σ : St} {H : Hp} (Pv : Nat → St → Hp → Prop) (h0 : Pv 0 σ H) (hl : ∀ i σ H, i ≤ xs.length → Pv i σ H → SqT K H a xs)
    (hs : ∀ i x σ H, xs[i]? = some x → Pv i σ H → g x σ H fun σ2 H2 => tb { D with nx := Pv (i + 1), ct := Pv (i + 1), bk := D.nx } σ2 H2) (hd : ∀ σ H, Pv xs.length σ H → D.nx σ H) :
    ∃ W : Nat → Nat → St → Hp → Prop, (∃ m, W 0 m σ H) ∧ ∀ i m σ H, W i m σ H →
      ((Itt K a).stop i H ∧ D.nx σ H) ∨ ((Itt K a).go i H ∧ ∃ N : St → Hp → Prop, (∀ σ' H', N σ' H' → ∃ m', m' < m ∧ W (i + 1) m' σ' H') ∧ ∀ x H', (Itt K a).yld i H x H' → g x σ H' fun σ2 H2 => tb { D with nx := N, ct := N, bk := D.nx } σ2 H2) := by
  refine ⟨fun i m σ H => m = xs.length - i ∧ i ≤ xs.length ∧ Pv i σ H, ⟨xs.length, by simp, Nat.zero_le _, h0⟩, ?_⟩
  rintro i m σ H ⟨rfl, hi, p⟩
  have q := hl i σ H hi p
  by_cases hlt : i < xs.length
  · refine .inr ⟨⟨xs, xs[i], q, by simp [hlt]⟩, Pv (i + 1), fun σ' H' p' => ⟨xs.length - (i + 1), by omega, rfl, hlt, p'⟩, fun x H' y => ?_⟩
    obtain ⟨e, y⟩ := y
    subst e
    exact hs i x σ _ (y xs q) p
  · have e : i = xs.length := by omega
    subst e
    exact .inl ⟨⟨xs, q, Nat.le_refl _⟩, hd σ H p⟩
theorem for_range {lo : Int} {n : Nat} {g : TG} {tb : TS} {D : Ends} {σ : St} {H : Hp} (Pv : Nat → St → Hp → Prop) (h0 : Pv 0 σ H)
    (hs : ∀ i σ H, i < n → Pv i σ H → g (.int (lo + i)) σ H fun σ2 H2 => tb { D with nx := Pv (i + 1), ct := Pv (i + 1), bk := D.nx } σ2 H2) (hd : ∀ σ H, Pv n σ H → D.nx σ H) :
    ∃ W : Nat → Nat → St → Hp → Prop, (∃ m, W 0 m σ H) ∧ ∀ i m σ H, W i m σ H →
      ((Itr lo n).stop i H ∧ D.nx σ H) ∨ ((Itr lo n).go i H ∧ ∃ N : St → Hp → Prop, (∀ σ' H', N σ' H' → ∃ m', m' < m ∧ W (i + 1) m' σ' H') ∧ ∀ x H', (Itr lo n).yld i H x H' → g x σ H' fun σ2 H2 => tb { D with nx := N, ct := N, bk := D.nx } σ2 H2) := by
  refine ⟨fun i m σ H => m = n - i ∧ i ≤ n ∧ Pv i σ H, ⟨n, by simp, Nat.zero_le _, h0⟩, ?_⟩
  rintro i m σ H ⟨rfl, hi, p⟩
  by_cases hlt : i < n
  · refine .inr ⟨hlt, Pv (i + 1), fun σ' H' p' => ⟨n - (i + 1), by omega, rfl, hlt, p'⟩, fun x H' y => ?_⟩
    obtain ⟨e, y⟩ := y
    subst e y
    exact hs i σ _ hlt p
  · have e : i = n := by omega
    subst e
    exact .inl ⟨Nat.le_refl _, hd σ H p⟩
end L2

namespace L2
open PySem PySem.Spec PyProof.Rows

abbrev R2 := V → V → Hp → VK → Prop
/-- a two-place operation on values: f is binaryOp op, inplaceOp op or compareOp op -/
def OpR (X : Cx) (f : Value → Value → Sem Value) (r : R2) : Prop :=
  ∀ (pins : List (Addr × Obj)) (s : Shared) (σ : St) (H : Hp) (x y : V) (v u : Value) (Q : VK), Inv X pins σ H s → RelV x v → RelV y u → r x y H Q →
    wpAny (model X.prog X.w) X.A (f v u) (EP X pins σ Q) X.xe s
/-- a one-place operation -/
def UnR (X : Cx) (f : Value → Sem Value) (r : V → Hp → VK → Prop) : Prop :=
  ∀ (pins : List (Addr × Obj)) (s : Shared) (σ : St) (H : Hp) (x : V) (v : Value) (Q : VK), Inv X pins σ H s → RelV x v → r x H Q →
    wpAny (model X.prog X.w) X.A (f v) (EP X pins σ Q) X.xe s
/-- a call of a value that is known (a builtin, a type) with values -/
def CallR (X : Cx) (f : Value) (r : List V → Hp → VK → Prop) : Prop :=
  ∀ (pins : List (Addr × Obj)) (s : Shared) (σ : St) (H : Hp) (xs : List V) (us : List Value) (Q : VK), Inv X pins σ H s → Vals xs us → r xs H Q →
    wpAny (model X.prog X.w) X.A (call f us) (EP X pins σ Q) X.xe s
def tOp (r : R2) (ta tb : TE) : TE := fun σ H Q => ta σ H fun x H1 => tb σ H1 fun y H2 => r x y H2 Q
def tUn (r : V → Hp → VK → Prop) (ta : TE) : TE := fun σ H Q => ta σ H fun x H1 => r x H1 Q
/-- ints in, under C, and a value out -/
def rI (C : Int → Int → Prop) (g : Int → Int → V) : R2 := fun x y H Q => ∃ i j, x = .int i ∧ y = .int j ∧ C i j ∧ Q (g i j) H
def rI0 (g : Int → Int → V) : R2 := fun x y H Q => ∃ i j, x = .int i ∧ y = .int j ∧ Q (g i j) H
def rU (g : Int → V) : V → Hp → VK → Prop := fun x H Q => ∃ i, x = .int i ∧ Q (g i) H

section
variable {X : Cx} {a b c : Expr} {ta tb tc : TE} {pos : Pos}

theorem binT (ha : PE X a ta) (hb : PE X b tb) {pins : List (Addr × Obj)} {s : Shared} {σ : St} {H : Hp} {R : V → V → Hp → Prop} (I : Inv X pins σ H s)
    (h : ta σ H fun x H1 => tb σ H1 fun y H2 => R x y H2) {Q : Value → Shared → Prop} {f : Value → Value → Sem Value}
    (hf : ∀ v u s2 x y H2, Inv X pins σ H2 s2 → RelV x v → RelV y u → R x y H2 → wpAny (model X.prog X.w) X.A (f v u) Q X.xe s2) :
    wpAny (model X.prog X.w) X.A (eval a X.env) (fun v s₁ => wpAny (model X.prog X.w) X.A (eval b X.env) (fun u s₂ => wpAny (model X.prog X.w) X.A (f v u) Q X.xe s₂) X.xe s₁) X.xe s := by
  refine thn (ha pins s σ H _ I h) fun v s1 ⟨x, H1, I1, r1, q1⟩ => ?_
  refine thn (hb pins s1 σ H1 _ I1 q1) fun u s2 ⟨y, H2, I2, r2, q2⟩ => ?_
  exact hf v u s2 x y H2 I2 r1 r2 q2

theorem pe_op {op : Operator} {r : R2} (ho : OpR X (binaryOp op) r) (ha : PE X a ta) (hb : PE X b tb) : PE X (.BinOp a op b pos) (tOp r ta tb) := by
  intro pins s σ H Q I h
  exact wpAny_BinOp (binT ha hb I h fun v u s2 x y H2 I2 rx ry q => ho pins s2 σ H2 x y v u Q I2 rx ry q)
theorem pe_un {op : UnaryOp} {r : V → Hp → VK → Prop} (ho : UnR X (unaryOp op) r) (ha : PE X a ta) : PE X (.UnaryOp op a pos) (tUn r ta) := by
  intro pins s σ H Q I h
  exact UnaryOp_ (thn (ha pins s σ H _ I h) fun v s1 ⟨x, H1, I1, r1, q1⟩ => ho pins s1 σ H1 x v Q I1 r1 q1)
/-! ### ints -/
theorem opI {f : Value → Value → Sem Value} {C : Int → Int → Prop} {g : Int → Int → Int}
    (rule : ∀ (i j : Int) (t u : Tok) (s : Shared) (Q : Value → Shared → Prop) (E : Value → Shared → Prop), C i j → Q (.int (g i j) s.toks) { s with toks := s.toks + 1 } → wpAny (model X.prog X.w) X.A (f (.int i t) (.int j u)) Q E s) :
    OpR X f (rI C fun i j => .int (g i j)) := by
  intro pins s σ H x y v u Q I rx ry h
  obtain ⟨i, j, rfl, rfl, hc, q⟩ := h
  obtain ⟨t, rfl⟩ := rx
  obtain ⟨t', rfl⟩ := ry
  exact rule i j t t' s _ _ hc ⟨.int (g i j), H, I.tok _, ⟨_, rfl⟩, q⟩
theorem opI0 {f : Value → Value → Sem Value} {g : Int → Int → Int}
    (rule : ∀ (i j : Int) (t u : Tok) (s : Shared) (Q : Value → Shared → Prop) (E : Value → Shared → Prop), Q (.int (g i j) s.toks) { s with toks := s.toks + 1 } → wpAny (model X.prog X.w) X.A (f (.int i t) (.int j u)) Q E s) :
    OpR X f (rI0 fun i j => .int (g i j)) := by
  intro pins s σ H x y v u Q I rx ry h
  obtain ⟨i, j, rfl, rfl, q⟩ := h
  obtain ⟨t, rfl⟩ := rx
  obtain ⟨t', rfl⟩ := ry
  exact rule i j t t' s _ _ ⟨.int (g i j), H, I.tok _, ⟨_, rfl⟩, q⟩
theorem opB0 {f : Value → Value → Sem Value} {g : Int → Int → Bool}
    (rule : ∀ (i j : Int) (t u : Tok) (s : Shared) (Q : Value → Shared → Prop) (E : Value → Shared → Prop), Q (.bool (g i j)) s → wpAny (model X.prog X.w) X.A (f (.int i t) (.int j u)) Q E s) :
    OpR X f (rI0 fun i j => .bl (g i j)) := by
  intro pins s σ H x y v u Q I rx ry h
  obtain ⟨i, j, rfl, rfl, q⟩ := h
  obtain ⟨t, rfl⟩ := rx
  obtain ⟨t', rfl⟩ := ry
  exact rule i j t t' s _ _ ⟨.bl (g i j), H, I, rfl, q⟩

def CPow (i j : Int) : Prop := 0 ≤ j ∧ j ≤ 1000000 ∧ i.natAbs < 2 ^ 64
def CMul (i j : Int) : Prop := (-(2 ^ 64) < i ∧ i < 2 ^ 64) ∨ (-(2 ^ 64) < j ∧ j < 2 ^ 64)
theorem CMul.ok {i j : Int} (h : CMul i j) : IntMulOk i j := by
  rcases h with ⟨h1, h2⟩ | ⟨h1, h2⟩
  · exact .of_left (intBits_le_64 h1 h2)
  · exact .of_right (intBits_le_64 h1 h2)
theorem op_add : OpR X (binaryOp .Add) (rI0 fun i j => .int (i + j)) := opI0 fun _ _ _ _ _ _ _ q => add_int q
theorem op_sub : OpR X (binaryOp .Sub) (rI0 fun i j => .int (i - j)) := opI0 fun _ _ _ _ _ _ _ q => sub_int q
theorem op_mul : OpR X (binaryOp .Mult) (rI CMul fun i j => .int (i * j)) := opI fun _ _ _ _ _ _ _ hc q => mul_int q hc.ok
/-- % by a positive divisor of any size -/
theorem op_mod : OpR X (binaryOp .Mod) (rI (fun _ j => 0 < j) fun i j => .int (i % j)) := opI fun i j _ _ _ _ _ hc q => by
  have h1 : (0 : Int) < j := hc
  exact mod_int' (by omega) (by rw [Int.fmod_eq_emod_of_nonneg i (by omega)]; exact q)
theorem op_pow : OpR X (binaryOp .Pow) (rI CPow fun i j => .int (i ^ j.toNat)) := opI fun _ _ _ _ _ _ _ hc q => pow_int_small hc.1 hc.2.1 hc.2.2 q
theorem op_shl : OpR X (binaryOp .LShift) (rI CPow fun i j => .int (i * 2 ^ j.toNat)) := opI fun _ _ _ _ _ _ _ hc q => lshift_int_small hc.1 hc.2.1 hc.2.2 q
theorem unI {f : Value → Sem Value} {g : Int → Int}
    (rule : ∀ (i : Int) (t : Tok) (s : Shared) (Q : Value → Shared → Prop) (E : Value → Shared → Prop), Q (.int (g i) s.toks) { s with toks := s.toks + 1 } → wpAny (model X.prog X.w) X.A (f (.int i t)) Q E s) :
    UnR X f (rU fun i => .int (g i)) := by
  intro pins s σ H x v Q I rx h
  obtain ⟨i, rfl, q⟩ := h
  obtain ⟨t, rfl⟩ := rx
  exact rule i t s _ _ ⟨.int (g i), H, I.tok _, ⟨_, rfl⟩, q⟩
theorem un_neg : UnR X (unaryOp .USub) (rU fun i => .int (-i)) := unI fun _ _ _ _ _ q => neg_int q
/-! ### bools among ints: n += (a < b) -/
end

/-! ### comparisons -/
/-- the scalars that == tells apart as data does -/
def scal : V → V → Bool
  | .non, .non => true | .non, .int _ => true | .int _, .non => true | .non, .bl _ => true | .bl _, .non => true | .non, .str _ => true | .str _, .non => true
  | .int _, .int _ => true | .bl _, .bl _ => true | .str _, .str _ => true | .byt _, .byt _ => true
  | .int _, .str _ => true | .str _, .int _ => true | .bl _, .str _ => true | .str _, .bl _ => true
  | _, _ => false
def rEq : R2 := fun x y H Q => scal x y = true ∧ Q (.bl (decide (x = y))) H
def rNe : R2 := fun x y H Q => scal x y = true ∧ Q (.bl (!decide (x = y))) H

theorem dec_int {i j : Int} : decide (V.int i = V.int j) = (i == j) := by
  rw [Bool.eq_iff_iff]
  simp
theorem dec_bl {i j : Bool} : decide (V.bl i = V.bl j) = (i == j) := by
  rw [Bool.eq_iff_iff]
  simp
theorem dec_str {i j : Str} : decide (V.str i = V.str j) = (i == j) := by
  rw [Bool.eq_iff_iff]
  simp
theorem dec_byt {i j : Array UInt8} : decide (V.byt i = V.byt j) = (i.toList == j.toList) := by
  rw [Bool.eq_iff_iff]
  cases i
  cases j
  simp

section
variable {X : Cx} {a b c : Expr} {ta tb tc : TE} {pos : Pos}
theorem fin_bl {pins : List (Addr × Obj)} {σ : St} {H : Hp} {s : Shared} {Q : VK} {k k' : Bool} (I : Inv X pins σ H s) (q : Q (.bl k) H) (e : k = k') : EP X pins σ Q (.bool k') s := by
  subst e
  exact ⟨.bl k, H, I, rfl, q⟩
theorem op_eq : OpR X (compareOp .Eq) rEq := by
  intro pins s σ H x y v u Q I rx ry h
  obtain ⟨hs, q⟩ := h
  cases x with
  | non =>
    cases rx
    cases y with
    | non => cases ry; exact PySem.EqNone.eq_none_none (fin_bl I q (by simp))
    | bl j => cases ry; exact PySem.EqNone.eq_none_bool (fin_bl I q (by simp))
    | int j => obtain ⟨t', rfl⟩ := ry; exact PySem.EqNone.eq_none_int (fin_bl I q (by simp))
    | str j => obtain ⟨t', rfl⟩ := ry; exact PySem.EqNone.eq_none_str (fin_bl I q (by simp))
    | _ => exact absurd (show false = true from hs) Bool.false_ne_true
  | bl i =>
    cases rx
    cases y with
    | non => cases ry; exact PySem.EqNone.eq_bool_none (fin_bl I q (by simp))
    | bl j => cases ry; exact eq_bool (fin_bl I q dec_bl)
    | str j => obtain ⟨t', rfl⟩ := ry; exact PySem.EqMixed.eq_bool_str (fin_bl I q (by simp))
    | _ => exact absurd (show false = true from hs) Bool.false_ne_true
  | int i =>
    obtain ⟨t, rfl⟩ := rx
    cases y with
    | non => cases ry; exact PySem.EqNone.eq_int_none (fin_bl I q (by simp))
    | int j => obtain ⟨t', rfl⟩ := ry; exact eq_int (fin_bl I q dec_int)
    | str j => obtain ⟨t', rfl⟩ := ry; exact PySem.EqMixed.eq_int_str (fin_bl I q (by simp))
    | _ => exact absurd (show false = true from hs) Bool.false_ne_true
  | str i =>
    obtain ⟨t, rfl⟩ := rx
    cases y with
    | non => cases ry; exact PySem.EqNone.eq_str_none (fin_bl I q (by simp))
    | bl j => cases ry; exact PySem.EqMixed.eq_str_bool (fin_bl I q (by simp))
    | int j => obtain ⟨t', rfl⟩ := ry; exact PySem.EqMixed.eq_str_int (fin_bl I q (by simp))
    | str j => obtain ⟨t', rfl⟩ := ry; exact eq_str (fin_bl I q dec_str)
    | _ => exact absurd (show false = true from hs) Bool.false_ne_true
  | byt i =>
    obtain ⟨t, rfl⟩ := rx
    cases y with
    | byt j => obtain ⟨t', rfl⟩ := ry; exact PySem.W.eq_bytes (fin_bl I q dec_byt)
    | _ => exact absurd (show false = true from hs) Bool.false_ne_true
  | _ => cases y <;> exact absurd (show false = true from hs) Bool.false_ne_true
theorem op_ne : OpR X (compareOp .NotEq) rNe := by
  intro pins s σ H x y v u Q I rx ry h
  obtain ⟨hs, q⟩ := h
  cases x with
  | non =>
    cases rx
    cases y with
    | non => cases ry; exact PySem.EqNone.ne_none_none (fin_bl I q (by simp))
    | bl j => cases ry; exact PySem.EqNone.ne_none_bool (fin_bl I q (by simp))
    | int j => obtain ⟨t', rfl⟩ := ry; exact PySem.EqNone.ne_none_int (fin_bl I q (by simp))
    | str j => obtain ⟨t', rfl⟩ := ry; exact PySem.EqNone.ne_none_str (fin_bl I q (by simp))
    | _ => exact absurd (show false = true from hs) Bool.false_ne_true
  | bl i =>
    cases rx
    cases y with
    | non => cases ry; exact PySem.EqNone.ne_bool_none (fin_bl I q (by simp))
    | bl j => cases ry; exact ne_bool (fin_bl I q (congrArg not dec_bl))
    | str j => obtain ⟨t', rfl⟩ := ry; exact PySem.EqMixed.ne_bool_str (fin_bl I q (by simp))
    | _ => exact absurd (show false = true from hs) Bool.false_ne_true
  | int i =>
    obtain ⟨t, rfl⟩ := rx
    cases y with
    | non => cases ry; exact PySem.EqNone.ne_int_none (fin_bl I q (by simp))
    | int j => obtain ⟨t', rfl⟩ := ry; exact ne_int (fin_bl I q (congrArg not dec_int))
    | str j => obtain ⟨t', rfl⟩ := ry; exact PySem.EqMixed.ne_int_str (fin_bl I q (by simp))
    | _ => exact absurd (show false = true from hs) Bool.false_ne_true
  | str i =>
    obtain ⟨t, rfl⟩ := rx
    cases y with
    | non => cases ry; exact PySem.EqNone.ne_str_none (fin_bl I q (by simp))
    | bl j => cases ry; exact PySem.EqMixed.ne_str_bool (fin_bl I q (by simp))
    | int j => obtain ⟨t', rfl⟩ := ry; exact PySem.EqMixed.ne_str_int (fin_bl I q (by simp))
    | str j => obtain ⟨t', rfl⟩ := ry; exact ne_str (fin_bl I q (congrArg not dec_str))
    | _ => exact absurd (show false = true from hs) Bool.false_ne_true
  | byt i =>
    obtain ⟨t, rfl⟩ := rx
    cases y with
    | byt j => obtain ⟨t', rfl⟩ := ry; exact PySem.W.ne_bytes (fin_bl I q (congrArg not dec_byt))
    | _ => exact absurd (show false = true from hs) Bool.false_ne_true
  | _ => cases y <;> exact absurd (show false = true from hs) Bool.false_ne_true

theorem op_le : OpR X (compareOp .LtE) (rI0 fun i j => .bl (decide (i ≤ j))) := opB0 fun _ _ _ _ _ _ _ q => le_int q
theorem op_gt : OpR X (compareOp .Gt) (rI0 fun i j => .bl (decide (j < i))) := opB0 fun _ _ _ _ _ _ _ q => gt_int q
/-- is None, is not None: the right side a value none -/
theorem op_isN : OpR X (compareOp .Is) (fun x y H Q => y = .non ∧ Q (.bl (decide (x = .non))) H) := by
  intro pins s σ H x y v u Q I rx ry h
  obtain ⟨rfl, q⟩ := h
  cases ry
  refine is_none_gen (fin_bl I q ?_)
  cases x <;> first
    | (cases rx; rfl)
    | (obtain ⟨t, rfl⟩ := rx; rfl)
/-- two rules for one operation: by cases -/
theorem OpR.or {f : Value → Value → Sem Value} {r r' : R2} (h : OpR X f r) (h' : OpR X f r') : OpR X f (fun x y H Q => r x y H Q ∨ r' x y H Q) := by
  intro pins s σ H x y v u Q I rx ry q
  rcases q with q | q
  · exact h pins s σ H x y v u Q I rx ry q
  · exact h' pins s σ H x y v u Q I rx ry q

theorem nomark (b : Expr) {op : CmpOp} (h : op ≠ .In := by decide) (h2 : op ≠ .NotIn := by decide) : behindInMarks op b = false := by
  have e1 : (op == CmpOp.In) = false := by cases op <;> first | rfl | exact absurd rfl h
  have e2 : (op == CmpOp.NotIn) = false := by cases op <;> first | rfl | exact absurd rfl h2
  cases b <;> simp [behindInMarks, e1, e2]
/-- a comparison as a value; hm: nomark b, or (for in, not in) by with_unfolding_all rfl -/
theorem pe_cmpR {op : CmpOp} {r : R2} (ho : OpR X (compareOp op) r) (ha : PE X a ta) (hb : PE X b tb) (hm : behindInMarks op b = false) : PE X (.Compare a [op] [b] pos) (tOp r ta tb) := by
  intro pins s σ H Q I h
  exact wpAny_Compare1 (binT ha hb I h fun v u s2 x y H2 I2 rx ry q => ho pins s2 σ H2 x y v u Q I2 rx ry q) hm
/-- a reading of a value as a test -/
def tTest (t : TE) : TT := fun σ H Q => t σ H fun x H' => ∃ k, x = .bl k ∧ Q k H'
theorem pt_cmpR {op : CmpOp} {r : R2} (ho : OpR X (compareOp op) r) (ha : PE X a ta) (hb : PE X b tb) (hm : behindInMarks op b = false) : PT X (.Compare a [op] [b] pos) (tTest (tOp r ta tb)) := by
  intro pins s σ H Q I h
  refine wpAny_isTrue_Compare1 (thn (ha pins s σ H _ I h) fun v s1 ⟨x, H1, I1, r1, q1⟩ => thn (hb pins s1 σ H1 _ I1 q1) fun u s2 ⟨y, H2, I2, r2, q2⟩ =>
    thn (ho pins s2 σ H2 x y v u _ I2 r1 r2 q2) fun c s3 ⟨z, H3, I3, r3, k, e, q3⟩ => ?_) hm
  subst e
  cases r3
  exact wpAny_truthy_bool ⟨H3, I3, q3⟩
/-! ### truth -/
theorem line63 : (sizeLine : Nat) < 2 ^ 63 := by rw [sizeLine_eq]; decide
/-! ### strs and bytes -/
/-! ### scalar builtins, by CallR -/
theorem vals1 {x : V} {us : List Value} (r : Vals [x] us) : ∃ u, us = [u] ∧ RelV x u := by
  cases r with
  | cons r1 r2 => cases r2; exact ⟨_, rfl, r1⟩
theorem vals2 {x y : V} {us : List Value} (r : Vals [x, y] us) : ∃ u w', us = [u, w'] ∧ RelV x u ∧ RelV y w' := by
  cases r with
  | cons r1 r2 =>
    cases r2 with
    | cons r3 r4 => cases r4; exact ⟨_, _, rfl, r1, r3⟩
theorem call_max2 (hc : X.calm = true) : CallR X (.builtin "max") (fun xs H Q => ∃ i j, xs = [.int i, .int j] ∧ Q (.int (if j > i then j else i)) H) := by
  intro pins s σ H xs us Q I r h
  obtain ⟨i, j, rfl, q⟩ := h
  obtain ⟨u, w', rfl, ⟨t, rfl⟩, ⟨t', rfl⟩⟩ := vals2 r
  refine max_two_ints (I.ok.hd hc) fun h' tk k => ⟨_, H, I.kept k, ?_, q⟩
  by_cases hj : j > i
  · rw [if_pos hj, if_pos hj]; exact ⟨_, rfl⟩
  · rw [if_neg hj, if_neg hj]; exact ⟨_, rfl⟩
end
end L2

namespace L2
open PySem PySem.Spec PyProof.Rows

/-! ### an instance, its attributes a map -/
structure ObjM (h : Heap) (x dx C : Addr) (mA : Str → Option Value) : Prop where
  obj : h.get? x = some (PySem.W.instObj C dx)
  ns : h.Ns1 dx mA
  ne : dx ≠ x

section
variable {prog : Program} {w : World} {A : Around} {E : Value → Shared → Prop} {s : Shared} {K : PySem.W.Frag} {x dx C f : Addr} {mA : Str → Option Value} {name : Str} {v : Value}

end

/-! ### the attributes as a list of pairs -/
section
variable {P : Program} {w : World} {H H' : Hp} {h h' : Heap} {a C dx : Addr} {fs fs' : List (Str × V)}
end

/-! ### what of the text a class must have -/
structure Cls (K : PySem.W.Frag) (C : Addr) : Prop where
  pg : PySem.W.plainGet K C Str.empty = true
  hd : PySem.W.hasDictIn K C = true
  po : PySem.W.plainOver K C = true
  sa : PySem.W.findIn K (.ref C) "__setattr__" = some (some (.builtin "object.__setattr__"))
theorem Cls.get {K : PySem.W.Frag} {C : Addr} (c : Cls K C) (f : Str) : PySem.W.plainGet K C f = true := c.pg
/-- a constant of the class -/
structure Con (K : PySem.W.Frag) (C : Addr) (f : Str) (v : V) (u : Value) : Prop where
  at_ : PySem.W.findIn K (.ref C) f = some (some u)
  rel : RelV v u
  get : PySem.W.specialIn K u "__get__" = some none
  cp : PySem.W.copiedNames.contains f = false
/-- a method: a plain def of the class or of one above it -/
structure Meth (K : PySem.W.Frag) (C : Addr) (m : Str) (f : Addr) : Prop where
  at_ : PySem.W.findIn K (.ref C) m = some (some (.ref f))
  fn : PySem.W.isFn K (.ref f) = true
  kp : PySem.W.keepIn K (.ref f) = true

section
variable {X : Cx} {pins : List (Addr × Obj)} {σ : St} {H : Hp} {s : Shared} {a C dx : Addr} {fs : List (Str × V)} {f : Str} {v : V} {A : Around} {E : Value → Shared → Prop}

/-- a new instance, tracked, without attributes -/
theorem Inv.made (I : Inv X pins σ H s) : Inv X pins σ (upd (upd H s.heap.objs.size (.own (s.heap.objs.size + 1))) (s.heap.objs.size + 1) (.ins C s.heap.objs.size []))
    { s with heap := (s.heap.push PySem.W.emptyDict).push (PySem.W.instObj C s.heap.objs.size) } := by
  have e1 : (s.heap.push PySem.W.emptyDict).get? s.heap.objs.size = some PySem.W.emptyDict := Heap.get?_push_size s.heap rfl
  have e2 : ((s.heap.push PySem.W.emptyDict).push (PySem.W.instObj C s.heap.objs.size)).get? (s.heap.objs.size + 1) = some (PySem.W.instObj C s.heap.objs.size) := by
    have := Heap.get?_push_size (s.heap.push PySem.W.emptyDict) (o := PySem.W.instObj C s.heap.objs.size) rfl
    rwa [Heap.size_push] at this
  have e3 : (s.heap.push PySem.W.emptyDict).Ns s.heap.objs.size (fun _ => none) := ⟨PySem.W.emptyDict, #[], _, e1, rfl, (fun e he => absurd he (by simp)), fun _ => rfl⟩
  have I1 := I.laid (a := s.heap.objs.size) (o := .own (s.heap.objs.size + 1)) (h' := s.heap.push PySem.W.emptyDict) (t' := s.toks) (fun b u q => Heap.get?_push_of_some _ q) (Nat.le_refl _) ⟨_, e1⟩
  refine I1.laid (a := s.heap.objs.size + 1) (o := .ins C s.heap.objs.size []) (t' := s.toks) (fun b u q => Heap.get?_push_of_some _ q) (Nat.le_of_eq (Heap.size_push _ _)) ?_
  have ne : s.heap.objs.size ≠ s.heap.objs.size + 1 := Nat.ne_of_lt (Nat.lt_succ_self _)
  refine ⟨by rw [upd_ne ne, upd_same], Nat.zero_le _, ne, e2, fun _ => none, (Heap.Ns1.of_empty e3).at fun o q => Heap.get?_push_of_some _ q, fun _ => True.intro, fun y hy => absurd rfl hy⟩

end

/-! ### readings and rules -/
section
variable {X : Cx} {o e value : Expr} {f : Str} {pos pos' tpos : Pos} {ta tv : TE}
end

/-! ### isinstance -/
section
variable {X : Cx} {pins : List (Addr × Obj)} {σ : St} {H : Hp} {s : Shared} {A : Around} {E : Value → Shared → Prop} {Q : Value → Shared → Prop} {c : Value} {b : Bool}
/-- the type of a value, as the fragment's deciders take it; for an instance its class -/
inductive TyOf (K : PySem.W.Frag) (H : Hp) : V → Value → Prop where
  | non : TyOf K H .non (.type "NoneType")
  | bl (x : Bool) : TyOf K H (.bl x) (.type "bool")
  | int (i : Int) : TyOf K H (.int i) (.type "int")
  | str (x : Str) : TyOf K H (.str x) (.type "str")
  | flt (x : UInt64) : TyOf K H (.flt x) (.type "float")
  | lst {a : Addr} {xs : List V} (e : H a = some (.lst xs)) : TyOf K H (.ref a) (.type "list")
  | frz {a : Addr} {o : Obj} {xs : List V} (e : H a = some (.frz o (.lst xs))) : TyOf K H (.ref a) (.type "list")
  | tup {a : Addr} {xs : List V} (e : H a = some (.tup xs)) : TyOf K H (.ref a) (.type "tuple")
  | dK {a : Addr} {kvs : List (Key × V)} (e : H a = some (.dK kvs)) : TyOf K H (.ref a) (.type "dict")
  | dT {a : Addr} {kvs : List (List Key × V)} (e : H a = some (.dT kvs)) : TyOf K H (.ref a) (.type "dict")
  | ins {a C dx : Addr} {fs : List (Str × V)} (e : H a = some (.ins C dx fs)) (cl : Cls K C) (ha : PySem.W.findIn K (.ref C) "__class__" = some (some (.builtin "object.__class__")))
      (hn : PySem.W.specialIn K (.builtin "object.__class__") "__get__" = some (some (.builtin "getset_descriptor.__get__"))) (htk : PySem.W.takesIn K (.builtin "object.__class__") = some true)
      (hm : PySem.W.mroIn K C (.type "object") = some true) : TyOf K H (.ref a) (.ref C)
end
end L2

namespace L2
open PySem PySem.Spec PyProof.Rows

/-! ### room -/
structure Room (k : Nat) (A : Around) : Prop where
  hd : A.handled = none
  dp : A.depth + 3 * k + 5 < recursionLimit
  un : A.units + 16 * k + 200 < cLine
theorem Room.mono {j k : Nat} {A : Around} (r : Room k A) (h : j ≤ k) : Room j A := ⟨r.hd, by have := r.dp; omega, by have := r.un; omega⟩
theorem Room.deeper {k : Nat} {A : Around} (r : Room (k + 1) A) (env : Env) : Room k (A.deeper env) :=
  ⟨r.hd, by have := r.dp; show A.depth + 1 + 3 * k + 5 < _; omega, by have := r.un; show A.units + 3 + 16 * k + 200 < _; omega⟩
theorem Room.in1 {k : Nat} {A : Around} (r : Room (k + 1) A) : Room k A.in1 :=
  ⟨r.hd, by have := r.dp; show A.depth + 3 * k + 5 < _; omega, by have := r.un; show A.units + 1 + 16 * k + 200 < _; omega⟩
theorem Room.depth {k : Nat} {A : Around} (r : Room k A) : A.depth < recursionLimit := by have := r.dp; omega
theorem Room.units {k : Nat} {A : Around} (r : Room k A) : A.units + 64 < cLine := by have := r.un; omega
theorem Room.units0 {k : Nat} {A : Around} (r : Room k A) : A.units < cLine := by have := r.un; omega

/-! ### argument lists and displays -/
def tNil : TA := fun _ H Q => Q [] H
def tCons (ta : TE) (tr : TA) : TA := fun σ H Q => ta σ H fun x H1 => tr σ H1 fun xs H2 => Q (x :: xs) H2
section
variable {X : Cx} {e : Expr} {es : List Expr} {te : TE} {t : TA} {pos : Pos}
theorem pa_nil : PA X [] tNil := fun _ _ _ _ H Q I h => Calls.spliced_nil ⟨[], H, I, .nil, h⟩
theorem pa_cons (ha : PE X e te) (hr : PA X es t) (hs : starEach (e :: es) X.env = (false, eval e X.env) :: starEach es X.env := by rfl) : PA X (e :: es) (tCons te t) := by
  intro pos pins s σ H Q I h
  rw [hs]
  show wpAny _ _ (spliced ((false, eval e X.env) :: backTo pos (starEach es X.env))) _ _ s
  refine Calls.spliced_cons (thn (ha pins s σ H _ I h) fun u s1 ⟨x, H1, I1, r1, q1⟩ => ?_)
  exact thn (hr pos pins s1 σ H1 _ I1 q1) fun us s2 ⟨xs, H2, I2, r2, q2⟩ => ⟨x :: xs, H2, I2, .cons r1 r2, q2⟩

/-- a tuple, a list of written items -/
def tTup (t : TA) : TE := fun σ H Q => t σ H fun xs H1 => xs.length ≤ sizeLine ∧ ∀ p, H1 p = none → Q (.ref p) (upd H1 p (.tup xs))
def tLst (t : TA) : TE := fun σ H Q => t σ H fun xs H1 => xs.length ≤ sizeLine ∧ ∀ p, H1 p = none → Q (.ref p) (upd H1 p (.lst xs))
theorem pe_tup {x1} (h : PA X es t) : PE X (.Tuple es x1 pos) (tTup t) := by
  intro pins s σ H Q I hq
  refine wpAny_Tuple_spliced (thn (h pos pins s σ H _ I hq) fun us s1 ⟨xs, H1, I1, r, z, q⟩ => ⟨by rw [← r.length]; exact z, ?_⟩)
  have hf : H1 s1.heap.objs.size = none := I1.hok.fresh (Nat.le_refl _)
  refine ⟨.ref s1.heap.objs.size, upd H1 s1.heap.objs.size (.tup xs), I1.laid (t' := s1.toks) (fun b u e => Heap.get?_push_of_some _ e) (Nat.le_refl _) ?_, rfl, q _ hf⟩
  exact ⟨z, us, r, ⟨_, Heap.get?_push_size _ rfl, rfl, _, rfl⟩⟩
theorem pe_lst (h : PA X es t) : PE X (.List es pos) (tLst t) := by
  intro pins s σ H Q I hq
  refine wpAny_List_spliced (thn (h pos pins s σ H _ I hq) fun us s1 ⟨xs, H1, I1, r, z, q⟩ => ⟨by rw [← r.length]; exact z, ?_⟩)
  have hf : H1 s1.heap.objs.size = none := I1.hok.fresh (Nat.le_refl _)
  refine ⟨.ref s1.heap.objs.size, upd H1 s1.heap.objs.size (.lst xs), I1.laid (t' := s1.toks) (fun b u e => Heap.get?_push_of_some _ e) (Nat.le_refl _) ?_, rfl, q _ hf⟩
  exact ⟨z, us, 0, r, Heap.get?_push_size _ rfl⟩
end

/-! ### what a def promises -/
/-- a def's promise: the bound arguments in the parameters' order, the heap, the wanted end, the wanted exception -/
abbrev Sp := List V → Hp → VK → XK → Prop
/-- how an exception lies behind a call (file 08 gives it): the callers' frames, abstract heap and state ahead of the call, the wish, the exception, the state -/
abbrev CXT := List Env → Hp → Shared → XK → Value → Shared → Prop

/-- the state at a call -/
structure Env0 (P : Program) (w : World) (K : PySem.W.Frag) (mg : Str → Option Value) (base : Heap) (A : Around) (outer : List Env) (s : Shared) (H : Hp) : Prop where
  frames : A.frames = some outer
  mod : Mod K mg base
  bs : ∀ b o, base.get? b = some o → s.heap.get? b = some o ∧ H b = none
  bsz : base.objs.size ≤ s.heap.objs.size
  funs : s.heap.FunFrames base outer
  frf : ∀ b ∈ frs outer, H b = none
  hok : HOk P w H s.heap
  bare : AllBare s.gens
/-- a call's end -/
def CE (outer : List Env) (P : Program) (w : World) (H : Hp) (s : Shared) (Q : VK) (u : Value) (s' : Shared) : Prop :=
  ∃ v H', s'.os = s.os ∧ AllBare s'.gens ∧ Un (frs outer) [] H H' s.heap s'.heap ∧ HOk P w H' s'.heap ∧ RelV v u ∧ Q v H'
def CR (CX : CXT) (outer : List Env) (P : Program) (w : World) (H : Hp) (s : Shared) (Q : VK) (E : XK) (r : Result) (s' : Shared) : Prop :=
  match r with
  | .ok (.ret u) => CE outer P w H s Q u s'
  | .ok _ => False
  | .error e => CX outer H s E e s'
structure FnOk (P : Program) (w : World) (K : PySem.W.Frag) (mg : Str → Option Value) (base : Heap) (CX : CXT) (k : Nat) (f : Addr) (fd : FuncData) (ps : List Str) (sp : Sp) : Prop where
  len : ∀ vs H Q E, sp vs H Q E → vs.length = ps.length
  run : ∀ (A : Around) (outer : List Env) (s : Shared) (H : Hp) (args : Args) (us : List Value) (vs : List V) (Q : VK) (E : XK), Room k A → Env0 P w K mg base A outer s H → BindsTo s fd args (ps.zip us) → Vals vs us → sp vs H Q E →
    codeAny (model P w) A (.call (.ref f) args) (CR CX outer P w H s Q E) s
theorem FnOk.mono {P : Program} {w : World} {K : PySem.W.Frag} {mg : Str → Option Value} {base : Heap} {CX : CXT} {j k : Nat} {f : Addr} {fd : FuncData} {ps : List Str} {sp : Sp} (F : FnOk P w K mg base CX j f fd ps sp) (h : j ≤ k) :
    FnOk P w K mg base CX k f fd ps sp := ⟨F.len, fun A outer s H args us vs Q E hr => F.run A outer s H args us vs Q E (hr.mono h)⟩
/-- a weaker promise -/
theorem FnOk.imp {P : Program} {w : World} {K : PySem.W.Frag} {mg : Str → Option Value} {base : Heap} {CX : CXT} {k : Nat} {f : Addr} {fd : FuncData} {ps : List Str} {sp sp' : Sp} (F : FnOk P w K mg base CX k f fd ps sp)
    (h : ∀ vs H Q E, sp' vs H Q E → sp vs H Q E) : FnOk P w K mg base CX k f fd ps sp' :=
  ⟨fun vs H Q E q => F.len vs H Q E (h _ _ _ _ q), fun A outer s H args us vs Q E hr he hb hv hs => F.run A outer s H args us vs Q E hr he hb hv (h _ _ _ _ hs)⟩

theorem Env0.in1 {P : Program} {w : World} {K : PySem.W.Frag} {mg : Str → Option Value} {base : Heap} {A : Around} {outer : List Env} {s : Shared} {H : Hp} (e : Env0 P w K mg base A outer s H) :
    Env0 P w K mg base A.in1 outer s H := ⟨e.frames, e.mod, e.bs, e.bsz, e.funs, e.frf, e.hok, e.bare⟩

section
variable {X : Cx} {pins : List (Addr × Obj)} {σ : St} {H : Hp} {s s' : Shared}
/-- from a body: what a callee wants -/
theorem Inv.env0 (I : Inv X pins σ H s) : Env0 X.prog X.w X.K X.mg X.base X.A X.stack s H :=
  ⟨I.ok.frames, I.ok.mod, I.bs, Nat.le_trans I.ok.bsz I.sz, I.stack, I.stkFree, I.hok, I.bare⟩
/-- behind a call -/
theorem Inv.after {Q : VK} {u : Value} (I : Inv X pins σ H s) (h : CE X.stack X.prog X.w H s Q u s') : EP X pins σ Q u s' := by
  obtain ⟨v, H', os, bare, un, hok, r, q⟩ := h
  obtain ⟨hh, g, d, t, os'⟩ := s'
  obtain rfl : os' = s.os := os
  exact ⟨v, H', I.call (h' := hh) (g' := g) (d' := d) (t' := t) (ch := []) un hok bare (fun b z => absurd z (by simp)), r, q⟩
end

/-! ### calls -/
/-- f(..): the written arguments, then the defaults dvs; E: what is wanted of an exception -/
def tCall (sp : Sp) (dvs : List V) (E : XK) (t : TA) : TE := fun σ H Q => t σ H fun vs H1 => sp (vs ++ dvs) H1 Q E
/-- how the parameters are bound: us the positional arguments, kw the keywords' values by name, ds the defaults that fill up -/
def Binds (K : PySem.W.Frag) (fd : FuncData) (ps : List Str) (ds : List Value) : Prop :=
  ∀ (s : Shared) (us : List Value), K.In s.heap → (us ++ ds).length = ps.length → BindsTo s fd ⟨us, []⟩ (ps.zip (us ++ ds))
/-- every parameter is given -/
theorem Binds.all {K : PySem.W.Frag} {fd : FuncData} {ps : List Str} (h : ∀ us : List Value, us.length = ps.length → bindArgs fd ⟨us, []⟩ = pure (ps.zip us)) : Binds K fd ps [] := fun s us _ hl => by
  rw [List.append_nil] at hl ⊢
  exact .of_eq (h us hl)

/-- an exception of a callee reaches what this body wants of exceptions -/
def Passes (CX : CXT) (X : Cx) (E : XK) : Prop := ∀ (pins : List (Addr × Obj)) (σ : St) (H : Hp) (s : Shared) (e : Value) (s' : Shared), Inv X pins σ H s → CX X.stack H s E e s' → X.xe e s'

section
variable {X : Cx} {CX : CXT} {k : Nat} {f C : Addr} {fd : FuncData} {ps : List Str} {sp : Sp} {dvs : List V} {ds : List Value} {E : XK} {x m : Str} {p pos apos : Pos} {e o : Expr} {es : List Expr} {ta : TE} {t : TA}

/-- the callee runs -/
theorem run_fn {pins : List (Addr × Obj)} {σ : St} {H : Hp} {s : Shared} {Q : VK} {us : List Value} {vs : List V} (F : FnOk X.prog X.w X.K X.mg X.base CX k f fd ps sp) (hr : Room k X.A) (hb : Binds X.K fd ps ds) (hd : Vals dvs ds) (hx : Passes CX X E)
    (I : Inv X pins σ H s) (r : Vals vs us) (h : sp (vs ++ dvs) H Q E) : wpAny (model X.prog X.w) X.A (call (.ref f) us) (EP X pins σ Q) X.xe s := by
  have r2 : Vals (vs ++ dvs) (us ++ ds) := r.append hd
  have hl : (us ++ ds).length = ps.length := by rw [← r2.length]; exact F.len _ _ _ _ h
  refine wpAny_call (codeAny_mono (F.run X.A X.stack s H ⟨us, []⟩ (us ++ ds) (vs ++ dvs) Q E hr I.env0 (hb s us I.kIn hl) r2 h) fun r s' hq => ?_)
  cases r with
  | error e => exact hx pins σ H s e s' I hq
  | ok fl =>
    cases fl with
    | ret u => exact I.after hq
    | next => exact False.elim hq
    | brk => exact False.elim hq
    | cont => exact False.elim hq

theorem pe_call (F : FnOk X.prog X.w X.K X.mg X.base CX k f fd ps sp) (hr : Room k X.A) (hg : Gl X x) (hm : X.mg x = some (.ref f)) (hk : PySem.W.keepIn X.K (.ref f) = true) (hb : Binds X.K fd ps ds) (hd : Vals dvs ds) (hx : Passes CX X E)
    (ha : PA X (e :: es) t) (hdb : (x == ("__debug__" : Str)) = false := by decide) (he : starEach (e :: es) X.env = (false, eval e X.env) :: starEach es X.env := by rfl) (hpl : (backTo pos (starEach es X.env)).any (·.1) = false := by rfl) :
    PE X (.Call (.Name x p) (e :: es) [] pos) (tCall sp dvs E t) := by
  intro pins s σ H Q I h
  refine wpAny_Call_Name_kw (ld_glob I hg hm ?_ hdb)
  refine PySem.W.callWith_K (h₀ := X.base) I.ok.mod.kin hk (thn (ha pos pins s σ H _ I h) fun us s1 ⟨vs, H1, I1, r, q⟩ => ⟨I1.kIn, ?_⟩) he hpl
  exact run_fn F hr hb hd hx I1 r q
/-- what a class must have to be made -/
structure Mk (K : PySem.W.Frag) (C f : Addr) : Prop where
  makes : PySem.W.makesIn K C = true
  init : PySem.W.findIn K (.ref C) "__init__" = some (some (.ref f))
  fn : PySem.W.isFn K (.ref f) = true
  kp : PySem.W.keepIn K (.ref C) = true

end

/-! ### keywords -/
section
variable {X : Cx} {CX : CXT} {k : Nat} {f C : Addr} {fd : FuncData} {ps ks : List Str} {sp : Sp} {E : XK} {x m : Str} {p pos apos kpos : Pos} {e o : Expr} {es : List Expr} {kws : List Keyword} {te ta : TE} {t tk : TA} {nm : Option Str}
/-- how a call with keywords binds: g puts the positional values us and the keywords' values ws (names ks) in the parameters' order, defaults among them -/
structure KBinds (K : PySem.W.Frag) (fd : FuncData) (ps ks : List Str) (g : List Value → List Value → List Value) (gV : List V → List V → List V) : Prop where
  to : ∀ (s : Shared) (us ws : List Value), K.In s.heap → (g us ws).length = ps.length → BindsTo s fd ⟨us, ks.zip ws⟩ (ps.zip (g us ws))
  rel : ∀ {vs : List V} {us : List Value} {zs : List V} {ws : List Value}, Vals vs us → Vals zs ws → Vals (gV vs zs) (g us ws)
variable {g : List Value → List Value → List Value} {gV : List V → List V → List V}
end

/-! ### a def's body keeps its promise -/
/-- names: the parameters first -/
structure FnScope (N P : List Str) (sc : Scope) : Prop where
  kind : sc.kind = .function
  co : sc.isCoroutine = false
  gen : sc.isGenerator = false
  nd : N.Nodup
  pre : N.take P.length = P
  par : ∀ x ∈ P, sc.names.lookup x = some .local ∨ sc.names.lookup x = some .cell
  nofree : ∀ y ∈ sc.names, y.2 ≠ .free

theorem bindL_out {kindOf : Str → Option NameKind} {x : Str} : ∀ {binds : List (Str × Value)} {m : Str → Option Value}, (∀ v, (x, v) ∉ binds) → bindL kindOf binds m x = m x
  | [], _, _ => rfl
  | (n, v) :: r, m, h => by
    unfold bindL
    rw [bindL_out fun w hw => h w (List.mem_cons_of_mem _ hw)]
    split
    · have : x ≠ n := by rintro rfl; exact h v List.mem_cons_self
      simp [this]
    · rfl
theorem bindC_out {kindOf : Str → Option NameKind} {x : Str} : ∀ {binds : List (Str × Value)} {m : Str → Option Value}, (∀ v, (x, v) ∉ binds) → bindC kindOf binds m x = m x
  | [], _, _ => rfl
  | (n, v) :: r, m, h => by
    unfold bindC
    rw [bindC_out fun w hw => h w (List.mem_cons_of_mem _ hw)]
    split
    · rfl
    · have : x ≠ n := by rintro rfl; exact h v List.mem_cons_self
      simp [this]
theorem bindL_get {kindOf : Str → Option NameKind} {x : Str} {v : Value} : ∀ {P : List Str} {vs : List Value} {i : Nat} {m : Str → Option Value}, P.Nodup → P[i]? = some x → vs[i]? = some v → kindOf x = some .local →
    bindL kindOf (P.zip vs) m x = some v
  | [], _, _, _, _, h, _, _ => by simp at h
  | _ :: _, [], _, _, _, _, h, _ => by simp at h
  | p :: P, w :: vs, 0, m, nd, h1, h2, hk => by
    simp at h1 h2; subst h1; subst h2
    show bindL kindOf ((p, w) :: P.zip vs) m p = _
    unfold bindL
    rw [bindL_out fun v hv => (List.nodup_cons.mp nd).1 (List.of_mem_zip hv).1, if_pos hk]
    simp
  | p :: P, w :: vs, i + 1, m, nd, h1, h2, hk => by
    show bindL kindOf ((p, w) :: P.zip vs) m x = _
    unfold bindL
    exact bindL_get (i := i) (List.nodup_cons.mp nd).2 (by simpa using h1) (by simpa using h2) hk
theorem bindC_get {kindOf : Str → Option NameKind} {x : Str} {v : Value} : ∀ {P : List Str} {vs : List Value} {i : Nat} {m : Str → Option Value}, P.Nodup → P[i]? = some x → vs[i]? = some v → kindOf x ≠ some .local →
    bindC kindOf (P.zip vs) m x = some v
  | [], _, _, _, _, h, _, _ => by simp at h
  | _ :: _, [], _, _, _, _, h, _ => by simp at h
  | p :: P, w :: vs, 0, m, nd, h1, h2, hk => by
    simp at h1 h2; subst h1; subst h2
    show bindC kindOf ((p, w) :: P.zip vs) m p = _
    unfold bindC
    rw [bindC_out fun v hv => (List.nodup_cons.mp nd).1 (List.of_mem_zip hv).1, if_neg hk]
    simp
  | p :: P, w :: vs, i + 1, m, nd, h1, h2, hk => by
    show bindC kindOf ((p, w) :: P.zip vs) m x = _
    unfold bindC
    exact bindC_get (i := i) (List.nodup_cons.mp nd).2 (by simpa using h1) (by simpa using h2) hk

/-- the names' values at the entry -/
def start (N : List Str) (vs : List V) : St := vs.map some ++ List.replicate (N.length - vs.length) none

/-- the context of a def's body, at its entry; an exception leaves the frame, then lies as CX says -/
def cxOf (CX : CXT) (P : Program) (w : World) (K : PySem.W.Frag) (mg : Str → Option Value) (base : Heap) (N : List Str) (qual : Str) (scope : Scope) (f : Addr) (cd : Value) (A : Around) (outer : List Env) (s : Shared) (H : Hp) (E : XK) : Cx where
  prog := P
  w := w
  K := K
  mg := mg
  base := base
  A := A.deeper (envOfC qual scope s.heap.objs.size f cd)
  N := N
  s₀ := s
  H₀ := H
  env := envOfC qual scope s.heap.objs.size f cd
  outer := outer
  stack := envOfC qual scope s.heap.objs.size f cd :: outer
  ex := []
  calm := true
  fn := fun _ => true
  pn := []
  xe := fun e s' => wpAny (model P w) (A.deeper (envOfC qual scope s.heap.objs.size f cd)) (leaving (envOfC qual scope s.heap.objs.size f cd) e) (fun _ s'' => CX outer H s E e s'') (fun e' s'' => CX outer H s E e' s'') s'

theorem cell_has {sc : Scope} {n : Nat} {x : Str} (h : sc.names.lookup x = some .cell) : ∃ c, (cellsFrom n sc.names []).lookup x = some c := by
  have q := PySem.W.cellsFrom_some sc.names n [] (.inl h)
  exact Option.isSome_iff_exists.mp q

theorem inv_start {CX : CXT} {P : Program} {w : World} {K : PySem.W.Frag} {mg : Str → Option Value} {base : Heap} {N ps : List Str} {qual : Str} {scope : Scope} {f : Addr} {cd : Value} {A : Around} {outer : List Env} {s s1 : Shared} {H : Hp} {E : XK} {us : List Value} {vs : List V}
    (S : FnScope N ps scope) (hd : A.handled = none) (e0 : Env0 P w K mg base A outer s H) (hl : vs.length = ps.length) (r : Vals vs us)
    (x : InCallC s s.heap.objs.size (bindL (envOfC qual scope s.heap.objs.size f cd).kindOf (ps.zip us) fun _ => none) (cellsFrom (s.heap.objs.size + 1) scope.names []) (bindC (envOfC qual scope s.heap.objs.size f cd).kindOf (ps.zip us) fun _ => none) s1) :
    Inv (cxOf CX P w K mg base N qual scope f cd A outer s H E) [] (start N vs) H s1 := by
  have hpl : ps.length ≤ N.length := by have := congrArg List.length S.pre; rw [List.length_take] at this; omega
  obtain ⟨h1, tk, rfl, hk⟩ := x.done
  have noA : ∀ b : Addr, b ∉ (cxOf CX P w K mg base N qual scope f cd A outer s H E).ex := fun b z => absurd (show b ∈ ([] : List Addr) from z) (by simp)
  refine ⟨⟨e0.mod, S.kind, rfl, rfl, Nat.le_refl _, fun y z c h1 h2 => ?_, fun y hy => ?_, fun y c _ h => ?_, fun _ => hd, Around.frames_deeper e0.frames, .inr ⟨rfl, rfl⟩, fun b z => absurd z (noA b), e0.bs, e0.bsz, fun b _ _ => noA b, fun b z => absurd z (noA b), e0.funs, e0.frf⟩,
    rfl, e0.bare, Un.kept hk, ⟨_, x.toInCall.ns, fun i y v h1 h2 h3 => ?_⟩, fun y c h => ⟨_, x.cell y c h⟩, e0.hok.fresh (Nat.le_refl _), fun y c h => ?_, fun p hp => absurd (show p ∈ ([] : List (Addr × Obj)) from hp) (by simp), e0.hok.kept hk, ?_⟩
  · exact name_of_addr x.apart (PySem.mem_of_lookup h1) (PySem.mem_of_lookup h2)
  · have hy : scope.names.lookup y = some .cell ∨ scope.names.lookup y = some .free := hy
    rcases hy with hy | hy
    · exact cell_has hy
    · exact absurd rfl (S.nofree _ (PySem.mem_of_lookup hy))
  · exact Nat.le_of_lt (x.above y c (PySem.mem_of_lookup h))
  · have hi : i < vs.length := by
      unfold start at h2
      by_cases hi : i < vs.length
      · exact hi
      · rw [List.getElem?_append_right (by simpa using hi)] at h2
        rw [List.getElem?_replicate] at h2
        split at h2 <;> cases h2
    have ha : vs[i]? = some v := by
      unfold start at h2
      rw [List.getElem?_append_left (by simpa using hi), List.getElem?_map] at h2
      cases e : vs[i]? with
      | none => rw [e] at h2; cases h2
      | some a => rw [e] at h2; cases h2; rfl
    obtain ⟨u, hu, rv⟩ := r.get ha
    have hp : ps[i]? = some y := by
      rw [← S.pre, List.getElem?_take_of_lt (by omega)]; exact h1
    have ndP : ps.Nodup := by rw [← S.pre]; exact S.nd.sublist (List.take_sublist _ _)
    refine ⟨u, rv, ?_⟩
    rcases S.par y (List.mem_of_getElem? hp) with k | k
    · exact .inl ⟨k, bindL_get ndP hp hu k⟩
    · obtain ⟨c, e⟩ := cell_has (n := s.heap.objs.size + 1) k
      refine .inr ⟨.inl k, c, e, ?_⟩
      have q := x.cell y c e
      rw [bindC_get ndP hp hu (by show scope.names.lookup y ≠ _; rw [k]; decide)] at q
      exact q
  · exact e0.hok.fresh (Nat.le_of_lt (x.above y c (PySem.mem_of_lookup h)))
  · unfold start
    show _ = N.length
    rw [List.length_append, List.length_map, List.length_replicate]
    omega

/-- THE RULE: a def (or a method) of the text, by its body. The body's reading t is chosen for each entry; it is run at the parameters' values -/
theorem fn_of {CX : CXT} {P : Program} {w : World} {K : PySem.W.Frag} {mg : Str → Option Value} {base : Heap} {k : Nat} {f : Addr} {name qual : Str} {params : Arguments} {body : List Stmt} {scope : Scope} {dV kV doc pm cdv ct oc : Value} {an od : Option Addr}
    {osl : Array (Option Value)} {N ps : List Str} {sp : Sp} (lk : K.lookup f = some ⟨oc, od, .func (PySem.W.fnOf name qual params body scope dV kV doc pm an cdv ct), osl⟩) (hcd : PySem.W.codeIn K cdv qual = true) (S : FnScope N ps scope)
    (len : ∀ vs H Q E, sp vs H Q E → vs.length = ps.length)
    (hbody : ∀ (A : Around) (outer : List Env) (s : Shared) (H : Hp) (vs : List V) (Q : VK) (E : XK), Room k (A.deeper (envOfC qual scope s.heap.objs.size f cdv)) → sp vs H Q E →
      ∃ t, PSs (cxOf CX P w K mg base N qual scope f cdv A outer s H E) body t ∧ t { nx := fun _ H' => Q .non H', rt := Q } (start N vs) H) :
    FnOk P w K mg base CX (k + 1) f (PySem.W.fnOf name qual params body scope dV kV doc pm an cdv ct) ps sp := by
  refine ⟨len, fun A outer s H args us vs Q E hr e0 hb r hsp => ?_⟩
  have hl := len _ _ _ _ hsp
  have KX : K.In s.heap := e0.mod.kin.keeps fun b o e => (e0.bs b o e).1
  have lim : s.heap.NoLimit := e0.mod.nolimit.keeps fun b o e => (e0.bs b o e).1
  have hkind : ∀ y ∈ ps.zip us, scope.names.lookup y.1 = some .local ∨ (scope.names.lookup y.1 = some .cell ∧ ((cellsFrom (s.heap.objs.size + 1) scope.names []).lookup y.1).isSome = true) := fun ⟨n, v⟩ hy => by
    rcases S.par n (List.of_mem_zip hy).1 with q | q
    · exact .inl q
    · exact .inr ⟨q, PySem.W.cellsFrom_some _ _ _ (.inl q)⟩
  refine codeAny_call_function hr.depth (KX _ _ lk) rfl S.co S.gen rfl (PySem.W.codeRec_of KX hcd) (hb _ _ _ _ ?_)
  refine wpAny_newFunctionEnv_cells S.kind hkind fun env he s1 x => ?_
  subst he
  refine ⟨lim.keeps x.toInCall.keep, codeAny_func ?_⟩
  obtain ⟨t, ht, hq⟩ := hbody A outer s H vs Q E (hr.deeper _) hsp
  have I : Inv (cxOf CX P w K mg base N qual scope f cdv A outer s H E) [] (start N vs) H s1 := inv_start S hr.hd e0 hl r x
  refine wpAny_mono (ht [] s1 (start N vs) H _ I hq) (fun fl s' hs => ?_) fun e s' hs => hs
  have fin : ∀ {σ' : St} {H' : Hp} {v : V} {u : Value}, Inv (cxOf CX P w K mg base N qual scope f cdv A outer s H E) [] σ' H' s' → RelV v u → Q v H' → CE outer P w H s Q u s' :=
    fun {σ' H' v u} J rv q => ⟨v, H', J.os, J.bare, J.base, J.hok, rv, q⟩
  cases fl with
  | ret u =>
    obtain ⟨v, σ', H', J, rv, q⟩ := hs
    exact fin J rv q
  | next =>
    obtain ⟨σ', H', J, q⟩ := hs
    exact fin (v := V.non) (u := Value.none) J rfl q
  | brk =>
    obtain ⟨_, _, _, q⟩ := hs
    exact False.elim q
  | cont =>
    obtain ⟨_, _, _, q⟩ := hs
    exact False.elim q
end L2

namespace L2
open PySem PySem.Spec PyProof.Rows
section
variable {X : Cx} {x : Str} {p pos : Pos} {e : Expr} {es : List Expr} {t : TA} {id T : String} {r : List V → Hp → VK → Prop}

def tCB (r : List V → Hp → VK → Prop) (t : TA) : TE := fun σ H Q => t σ H fun vs H1 => r vs H1 Q
/-- f(e, ..), f a built-in function -/
theorem pe_callB (hc : CallR X (.builtin id) r) (hg : Gl X x) (hm : X.mg x = none) (hv : bootBuiltins x = some (.builtin id)) (ha : PA X (e :: es) t) (hn : x ≠ "__name__" := by decide) (hdb : (x == ("__debug__" : Str)) = false := by decide)
    (he : starEach (e :: es) X.env = (false, eval e X.env) :: starEach es X.env := by rfl) (hpl : (backTo pos (starEach es X.env)).any (·.1) = false := by rfl) : PE X (.Call (.Name x p) (e :: es) [] pos) (tCB r t) := by
  intro pins s σ H Q I h
  refine wpAny_Call_Name_kw (ld_blt I hg hm hv ?_ hn hdb)
  exact PyProof.Rows.callWith_builtin1 (thn (ha pos pins s σ H _ I h) fun us s1 ⟨vs, H1, I1, r1, q1⟩ => hc pins s1 σ H1 vs us Q I1 r1 q1) he hpl
/-- T(e, ..), T a built-in type -/
theorem pe_callTy (hc : CallR X (.type T) r) (hg : Gl X x) (hm : X.mg x = none) (hv : bootBuiltins x = some (.type T)) (ha : PA X (e :: es) t) (hn : x ≠ "__name__" := by decide) (hdb : (x == ("__debug__" : Str)) = false := by decide)
    (he : starEach (e :: es) X.env = (false, eval e X.env) :: starEach es X.env := by rfl) (hpl : (backTo pos (starEach es X.env)).any (·.1) = false := by rfl) : PE X (.Call (.Name x p) (e :: es) [] pos) (tCB r t) := by
  intro pins s σ H Q I h
  refine wpAny_Call_Name_kw (ld_blt I hg hm hv ?_ hn hdb)
  exact PyProof.Rows.callWith_type1 (thn (ha pos pins s σ H _ I h) fun us s1 ⟨vs, H1, I1, r1, q1⟩ => hc pins s1 σ H1 vs us Q I1 r1 q1) he hpl
end
end L2

namespace HT
open PySem PyProof.Rows

/-- t < u of tuples of ints -/
def lexLt : List Int → List Int → Bool
  | [], [] => false
  | [], _ :: _ => true
  | _ :: _, [] => false
  | x :: xs, y :: ys => if x = y then lexLt xs ys else decide (x < y)
section
open PySem.SeqAt
open PySem.AutoSeq1 (wpAny_loadPart')
open PySem.MeetsSeq PySem.MeetsSeq2 PySem.MeetsSeq3

end

section
variable {prog : Program} {w : World} {A : Around} {E : Value → Shared → Prop} {s : Shared}

/-- t + u, t not empty -/
theorem cat_tup {t b : Addr} {vs ws : List Value} {Q : Value → Shared → Prop} (ht : IsTup s.heap t vs.toArray) (hb : IsTup s.heap b ws.toArray) (hv : vs ≠ [])
    (h1 : ws = [] → Q (.ref t) s) (h2 : ws ≠ [] → Q (.ref s.heap.objs.size) { s with heap := s.heap.push { cls := .type "tuple", data := .seq (vs ++ ws).toArray } })
    (hsz : vs.length + ws.length ≤ sizeLine) : wpAny (model prog w) A (binaryOp .Add (.ref t) (.ref b)) Q E s := by
  obtain ⟨⟨cls, dd, data, sl⟩, ho, hc, n, hd⟩ := id ht
  obtain ⟨⟨cls2, dd2, data2, sl2⟩, ho2, hc2, n2, hd2⟩ := id hb
  simp only at hc hd hc2 hd2
  subst hc hd hc2 hd2
  have e : vs.toArray ++ ws.toArray = (vs ++ ws).toArray := by simp
  by_cases hw : ws = []
  · exact concat_meets ⟨_, ho, rfl⟩ ⟨_, ho2, rfl⟩ noFill_tuple_add seq_tuple_add PySem.F.slot_tuple_add PySem.F.entry_tuple_add (PySem.F.args_tuple_add_2 _ _)
      (tuple_addW1 t b vs.toArray ws.toArray n n2 dd dd2 sl sl2 (by simpa using hv) (by simp [hw])) ⟨ho, ho2, h1 hw⟩
  · refine concat_meets ⟨_, ho, rfl⟩ ⟨_, ho2, rfl⟩ noFill_tuple_add seq_tuple_add PySem.F.slot_tuple_add PySem.F.entry_tuple_add (PySem.F.args_tuple_add_2 _ _)
      (tuple_addW2 t b vs.toArray ws.toArray n n2 dd dd2 sl sl2 (by simpa using hv) (by simpa using hw) (by rw [List.size_toArray, List.size_toArray]; exact hsz)) ⟨ho, ho2, ?_⟩
    rw [e]
    exact h2 hw

/-! ### t[a:b], not the whole -/
/-- a slice's bound as a place among n (d where it is left out) -/
def sIx (n d : Nat) : Option Int → Nat
  | none => d
  | some v => if v < 0 then (v + (n : Int)).toNat else min v.toNat n
theorem sIx_none (n d : Nat) : sIx n d none = d := rfl
theorem sIx_nat (n d k : Nat) : sIx n d (some (k : Int)) = min k n := by
  show (if (k : Int) < 0 then ((k : Int) + (n : Int)).toNat else min (k : Int).toNat n) = min k n
  rw [if_neg (by omega), Int.toNat_natCast]
theorem sIx_le (n d : Nat) (hd : d ≤ n) (o : Option Int) : sIx n d o ≤ n := by
  cases o with
  | none => exact hd
  | some v =>
    show (if v < 0 then (v + (n : Int)).toNat else min v.toNat n) ≤ n
    by_cases hv : v < 0
    · rw [if_pos hv]; omega
    · rw [if_neg hv]; exact Nat.min_le_right _ _
theorem clip_eq (v : Int) (n d : Nat) : (if v < 0 then max (v + (n : Int)) 0 else min v (n : Int)) = ((sIx n d (some v) : Nat) : Int) := by
  show (if v < 0 then max (v + (n : Int)) 0 else min v (n : Int)) = (((if v < 0 then (v + (n : Int)).toNat else min v.toNat n) : Nat) : Int)
  by_cases hv : v < 0
  · simp only [if_pos hv]; omega
  · simp only [if_neg hv]; omega
theorem adjust_gen (lo hi : Option Int) (n : Nat) : Builtin.Slice.sliceAdjust lo hi 1 (n : Int) = (((sIx n 0 lo : Nat) : Int), ((sIx n n hi : Nat) : Int)) := by
  have h1 : ¬ ((1 : Int) < 0) := by omega
  unfold Builtin.Slice.sliceAdjust
  simp only [h1, if_false]
  refine Prod.ext ?_ ?_
  · cases lo with
    | none => rfl
    | some v => exact clip_eq v n 0
  · cases hi with
    | none => rfl
    | some v => exact clip_eq v n n
theorem places_gen (i j : Nat) : Builtin.Slice.slicePlaces (i : Int) (j : Int) 1 = j - i := by
  unfold Builtin.Slice.slicePlaces
  have h1 : (1 : Int) > 0 := by omega
  simp only [h1, if_true, Int.ediv_one]
  split <;> omega
theorem slicePart_ {v : Value} {o : Option Int} {Q : Option Int → Shared → Prop} (p : IsPart v o) (h : Q o s) : wpAny (model prog w) A (Builtin.Slice.slicePartIndex v) Q E s := by
  cases p with
  | none => exact slicePart_none h
  | int i t => exact slicePart_int h
theorem sliceApplied_gen {sl : Addr} {vl vu : Value} {lo hi : Option Int} {n : Nat} {Q : Int × Int × Nat → Shared → Prop} (hs : s.heap.IsSliceOf sl vl vu .none) (pl : IsPart vl lo) (pu : IsPart vu hi)
    (h : Q (((sIx n 0 lo : Nat) : Int), 1, sIx n n hi - sIx n 0 lo) s) : wpAny (model prog w) A (Builtin.Slice.sliceApplied (.ref sl) (pure (n : Int))) Q E s := by
  obtain ⟨os, hos, hcs, hds⟩ := id hs
  unfold Builtin.Slice.sliceApplied Builtin.Slice.sliceFields
  refine wpAny_bind (wpAny_bind (wpAny_field hos hds (x := vl) rfl (wpAny_bind (wpAny_field hos hds (x := vu) rfl (wpAny_bind (wpAny_field hos hds (x := .none) rfl (wpAny_pure ?_)))))))
  refine wpAny_bind (slicePart_none ?_)
  show wpAny _ _ (if ((1 : Int) == 0) = true then _ else _) _ _ s
  rw [if_neg (by decide)]
  refine wpAny_bind (slicePart_ pl (wpAny_bind (slicePart_ pu (wpAny_bind (wpAny_pure ?_)))))
  show wpAny _ _ (match Builtin.Slice.sliceAdjust lo hi 1 (n : Int) with | (lo, hi) => pure (lo, (1 : Int), Builtin.Slice.slicePlaces lo hi 1)) _ _ s
  rw [adjust_gen lo hi n]
  show wpAny _ _ (pure (((sIx n 0 lo : Nat) : Int), (1 : Int), Builtin.Slice.slicePlaces ((sIx n 0 lo : Nat) : Int) ((sIx n n hi : Nat) : Int) 1)) _ _ s
  rw [places_gen]
  exact wpAny_pure h
theorem pick_gen (xs : Array Value) (i k : Nat) : ((List.range k).filterMap fun (m : Nat) => xs[((i : Int) + (m : Int) * 1).toNat]?).toArray = ((xs.toList.drop i).take k).toArray := by
  have e : (fun (m : Nat) => xs[((i : Int) + (m : Int) * 1).toNat]?) = fun m => xs[i + m]? := by
    funext m
    have : ((i : Int) + (m : Int) * 1).toNat = i + m := by omega
    rw [this]
  rw [e]
  have := pick_run xs i k
  rw [List.filterMap_map] at this
  have e2 : ((fun x => xs[x]?) ∘ fun x => i + x) = fun m => xs[i + m]? := rfl
  rw [e2] at this
  rw [this]

theorem getItem_tuple_cut {t sl : Addr} {items : Array Value} {vl vu : Value} {lo hi : Option Int} {Q : Value → Shared → Prop} (ht : IsTup s.heap t items) (hs : s.heap.IsSliceOf sl vl vu .none) (pl : IsPart vl lo) (pu : IsPart vu hi)
    (hw : ¬ (sIx items.size 0 lo = 0 ∧ sIx items.size items.size hi = items.size))
    (h : Q (.ref s.heap.objs.size) { s with heap := s.heap.push { cls := .type "tuple", data := .seq ((items.toList.drop (sIx items.size 0 lo)).take (sIx items.size items.size hi - sIx items.size 0 lo)).toArray } })
    (hsz : items.size ≤ sizeLine) : wpAny (model prog w) A (getItem (.ref t) (.ref sl)) Q E s := by
  have htake : sizeOk (.seq ((items.toList.drop (sIx items.size 0 lo)).take (sIx items.size items.size hi - sIx items.size 0 lo)).toArray) := by
    show ((items.toList.drop (sIx items.size 0 lo)).take (sIx items.size items.size hi - sIx items.size 0 lo)).toArray.size ≤ sizeLine
    rw [List.size_toArray, List.length_take, List.length_drop, Array.length_toList]
    omega
  have hj : sIx items.size items.size hi ≤ items.size := sIx_le _ _ (Nat.le_refl _) hi
  obtain ⟨os, hos, hcs, hds⟩ := id hs
  have hTs : s.TypeIs (.ref sl) "slice" := ⟨os, hos, hcs⟩
  unfold getItem
  try with_reducible refine wpAny_holding ?_
  first | refine wpAny_bind (wpAny_pure ?_) | skip
  refine wpAny_bind (wpAny_sequenceKey ht.typeIs (by decide) ?_)
  refine wpAny_bind (wpAny_callSpecial?_slot (name := Str.ofString "__getitem__") ht.typeIs PyProof.Rows.slot_tuple_getitem
    (wpAny_call_entry PyProof.Rows.slot_tuple_getitem ht.typeIs entry_tuple_getitem ?_ (args_tuple_getitem _ _)))
  show wpAny _ _ (Builtin.Tuple.tupleItemsOf (.ref t) >>= _) _ _ s
  refine wpAny_bind (tupleItemsOf_ ht ?_)
  refine wpAny_bind (wpAny_typeOf hTs ?_)
  rw [if_pos (by decide)]
  refine wpAny_bind (sliceApplied_gen hs pl pu ?_)
  have hno : ¬ ((((sIx items.size 0 lo : Nat) : Int) == 0 && (1 : Int) == 1 && (sIx items.size items.size hi - sIx items.size 0 lo) == items.size) = true) := by
    intro q
    rw [Bool.and_eq_true, Bool.and_eq_true] at q
    have q1 : ((sIx items.size 0 lo : Nat) : Int) = 0 := eq_of_beq q.1.1
    have q2 : sIx items.size items.size hi - sIx items.size 0 lo = items.size := eq_of_beq q.2
    exact hw ⟨by omega, by omega⟩
  show wpAny _ _ (if (((sIx items.size 0 lo : Nat) : Int) == 0 && (1 : Int) == 1 && (sIx items.size items.size hi - sIx items.size 0 lo) == items.size) = true then _ else _) _ _ s
  rw [if_neg hno, pick_gen]
  first
    | exact wpAny_bind (m := Builtin.Tuple.tupleExact _) (wpAny_newObj_type (wpAny_pure ⟨_, rfl, wpAny_pure h⟩) htake)
    | exact wpAny_bind (m := Builtin.Tuple.tupleExact _) (wpAny_newObj_type (wpAny_bind (wpAny_pure (wpAny_pure ⟨_, rfl, wpAny_pure h⟩))) htake)
    | exact wpAny_bind (wpAny_bind (m := Builtin.Tuple.tupleExact _) (wpAny_newObj_type (wpAny_pure (wpAny_pure ⟨_, rfl, wpAny_pure h⟩)) htake))
    | exact wpAny_bind (wpAny_bind (m := Builtin.Tuple.tupleExact _) (wpAny_newObj_type (wpAny_pure ⟨_, rfl, wpAny_pure h⟩) htake))
end
end HT

namespace L2
open PySem PySem.Spec PyProof.Rows

/-! ### the parts of a slice -/
abbrev TO := St → Hp → (Option Int → Hp → Prop) → Prop
/-- a slice's part (left out, or an int) -/
def PO (X : Cx) (e : Option Expr) (t : TO) : Prop :=
  ∀ (pins : List (Addr × Obj)) (s : Shared) (σ : St) (H : Hp) (Q : Option Int → Hp → Prop), Inv X pins σ H s → t σ H Q →
    wpAny (model X.prog X.w) X.A (evalPart e X.env) (fun u s' => ∃ o H', Inv X pins σ H' s' ∧ IsPart u o ∧ Q o H') X.xe s
def tNoPart : TO := fun _ H Q => Q none H
def tPart (t : TE) : TO := fun σ H Q => t σ H fun x H1 => ∃ i, x = .int i ∧ Q (some i) H1

section
variable {X : Cx} {e : Expr} {te : TE} {lo hi : Option Expr} {tl th : TO} {pos p2 : Pos}

theorem po_none : PO X none tNoPart := by
  intro pins s σ H Q I h
  rw [evalPart_none]
  exact wpAny_pure ⟨none, H, I, .none, h⟩
theorem po_some (h : PE X e te) : PO X (some e) (tPart te) := by
  intro pins s σ H Q I hw
  rw [evalPart_some]
  refine thn (h pins s σ H _ I hw) fun u s1 ⟨x, H1, I1, r1, q1⟩ => ?_
  obtain ⟨i, rfl, q⟩ := q1
  obtain ⟨t, rfl⟩ := r1
  exact ⟨some i, H1, I1, .int i t, q⟩

/-- what a slice of a value is, by values: the slice object stands at sl -/
def SlR (X : Cx) (r : V → Option Int → Option Int → Hp → VK → Prop) : Prop :=
  ∀ (pins : List (Addr × Obj)) (s : Shared) (σ : St) (H : Hp) (x : V) (v vl vu : Value) (lo hi : Option Int) (sl : Addr) (Q : VK), Inv X pins σ H s → RelV x v → s.heap.IsSliceOf sl vl vu .none → IsPart vl lo → IsPart vu hi → r x lo hi H Q →
    ∃ T id, typeLookup (.type T) "__getitem__" = pure (some (.builtin id)) ∧ s.TypeIs v T ∧ wpAny (model X.prog X.w) X.A (getItem v (.ref sl)) (EP X pins σ Q) X.xe s
theorem SlR.or {r r' : V → Option Int → Option Int → Hp → VK → Prop} (h : SlR X r) (h' : SlR X r') : SlR X (fun x lo hi H Q => r x lo hi H Q ∨ r' x lo hi H Q) := by
  intro pins s σ H x v vl vu lo hi sl Q I rx hs pl pu q
  rcases q with q | q
  · exact h pins s σ H x v vl vu lo hi sl Q I rx hs pl pu q
  · exact h' pins s σ H x v vl vu lo hi sl Q I rx hs pl pu q
def tSl (r : V → Option Int → Option Int → Hp → VK → Prop) (te : TE) (tl th : TO) : TE := fun σ H Q => te σ H fun x H1 => tl σ H1 fun l H2 => th σ H2 fun u H3 => r x l u H3 Q
/-- a[lo:hi], any a -/
theorem pe_slice {r : V → Option Int → Option Int → Hp → VK → Prop} (hr : SlR X r) (he : PE X e te) (hl : PO X lo tl) (hu : PO X hi th) : PE X (.Subscript e (.Slice lo hi none p2) pos) (tSl r te tl th) := by
  intro pins s σ H Q I h
  refine Subscript_ (thn (he pins s σ H _ I h) fun v s1 ⟨x, H1, I1, r1, q1⟩ => ?_)
  refine wpAny_Slice (thn (hl pins s1 σ H1 _ I1 q1) fun vl s2 ⟨l, H2, I2, pl, q2⟩ => thn (hu pins s2 σ H2 _ I2 q2) fun vu s3 ⟨u, H3, I3, pu, q3⟩ => ?_)
  rw [evalPart_none]
  refine wpAny_pure ?_
  have I4 : Inv X pins σ H3 { s3 with heap := s3.heap.push { cls := .type "slice", data := .fields #[vl, vu, .none] } } := I3.kept (t' := s3.toks) fun b ob q => Heap.get?_push_of_some _ q
  obtain ⟨T, id, hT, ht, hg⟩ := hr pins { s3 with heap := s3.heap.push { cls := .type "slice", data := .fields #[vl, vu, .none] } } σ H3 x v vl vu l u s3.heap.objs.size Q I4 r1 (Heap.IsSliceOf.new ..) pl pu q3
  show wpAny (model X.prog X.w) X.A (subscriptTail e (.Slice lo hi none p2) v (.ref s3.heap.objs.size)) (EP X pins σ Q) X.xe { s3 with heap := s3.heap.push { cls := .type "slice", data := .fields #[vl, vu, .none] } }
  exact tail_any (ops := [.ref s3.heap.objs.size, v]) ht hT hg (by with_unfolding_all rfl)

/-- the items of xs[lo:hi] -/
def cutV (xs : List V) (lo hi : Option Int) : List V := (xs.drop (HT.sIx xs.length 0 lo)).take (HT.sIx xs.length xs.length hi - HT.sIx xs.length 0 lo)
theorem cutV_length (xs : List V) (lo hi : Option Int) : (cutV xs lo hi).length ≤ xs.length := by
  unfold cutV
  rw [List.length_take, List.length_drop]
  omega
/-- t[lo:hi], not the whole of it (the whole would be t itself) -/
def rSlT (K : PySem.W.Frag) : V → Option Int → Option Int → Hp → VK → Prop := fun x lo hi H Q => ∃ a xs, x = .ref a ∧ SqT K H a xs ∧
  ¬ (HT.sIx xs.length 0 lo = 0 ∧ HT.sIx xs.length xs.length hi = xs.length) ∧ ∀ p, H p = none → Q (.ref p) (upd H p (.tup (cutV xs lo hi)))
theorem sl_tup : SlR X (rSlT X.K) := by
  intro pins s σ H x v vl vu lo hi sl Q I rx hs pl pu h
  obtain ⟨a, xs, rfl, hx, hw, q⟩ := h
  cases rx
  obtain ⟨its, r, ht, hz⟩ := I.tuple hx
  have hlen : its.toArray.size = xs.length := by rw [List.size_toArray]; exact r.length.symm
  refine ⟨"tuple", _, PyProof.Rows.slot_tuple_getitem.lookup, ht.typeIs, ?_⟩
  refine HT.getItem_tuple_cut ht hs pl pu (by rw [hlen]; exact hw) ?_ (by rw [hlen]; exact hz)
  rw [hlen]
  refine ⟨.ref s.heap.objs.size, _, I.laid (t' := s.toks) (o := .tup (cutV xs lo hi)) (fun b ob q => Heap.get?_push_of_some _ q) (Nat.le_refl _) ?_, rfl, q _ (I.hok.fresh (Nat.le_refl _))⟩
  exact ⟨Nat.le_trans (cutV_length xs lo hi) hz, _, (r.drop (HT.sIx xs.length 0 lo)).take (HT.sIx xs.length xs.length hi - HT.sIx xs.length 0 lo), IsTup.new _ _⟩

/-! ### t < u, t + u -/
/-- t + u, t not empty: u empty gives t itself -/
def rCatT (K : PySem.W.Frag) : R2 := fun x y H Q => ∃ a b xs ys, x = .ref a ∧ y = .ref b ∧ SqT K H a xs ∧ SqT K H b ys ∧ xs ≠ [] ∧ xs.length + ys.length ≤ sizeLine ∧
  (ys = [] → Q (.ref a) H) ∧ (ys ≠ [] → ∀ p, H p = none → Q (.ref p) (upd H p (.tup (xs ++ ys))))
theorem Vals.nil_iff {xs : List V} {us : List Value} (r : Vals xs us) : us = [] ↔ xs = [] := by
  cases r with
  | nil => simp
  | cons _ _ => simp
theorem op_catT : OpR X (binaryOp .Add) (rCatT X.K) := by
  intro pins s σ H x y v u Q I rx ry h
  obtain ⟨a, b, xs, ys, rfl, rfl, ha, hb, hx, hz, q1, q2⟩ := h
  cases rx
  cases ry
  obtain ⟨its, r1, p1, _⟩ := I.tuple ha
  obtain ⟨its2, r2, p2, _⟩ := I.tuple hb
  refine HT.cat_tup p1 p2 (fun z => hx (r1.nil_iff.mp z)) (fun z => ⟨.ref a, H, I, rfl, q1 (r2.nil_iff.mp z)⟩) (fun z => ?_) (by rw [← r1.length, ← r2.length]; exact hz)
  refine ⟨.ref s.heap.objs.size, _, I.laid (t' := s.toks) (o := .tup (xs ++ ys)) (fun b ob q => Heap.get?_push_of_some _ q) (Nat.le_refl _) ?_, rfl, q2 (fun w => z (r2.nil_iff.mpr w)) _ (I.hok.fresh (Nat.le_refl _))⟩
  exact ⟨by rw [List.length_append]; exact hz, _, r1.append r2, IsTup.new _ _⟩
end
end L2

namespace L2
open PySem PySem.Spec PyProof.Rows

/-! ### places -/
/-- the place that an index of any sign means -/
def ixN (n : Nat) (i : Int) : Option Nat := if 0 ≤ i then (if i < n then some i.toNat else none) else if -(n : Int) ≤ i then some (i + n).toNat else none
def atI {α : Type} (xs : List α) (i : Int) : Option α := (ixN xs.length i).bind fun j => xs[j]?
theorem ixN_seq {n : Nat} {i : Int} {j : Nat} (h : ixN n i = some j) : seqIndex? i n = some j ∧ j < n ∧ -(n : Int) ≤ i ∧ i < n := by
  unfold ixN at h
  by_cases h0 : 0 ≤ i
  · rw [if_pos h0] at h
    by_cases h1 : i < n
    · rw [if_pos h1] at h
      have e : i.toNat = j := Option.some.inj h
      exact ⟨by rw [seqIndex_of h0 h1, e], by omega, by omega, h1⟩
    · rw [if_neg h1] at h; cases h
  · rw [if_neg h0] at h
    by_cases h1 : -(n : Int) ≤ i
    · rw [if_pos h1] at h
      have e : (i + n).toNat = j := Option.some.inj h
      exact ⟨by rw [seqIndex_neg (by omega) h1, e], by omega, h1, by omega⟩
    · rw [if_neg h1] at h; cases h
theorem atI_get {α : Type} {xs : List α} {i : Int} {v : α} (h : atI xs i = some v) : ∃ j, seqIndex? i xs.length = some j ∧ xs[j]? = some v ∧ j < xs.length ∧ -(xs.length : Int) ≤ i ∧ i < xs.length := by
  unfold atI at h
  cases e : ixN xs.length i with
  | none => rw [e] at h; cases h
  | some j =>
    rw [e] at h
    obtain ⟨h1, h2, h3, h4⟩ := ixN_seq e
    exact ⟨j, h1, h, h2, h3, h4⟩
theorem atI_nat {α : Type} {xs : List α} {j : Nat} {v : α} (h : xs[j]? = some v) : atI xs (j : Int) = some v := by
  have hj : j < xs.length := (List.getElem?_eq_some_iff.mp h).1
  have e : ixN xs.length (j : Int) = some j := by
    unfold ixN
    rw [if_pos (by omega), if_pos (by omega)]; simp
  unfold atI; rw [e]; exact h
theorem atI_last {α : Type} (xs : List α) (v : α) : atI (xs ++ [v]) (-1) = some v := by
  have hl : (xs ++ [v]).length = xs.length + 1 := by simp
  have e : ixN (xs ++ [v]).length (-1) = some xs.length := by
    unfold ixN
    rw [hl, if_neg (by decide), if_pos (by omega)]
    congr 1
    omega
  unfold atI
  rw [e]
  show (xs ++ [v])[xs.length]? = some v
  simp

/-! ### what may be subscripted -/
/-- what stands as an index of a plain subscript -/
def PlainIx (b : Expr) : Prop := ∀ o i, subscripted b false o i = operate [o, i] (getItem o i)
/-- a subscript by values -/
def IxR (X : Cx) (r : R2) : Prop :=
  ∀ (value slice : Expr) (pins : List (Addr × Obj)) (s : Shared) (σ : St) (H : Hp) (x y : V) (v u : Value) (Q : VK), Inv X pins σ H s → RelV x v → RelV y u → r x y H Q →
    subscripted slice false v u = operate [v, u] (getItem v u) → wpAny (model X.prog X.w) X.A (subscriptTail value slice v u) (EP X pins σ Q) X.xe s
/-- a call of a builtin's method by values: the receiver, the arguments -/
def MtR (X : Cx) (id : String) (r : V → List V → Hp → VK → Prop) : Prop :=
  ∀ (pins : List (Addr × Obj)) (s : Shared) (σ : St) (H : Hp) (x : V) (xs : List V) (v : Value) (us : List Value) (Q : VK), Inv X pins σ H s → RelV x v → Vals xs us → r x xs H Q →
    wpAny (model X.prog X.w) X.A (call (.builtin id) (v :: us)) (EP X pins σ Q) X.xe s
section
variable {X : Cx} {a b : Expr} {ta tb : TE} {pos : Pos}
theorem IxR.or {r r' : R2} (h : IxR X r) (h' : IxR X r') : IxR X (fun x y H Q => r x y H Q ∨ r' x y H Q) := by
  intro value slice pins s σ H x y v u Q I rx ry q hs
  rcases q with q | q
  · exact h value slice pins s σ H x y v u Q I rx ry q hs
  · exact h' value slice pins s σ H x y v u Q I rx ry q hs
theorem MtR.or {id : String} {r r' : V → List V → Hp → VK → Prop} (h : MtR X id r) (h' : MtR X id r') : MtR X id (fun x xs H Q => r x xs H Q ∨ r' x xs H Q) := by
  intro pins s σ H x xs v us Q I rx rs q
  rcases q with q | q
  · exact h pins s σ H x xs v us Q I rx rs q
  · exact h' pins s σ H x xs v us Q I rx rs q
/-- a[b] -/
theorem pe_ix {r : R2} (hr : IxR X r) (ha : PE X a ta) (hb : PE X b tb) (hs : PlainIx b) : PE X (.Subscript a b pos) (tOp r ta tb) := by
  intro pins s σ H Q I h
  exact Subscript_ (binT ha hb I h fun v u s2 x y H2 I2 rx ry q => hr a b pins s2 σ H2 x y v u Q I2 rx ry q (hs _ _))

def rIxL (K : PySem.W.Frag) : R2 := fun x y H Q => ∃ p xs i v, x = .ref p ∧ y = .int i ∧ SqL K H p xs ∧ atI xs i = some v ∧ Q v H
def rIxT (K : PySem.W.Frag) : R2 := fun x y H Q => ∃ p xs i v, x = .ref p ∧ y = .int i ∧ SqT K H p xs ∧ atI xs i = some v ∧ Q v H
theorem ix_list : IxR X (rIxL X.K) := by
  intro value slice pins s σ H x y v u Q I rx ry h hs
  obtain ⟨p, xs, i, z, rfl, rfl, hq, he, q⟩ := h
  cases rx
  obtain ⟨t, rfl⟩ := ry
  obtain ⟨its, r, pl, hz⟩ := I.list hq
  obtain ⟨j, h1, h2, h3, h4, h5⟩ := atI_get he
  obtain ⟨w, ew, rw'⟩ := r.get h2
  have hl := r.length
  have hn := line63
  have fin : EP X pins σ Q w s := ⟨z, H, I, rw', q⟩
  by_cases h0 : 0 ≤ i
  · have hj : i.toNat = j := by
      rw [seqIndex_of h0 h5] at h1
      exact Option.some.inj h1
    exact item_listR pl.isList h0 (by omega) (by rw [hj]; simpa using ew) fin hs
  · have hj : (i + (its.toArray.size : Int)).toNat = j := by
      rw [seqIndex_neg (by omega) h4] at h1
      rw [List.size_toArray, ← hl]
      exact Option.some.inj h1
    exact subscriptTail_builtinR (x := w) pl.isList.typeIs slot_list_getitem.lookup
      (wpAny_getItem_list_neg (Q := fun r s' => r = w ∧ EP X pins σ Q r s') pl.isList (by omega) (by rw [List.size_toArray] <;> omega) (by omega) (by rw [hj]; simpa using ew) ⟨rfl, fin⟩) hs
theorem ix_tup : IxR X (rIxT X.K) := by
  intro value slice pins s σ H x y v u Q I rx ry h hs
  obtain ⟨p, xs, i, z, rfl, rfl, hq, he, q⟩ := h
  cases rx
  obtain ⟨t, rfl⟩ := ry
  obtain ⟨its, r, pl, hz⟩ := I.tuple hq
  obtain ⟨j, h1, h2, h3, h4, h5⟩ := atI_get he
  obtain ⟨w, ew, rw'⟩ := r.get h2
  have hl := r.length
  have hn := line63
  have fin : EP X pins σ Q w s := ⟨z, H, I, rw', q⟩
  exact subscriptTail_builtinR (x := w) pl.typeIs slot_tuple_getitem.lookup
    (getItem_tuple (j := j) (Q := fun r s' => r = w ∧ EP X pins σ Q r s') pl (by omega) (by omega) (by rw [List.size_toArray, ← hl]; exact h1) (by simpa using ew) ⟨rfl, fin⟩) hs
/-! ### xs[i] = v, any sign -/
/-- the list's object behind a store -/
theorem mapSeq_set (its : List Value) (n j : Nat) (u : Value) : Obj.mapSeq (·.setIfInBounds j u) { cls := .type "list", data := .seq its.toArray n } = { cls := .type "list", data := .seq (its.set j u).toArray n } := by
  simp [Obj.mapSeq]
theorem Inv.lst {pins : List (Addr × Obj)} {σ : St} {H : Hp} {s : Shared} {p : Addr} {xs : List V} (I : Inv X pins σ H s) (h : H p = some (.lst xs)) :
    ∃ (its : List Value) (n : Nat), Vals xs its ∧ s.heap.get? p = some { cls := .type "list", data := .seq its.toArray n } ∧ xs.length ≤ sizeLine := by
  obtain ⟨z, its, n, r, e⟩ := I.hok p _ h
  exact ⟨its, n, r, e, z⟩
/-- the list at p is written by an update of its object -/
theorem Inv.lstUpd {pins : List (Addr × Obj)} {σ : St} {H : Hp} {s : Shared} {p : Addr} {xs ys : List V} {its its' : List Value} {n n' : Nat} {f : Obj → Obj} (I : Inv X pins σ H s) (h : H p = some (.lst xs))
    (ho : s.heap.get? p = some { cls := .type "list", data := .seq its.toArray n }) (hf : f { cls := .type "list", data := .seq its.toArray n } = { cls := .type "list", data := .seq its'.toArray n' }) (r : Vals ys its') (hz : ys.length ≤ sizeLine) (t : Nat) :
    Inv X pins σ (upd H p (.lst ys)) { s with heap := s.heap.update p f, toks := t } := by
  have e : (s.heap.update p f).get? p = some { cls := .type "list", data := .seq its'.toArray n' } := by
    rw [Heap.get?_update_self f ho (by rw [hf] <;> rfl), hf]
  refine I.write (x := p) (e := p) (by rw [h]; trivial) (.inl rfl) (fun b u hb q => (Heap.get?_update_other _ _ (Ne.symm hb)).trans q) ⟨_, e⟩ ?_
  exact ⟨hz, its', n', r, e⟩
def rSetL : V → V → V → Hp → (Hp → Prop) → Prop := fun o i v H Q => ∃ p xs k j, o = .ref p ∧ i = .int k ∧ H p = some (.lst xs) ∧ ixN xs.length k = some j ∧ Q (upd H p (.lst (xs.set j v)))
theorem set_list : PSet X rSetL := by
  intro pins s σ H o i v ov iv u Q I ro ri rv h
  obtain ⟨p, xs, k, j, rfl, rfl, hp, hj, q⟩ := h
  cases ro
  obtain ⟨t, rfl⟩ := ri
  obtain ⟨its, n, r, ho, hz⟩ := I.lst hp
  obtain ⟨h1, h2, h3, h4⟩ := ixN_seq hj
  have hl := r.length
  have hn := line63
  have I' : Inv X pins σ (upd H p (.lst (xs.set j v))) { s with heap := s.heap.update p (Obj.mapSeq (·.setIfInBounds j u)) } :=
    I.lstUpd hp ho (mapSeq_set its n j u) (r.set rv j) (by rw [List.length_set]; exact hz) s.toks
  by_cases h0 : 0 ≤ k
  · have hk : k.toNat = j := by
      rw [seqIndex_of h0 h4] at h1
      exact Option.some.inj h1
    exact PySem.W.ki_setAt ho h0 (by omega) (by rw [List.size_toArray, ← hl]; exact h4) (by rw [hk]; exact ⟨_, I', q⟩)
  · have hk : (k + (its.toArray.size : Int)).toNat = j := by
      rw [seqIndex_neg (by omega) h3] at h1
      rw [List.size_toArray, ← hl]
      exact Option.some.inj h1
    exact PySem.W.ki_setBack ho (by omega) (by rw [List.size_toArray, ← hl]; exact h3) (by omega) (by rw [hk]; exact ⟨_, I', q⟩)

/-! ### slices -/
theorem slice_bounds (lo hi : Option Int) (n : Nat) : (sliceBounds lo hi none n).1 = ((HT.sIx n 0 lo : Nat) : Int) ∧ (sliceBounds lo hi none n).2.1 = ((HT.sIx n n hi : Nat) : Int) ∧ (sliceBounds lo hi none n).2.2 = 1 := by
  refine ⟨?_, ?_, rfl⟩
  · cases lo with
    | none => simp [sliceBounds, HT.sIx]
    | some i =>
      simp only [sliceBounds, HT.sIx, Option.getD_none, show (1 : Int) > 0 by decide, if_true]
      by_cases h : i < 0
      · simp only [h, if_true] <;> omega
      · simp only [h, if_false] <;> omega
  · cases hi with
    | none => simp [sliceBounds, HT.sIx]
    | some i =>
      simp only [sliceBounds, HT.sIx, Option.getD_none, show (1 : Int) > 0 by decide, if_true]
      by_cases h : i < 0
      · simp only [h, if_true] <;> omega
      · simp only [h, if_false] <;> omega
theorem slicePick_cut (its : List Value) (lo hi : Option Int) : slicePick its.toArray lo hi none = ((its.drop (HT.sIx its.length 0 lo)).take (HT.sIx its.length its.length hi - HT.sIx its.length 0 lo)).toArray := by
  obtain ⟨h1, h2, h3⟩ := slice_bounds lo hi its.toArray.size
  unfold slicePick
  rw [h1, h2, h3]
  simp only [sliceRange_one, pick_run, List.size_toArray] <;> rfl
/-- xs[lo:hi] of a list: a new list -/
def rSlL (K : PySem.W.Frag) : V → Option Int → Option Int → Hp → VK → Prop := fun x lo hi H Q => ∃ a xs, x = .ref a ∧ SqL K H a xs ∧ ∀ p, H p = none → Q (.ref p) (upd H p (.lst (cutV xs lo hi)))
theorem sl_list : SlR X (rSlL X.K) := by
  intro pins s σ H x v vl vu lo hi sl Q I rx hs pl pu h
  obtain ⟨a, xs, rfl, hx, q⟩ := h
  cases rx
  obtain ⟨its, r, ht, hz⟩ := I.list hx
  have hlen := r.length
  refine ⟨"list", _, slot_list_getitem.lookup, ht.isList.typeIs, ?_⟩
  refine wpAny_getItem_list_slice ht.isList hs pl pu .none (by simp) ?_ (by rw [List.size_toArray] <;> omega)
  rw [slicePick_cut, ← hlen]
  refine ⟨.ref s.heap.objs.size, _, I.laid (t' := s.toks) (o := .lst (cutV xs lo hi)) (fun b ob q => Heap.get?_push_of_some _ q) (Nat.le_refl _) ?_, rfl, q _ (I.hok.fresh (Nat.le_refl _))⟩
  exact ⟨Nat.le_trans (cutV_length xs lo hi) hz, _, 0, (r.drop (HT.sIx xs.length 0 lo)).take (HT.sIx xs.length xs.length hi - HT.sIx xs.length 0 lo), Heap.get?_push_size _ rfl⟩

/-! ### in, not in: flat items -/
def flatV : V → Bool
  | .non => true
  | .bl _ => true
  | .int _ => true
  | .str _ => true
  | _ => false
/-- == of flat values -/
def eqV : V → V → Bool
  | .non, .non => true
  | .bl a, .bl b => a == b
  | .bl a, .int b => (if a then 1 else 0) == b
  | .int a, .bl b => a == (if b then 1 else 0)
  | .int a, .int b => a == b
  | .str a, .str b => a == b
  | _, _ => false
theorem eqAt_V {A : Around} {s : Shared} {y x : V} {u v : Value} (ry : RelV y u) (rx : RelV x v) (fy : flatV y = true) (fx : flatV x = true) : SeqAt.EqAt A s u v (eqV y x) := by
  cases y with
  | non =>
    cases ry
    cases x with
    | non => cases rx; exact SeqAt.EqAt.same _
    | bl b => cases rx; exact SeqAt.EqAt.none_bool b
    | int b => obtain ⟨t, rfl⟩ := rx; exact SeqAt.EqAt.none_int b t
    | str b => obtain ⟨t, rfl⟩ := rx; exact SeqAt.EqAt.none_str b t
    | _ => exact absurd (show false = true from fx) Bool.false_ne_true
  | bl a =>
    cases ry
    cases x with
    | non => cases rx; exact SeqAt.EqAt.bool_none a
    | bl b => cases rx; exact SeqAt.EqAt.bool_bool a b
    | int b => obtain ⟨t, rfl⟩ := rx; exact SeqAt.EqAt.bool_int a b t
    | str b => obtain ⟨t, rfl⟩ := rx; exact SeqAt.EqAt.bool_str a b t
    | _ => exact absurd (show false = true from fx) Bool.false_ne_true
  | int a =>
    obtain ⟨t', rfl⟩ := ry
    cases x with
    | non => cases rx; exact SeqAt.EqAt.int_none a t'
    | bl b => cases rx; exact SeqAt.EqAt.int_bool a t' b
    | int b => obtain ⟨t, rfl⟩ := rx; exact SeqAt.EqAt.int_int a t' b t
    | str b => obtain ⟨t, rfl⟩ := rx; exact SeqAt.EqAt.int_str a t' b t
    | _ => exact absurd (show false = true from fx) Bool.false_ne_true
  | str a =>
    obtain ⟨t', rfl⟩ := ry
    cases x with
    | non => cases rx; exact SeqAt.EqAt.str_none a t'
    | bl b => cases rx; exact SeqAt.EqAt.str_bool a t' b
    | int b => obtain ⟨t, rfl⟩ := rx; exact SeqAt.EqAt.str_int a t' b t
    | str b => obtain ⟨t, rfl⟩ := rx; exact SeqAt.EqAt.str_str a t' b t
    | _ => exact absurd (show false = true from fx) Bool.false_ne_true
  | _ => exact absurd (show false = true from fy) Bool.false_ne_true
/-! ### len, list(x), tuple(x) of any list or tuple that is read -/
theorem call_len_seq : CallR X (.builtin "len") (fun xs H Q => ∃ p ys, xs = [.ref p] ∧ (SqL X.K H p ys ∨ SqT X.K H p ys) ∧ Q (.int ys.length) H) := by
  intro pins s σ H xs us Q I r h
  obtain ⟨p, ys, rfl, hq, q⟩ := h
  obtain ⟨u, rfl, rx⟩ := vals1 r
  cases rx
  have hn := line63
  rcases hq with hq | hq
  · obtain ⟨its, r', pl, hz⟩ := I.list hq
    have hlen := r'.length
    exact Calls.call_len_list pl.isList (by simp only [List.size_toArray] <;> omega) ⟨.int ys.length, H, I.tok _, ⟨s.toks + 1, by rw [List.size_toArray, hlen]⟩, q⟩
  · obtain ⟨its, r', pl, hz⟩ := I.tuple hq
    have hlen := r'.length
    exact len_tuple pl (by simp only [List.size_toArray] <;> omega) ⟨.int ys.length, H, I.tok _, ⟨s.toks + 1, by rw [List.size_toArray, hlen]⟩, q⟩
theorem CallR.or {f : Value} {r r' : List V → Hp → VK → Prop} (h : CallR X f r) (h' : CallR X f r') : CallR X f (fun xs H Q => r xs H Q ∨ r' xs H Q) := by
  intro pins s σ H xs us Q I rs q
  rcases q with q | q
  · exact h pins s σ H xs us Q I rs q
  · exact h' pins s σ H xs us Q I rs q
theorem call_tuple_of : CallR X (.type "tuple") (fun xs H Q => ∃ p ys, xs = [.ref p] ∧ ((SqL X.K H p ys ∧ ∀ l, H l = none → Q (.ref l) (upd H l (.tup ys))) ∨ (SqT X.K H p ys ∧ Q (.ref p) H))) := by
  intro pins s σ H xs us Q I r h
  obtain ⟨p, ys, rfl, h⟩ := h
  obtain ⟨u, rfl, rx⟩ := vals1 r
  cases rx
  rcases h with ⟨hq, q⟩ | ⟨hq, q⟩
  · obtain ⟨its, r', pl, hz⟩ := I.list hq
    have hlen := r'.length
    refine call_tuple_list pl.isList (fun h' kp => ?_) (by simp only [List.size_toArray] <;> omega)
    have I1 : Inv X pins σ H { s with heap := h' } := I.kept (t' := s.toks) kp
    have I2 : Inv X pins σ (upd H h'.objs.size (.tup ys)) { s with heap := h'.push { cls := .type "tuple", data := .seq its.toArray } } :=
      I1.laid (t' := s.toks) (fun b o e => Heap.get?_push_of_some _ e) (Nat.le_refl _) (show ObjOk X.prog X.w _ _ _ (.tup ys) from ⟨hz, its, r', IsTup.new _ _⟩)
    exact ⟨.ref h'.objs.size, _, I2, rfl, q _ (I1.hok.fresh (Nat.le_refl _))⟩
  · obtain ⟨its, r', pl, hz⟩ := I.tuple hq
    exact call_tuple_same pl ⟨.ref p, H, I, rfl, q⟩

/-! ### the call of a builtin's method: o.m(..) -/
/-- the value is of that builtin type -/
def tyV (K : PySem.W.Frag) (T : String) (x : V) (H : Hp) : Prop := match x with
  | .str _ => T = "str"
  | .int _ => T = "int"
  | .ref p => (T = "list" ∧ ∃ xs, SqL K H p xs) ∨ (T = "tuple" ∧ ∃ o, K.lookup p = some o ∧ o.cls = .type "tuple" ∧ o.dict = none) ∨
      (T = "dict" ∧ ((∃ kvs, H p = some (.dK kvs)) ∨ ∃ kvs, H p = some (.dT kvs))) ∨ (T = "set" ∧ ∃ S n, H p = some (.set S n))
  | _ => False
theorem tyV_is {pins : List (Addr × Obj)} {σ : St} {H : Hp} {s : Shared} {T : String} {x : V} {v : Value} (I : Inv X pins σ H s) (r : RelV x v) (ty : tyV X.K T x H) :
    s.TypeIs v T ∧ ∀ a, v = .ref a → ∃ ob, s.heap.get? a = some ob ∧ ob.dict = none := by
  cases x with
  | str z =>
    obtain ⟨t, rfl⟩ := r
    cases (show T = "str" from ty)
    exact ⟨typeIs_str s z t, fun _ e => nomatch e⟩
  | int i =>
    obtain ⟨t, rfl⟩ := r
    cases (show T = "int" from ty)
    exact ⟨typeIs_int s i t, fun _ e => nomatch e⟩
  | ref p =>
    cases r
    rcases ty with ⟨rfl, xs, hq⟩ | ⟨rfl, o, hk, hc, hd⟩ | ⟨rfl, hk⟩ | ⟨rfl, S, n, hk⟩
    · obtain ⟨its, _, pl, _⟩ := I.list hq
      refine ⟨pl.isList.typeIs, fun a e => ?_⟩
      cases e
      obtain ⟨o, n, e, c, hd, _⟩ := pl
      exact ⟨o, e, hd⟩
    · refine ⟨⟨o, I.kIn p o hk, hc⟩, fun a e => ?_⟩
      cases e
      exact ⟨o, I.kIn _ o hk, hd⟩
    · have z : ∃ o, s.heap.get? p = some o ∧ o.ExactDict := by
        rcases hk with ⟨kvs, hk⟩ | ⟨kvs, hk⟩
        · obtain ⟨_, _, _, _, o, _, _, e, ex, _⟩ := I.hok p _ hk
          exact ⟨o, e, ex⟩
        · obtain ⟨_, _, _, _, o, _, _, e, ex, _⟩ := I.hok p _ hk
          exact ⟨o, e, ex⟩
      obtain ⟨o, e, ex⟩ := z
      refine ⟨⟨o, e, ex.1⟩, fun a e2 => ?_⟩
      cases e2
      exact ⟨o, e, ex.2.1⟩
    · obtain ⟨o, _, _, _, e, ex, _⟩ := I.hok p _ hk
      refine ⟨⟨o, e, ex.1⟩, fun a e2 => ?_⟩
      cases e2
      exact ⟨o, e, ex.2.1⟩
  | _ => exact False.elim ty
def tBM (K : PySem.W.Frag) (T : String) (r : V → List V → Hp → VK → Prop) (to : TE) (t : TA) : TE := fun σ H Q => to σ H fun x H1 => tyV K T x H1 ∧ t σ H1 fun xs H2 => r x xs H2 Q
variable {o e : Expr} {es : List Expr} {to : TE} {t : TA} {name : Str} {apos cpos : Pos} {T id : String} {r : V → List V → Hp → VK → Prop}
theorem pe_bm (pa : PlainAttrs T) (slot : Slot T name id) (hty : typeOf (.builtin id) = pure (.type "method_descriptor")) (hm : MtR X id r) (ho : PE X o to) (ha : PA X (e :: es) t)
    (hbase : attributeBase o name X.env (eval o X.env) = eval o X.env := by rfl)
    (hfew : ((backTo cpos (starEach (e :: es) X.env)).all (fun x => !x.1) && (backToKw cpos (keywordEach [] X.env)).all (fun x => x.1.isSome)
      && decide ((e :: es).length + ([] : List Keyword).length + (if ([] : List Keyword).isEmpty then 0 else 1) < 30)) = true := by rfl)
    (hline : (apos.endLine == cpos.line) = true := by rfl) (hs : starEach (e :: es) X.env = (false, eval e X.env) :: starEach es X.env := by rfl) (hplain : (backTo cpos (starEach es X.env)).any (·.1) = false := by rfl) :
    PE X (.Call (.Attribute o name apos) (e :: es) [] cpos) (tBM X.K T r to t) := by
  intro pins s σ H Q I h
  refine wpAny_Call_method_late hbase hfew hline rfl (thn (ho pins s σ H _ I h) fun v s1 ⟨x, H1, I1, r1, ty, q1⟩ => ?_)
  obtain ⟨h1, h2⟩ := tyV_is I1 r1 ty
  refine ⟨T, id, pa, slot, hty, h1, h2, ?_⟩
  have hA := ha cpos pins s1 σ H1 _ I1 q1
  rw [hs] at hA ⊢
  refine Calls.callWith_builtin (by show (false || (backTo cpos (starEach es X.env)).any (·.1)) = false; rw [hplain] <;> rfl) (Calls.evalArgs_plain ?_)
  exact thn hA fun us s2 ⟨vs, H2, I2, r2, q2⟩ => hm pins s2 σ H2 x vs v us Q I2 r1 r2 q2
/- xs.append(e), list.index on a module's tuple .. are MtR facts of 06m -/
end
end L2

namespace L2
open PySem PySem.Spec PyProof.Rows

def MtM (X : Cx) (id : String) (r : V → List V → Hp → VK → Prop) : Prop :=
  ∀ (pins : List (Addr × Obj)) (s : Shared) (σ : St) (H : Hp) (x : V) (xs : List V) (v : Value) (us : List Value) (Q : VK), Inv X pins σ H s → RelV x v → Vals xs us → r x xs H Q →
    wpAny (model X.prog X.w) X.A (call (.builtin id) (v :: us)) (EP X pins σ Q) X.xe s

/-! ### lists of values -/
theorem Vals.one : ∀ {x : V} {us : List Value}, Vals [x] us → ∃ u, us = [u] ∧ RelV x u
  | _, _, .cons r .nil => ⟨_, rfl, r⟩
theorem Vals.two : ∀ {x y : V} {us : List Value}, Vals [x, y] us → ∃ u v, us = [u, v] ∧ RelV x u ∧ RelV y v
  | _, _, _, .cons r (.cons q .nil) => ⟨_, _, rfl, r, q⟩
theorem Vals.zero : ∀ {us : List Value}, Vals [] us → us = []
  | _, .nil => rfl
theorem Vals.reverse {xs : List V} {us : List Value} (h : Vals xs us) : Vals xs.reverse us.reverse := by
  induction h with
  | nil => exact .nil
  | cons r t ih => rw [List.reverse_cons, List.reverse_cons]; exact Vals.append ih (.cons r .nil)
theorem Vals.rep {xs : List V} {us : List Value} (h : Vals xs us) : ∀ k : Nat, Vals (List.replicate k xs).flatten (List.replicate k us).flatten
  | 0 => .nil
  | k + 1 => by
    rw [List.replicate_succ, List.replicate_succ, List.flatten_cons, List.flatten_cons]
    exact Vals.append h (Vals.rep h k)
theorem foldl_rep (its : List Value) : ∀ (k : Nat) (acc : List Value),
    List.foldl (fun x1 x2 => x1 ++ x2) acc.toArray (List.replicate k its.toArray) = (acc ++ (List.replicate k its).flatten).toArray
  | 0, acc => by simp
  | k + 1, acc => by
    have e : acc.toArray ++ its.toArray = (acc ++ its).toArray := by simp
    have e2 : (acc ++ its) ++ (List.replicate k its).flatten = acc ++ (List.replicate (k + 1) its).flatten := by
      rw [List.replicate_succ, List.flatten_cons, List.append_assoc]
    rw [← e2, ← foldl_rep its k (acc ++ its), ← e, List.replicate_succ, List.foldl_cons]

section
variable {X : Cx} {pins : List (Addr × Obj)} {σ : St} {H : Hp} {s : Shared} {l b : Addr} {xs ys zs : List V}

/-! ### the two steps: a tracked list is rewritten, a new list is laid -/
theorem Inv.lset {its its' : List Value} {n : Nat} {f : Array Value → Array Value} {t' : Nat} (I : Inv X pins σ H s) (hH : H l = some (.lst xs))
    (e : s.heap.get? l = some { cls := .type "list", data := .seq its.toArray n }) (hf : f its.toArray = its'.toArray) (hv : Vals ys its') (hz : ys.length ≤ sizeLine) :
    Inv X pins σ (upd H l (.lst ys)) { s with heap := s.heap.update l (Obj.mapSeq f), toks := t' } := by
  have q := PySem.IsL.update e f
  rw [hf] at q
  refine I.write (x := l) (e := l) (by rw [hH]; exact trivial) (.inl rfl) (fun b' u hb hu => (Heap.get?_update_other s.heap (Obj.mapSeq f) (Ne.symm hb)).trans hu) ⟨_, q⟩ ?_
  exact ⟨hz, its', _, hv, q⟩
theorem Inv.lnew {its : List Value} {t' : Nat} (I : Inv X pins σ H s) (hv : Vals ys its) (hz : ys.length ≤ sizeLine) :
    Inv X pins σ (upd H s.heap.objs.size (.lst ys)) { s with heap := s.heap.push { cls := .type "list", data := .seq its.toArray }, toks := t' } :=
  I.laid (fun _ _ q => Heap.get?_push_of_some _ q) (Nat.le_refl _) ⟨hz, its, 0, hv, Heap.get?_push_size _ rfl⟩
theorem Inv.fresh (I : Inv X pins σ H s) : H s.heap.objs.size = none := I.hok.fresh (Nat.le_refl _)
theorem Inv.lstM (I : Inv X pins σ H s) (hH : H l = some (.lst xs)) : xs.length ≤ sizeLine ∧ ∃ (its : List Value) (n : Nat), Vals xs its ∧ xs.length = its.length ∧ s.heap.get? l = some { cls := .type "list", data := .seq its.toArray n } := by
  obtain ⟨z, its, n, r, e⟩ := I.hok l _ hH
  exact ⟨z, its, n, r, r.length, e⟩

theorem notLongL {n : Nat} (h : n ≤ sizeLine) : Builtin.List.listTooLong n = false := by
  unfold Builtin.List.listTooLong
  exact decide_eq_false (by omega)
end

section
variable {X : Cx}

/-! ### methods -/
def rAppend : V → List V → Hp → VK → Prop := fun x vs H Q => ∃ l xs y, x = .ref l ∧ vs = [y] ∧ H l = some (.lst xs) ∧ xs.length < sizeLine ∧ Q .non (upd H l (.lst (xs ++ [y])))
theorem mt_append : MtM X "list.append" rAppend := by
  intro pins s σ H x vs v us Q I rx rv h
  obtain ⟨l, xs, y, rfl, rfl, hH, hz, q⟩ := h
  cases rx
  obtain ⟨u, rfl, ru⟩ := rv.one
  obtain ⟨z, its, n, r, hl, e⟩ := I.lstM hH
  refine call_meets F.slot_list_append ⟨_, e, rfl⟩ F.entry_list_append (F.args_list_append_2 _ _) (PySem.list_append l its.toArray n u (by rw [List.size_toArray]; omega)) ⟨e, ?_⟩
  refine ⟨.non, _, I.lset (its' := its ++ [u]) hH e (by simp) (r.append (.cons ru .nil)) ?_, rfl, q⟩
  rw [List.length_append, List.length_singleton]
  omega

/-! ### list + list, list += list, list * int -/
def rCat : R2 := fun x y H Q => ∃ l b xs zs, x = .ref l ∧ y = .ref b ∧ H l = some (.lst xs) ∧ H b = some (.lst zs) ∧ xs.length + zs.length ≤ sizeLine ∧ ∀ p, H p = none → Q (.ref p) (upd H p (.lst (xs ++ zs)))
theorem op_cat : OpR X (binaryOp .Add) rCat := by
  intro pins s σ H x y v u Q I rx ry h
  obtain ⟨l, b, xs, zs, rfl, rfl, hH, hB, hz, q⟩ := h
  cases rx
  cases ry
  obtain ⟨z, its, n, r, hl, e⟩ := I.lstM hH
  obtain ⟨z2, its2, n2, r2, hl2, e2⟩ := I.lstM hB
  refine PySem.P.add_list e e2 ?_ (by rw [List.size_toArray, List.size_toArray]; omega)
  have ea : its.toArray ++ its2.toArray = (its ++ its2).toArray := by simp
  rw [ea]
  exact ⟨.ref _, _, I.lnew (t' := s.toks) (r.append r2) (by rw [List.length_append]; omega), rfl, q _ I.fresh⟩
/-- a list times an int (a negative one is nothing) -/
def rRep : R2 := fun x y H Q => ∃ l k xs, x = .ref l ∧ y = .int k ∧ H l = some (.lst xs) ∧ -(2 ^ 63) ≤ k ∧ k < 2 ^ 63 ∧ xs.length * k.toNat ≤ sizeLine ∧
  ∀ p, H p = none → Q (.ref p) (upd H p (.lst (List.replicate k.toNat xs).flatten))
theorem len_rep {α : Type} (xs : List α) (k : Nat) : (List.replicate k xs).flatten.length = k * xs.length := by
  induction k with
  | zero => simp
  | succ k ih => rw [List.replicate_succ, List.flatten_cons, List.length_append, ih, Nat.succ_mul, Nat.add_comm]
theorem op_rep : OpR X (binaryOp .Mult) rRep := by
  intro pins s σ H x y v u Q I rx ry h
  obtain ⟨l, k, xs, rfl, rfl, hH, h1, h2, hz, q⟩ := h
  cases rx
  obtain ⟨t, rfl⟩ := ry
  obtain ⟨z, its, n, r, hl, e⟩ := I.lstM hH
  have hlen : its.toArray.size * k.toNat ≤ sizeLine := by rw [List.size_toArray, ← hl]; exact hz
  have hcap : ¬ its.toArray.size * k.toNat > (2 ^ 63 - 1) / 8 := by
    have : (sizeLine : Nat) ≤ (2 ^ 63 - 1) / 8 := by decide
    omega
  have hfit : ¬ (!Builtin.List.listFitsIndex k) = true := by
    rw [fitsIndex_both h1 h2]
    exact Bool.false_ne_true
  have hlong : ¬ Builtin.List.listTooLong (its.toArray.size * k.toNat) = true := by
    rw [notLongL hlen]
    exact Bool.false_ne_true
  have hnew : List.foldl (fun x1 x2 => x1 ++ x2) #[] (List.replicate (if its.toArray.isEmpty = true then 0 else k.toNat) its.toArray) = (List.replicate k.toNat its).flatten.toArray := by
    have f0 : ∀ m : Nat, List.foldl (fun x1 x2 => x1 ++ x2) #[] (List.replicate m its.toArray) = (List.replicate m its).flatten.toArray := fun m => by
      have := foldl_rep its m []
      rw [List.nil_append] at this
      exact this
    rw [f0]
    cases its with
    | nil => simp
    | cons a r' => rw [if_neg (by simp)]
  refine wpAny_binaryOp_repeat_ref (T := "list") (U := "int") (by decide) ⟨_, e, rfl⟩ (fun s' => typeIs_int s' k t) noFill_list_mul F.fills_int_mul F.slot_int_rmul repeat_list F.slot_int_index.lookup
    (call_meets F.slot_int_rmul (typeIs_int s k t) F.entry_int_rmul (F.args_int_rmul_2 _ _) (int___rmul___int_list k t l its.toArray n)
      ⟨e, rfl, ⟨_, e, rfl⟩, call_meets F.slot_list_mul ⟨_, e, rfl⟩ F.entry_list_mul (F.args_list_mul_2 _ _) (AutoListH.list___mul___list_int_3 l its.toArray n k t hfit hcap hlong) ⟨e, ?_⟩⟩)
  rw [hnew]
  exact ⟨.ref _, _, I.lnew (t' := s.toks) (r.rep k.toNat) (by rw [len_rep, Nat.mul_comm]; exact hz), rfl, q _ I.fresh⟩

/-! ### del xs[i] -/
end

/-! ### xs[a:b] = ys -/
section
variable {prog : Program} {w : World} {A : Around} {E : Value → Shared → Prop} {s : Shared}
end

section
variable {X : Cx}
end
end L2

namespace Att
open PySem PySem.W PySem.Calls PyProof.Rows

/-! ### the script -/
theorem ints_of_wellAll {P : Params} {h : Heap} : ∀ (ns : List Int) (vs : List Value), WellAll P h vs (ns.map WData.int) → IntsAre vs ns := by
  intro ns
  induction ns with
  | nil =>
    intro vs w
    rw [List.map_nil] at w
    cases w
    exact .nil
  | cons n ns ih =>
    intro vs w
    rw [List.map_cons] at w
    cases w with
    | cons a b =>
      cases a
      exact .cons _ _ (ih _ b)

theorem script_of {l : OpenLaw} {n : Nat} (hn : l.most = some n) {P : Params} {h : Heap} {args : List WData} {vals : List Value}
    (hpre : l.row.toRowW.claim.pre args = true) (hwl : WellAll P h vals args) :
    ∃ a vs ns, vals = [Value.ref a] ∧ args = [WData.list (ns.map WData.int)] ∧ h.get? a = some { cls := .type "list", data := .seq vs.toArray } ∧ IntsAre vs ns ∧ ns.length ≤ n := by
  have hsh : WShape.hasAll [] args [.list .int] = true := (pre_splitW hpre).1
  have hc : l.pre.holds [] { args := args } = true := (pre_splitW hpre).2
  obtain ⟨d, r, rfl, h1, h2⟩ := hasAllW_cons hsh
  obtain rfl := hasAllW_nil h2
  obtain ⟨xs, rfl, h3⟩ := hasW_list h1
  obtain ⟨ns, rfl⟩ := items_int h3
  have hlen : ns.length ≤ n := by
    unfold OpenLaw.pre at hc
    have h4 : (WTm.not (.lt (.lit (.int (n : Int))) (.len (.arg 0)))).holds [] { args := [.list (ns.map .int)] } = true := by
      have h4 := (holds_andW hc).1
      rw [hn] at h4
      exact h4
    have h5 := condW_of h4 (w_not (w_lt w_lit (w_len_list (w_arg rfl))))
    rw [List.length_map] at h5
    refine Nat.le_of_not_lt fun q => ?_
    have q' : (n : Int) < ((ns.length : Nat) : Int) := by omega
    first
      | (rw [decide_eq_true q'] at h5; exact absurd h5 (by decide))
      | (simp at h5; omega)
  cases hwl with
  | cons w1 w2 =>
    cases w2
    cases w1 with
    | list ho hall => exact ⟨_, _, ns, rfl, rfl, ho, ints_of_wellAll ns _ hall, hlen⟩

theorem post_true (l : OpenLaw) (args : List WData) : l.row.toRowW.claim.post args (.bool true) args = true :=
  postW_of (r := l.row.toRowW) (X := (true == true))
    (show WShape.has [] (.bool true) .bool = true by first | rfl | decide | simp [WShape.has, WShape.arms, WShape.armsAll])
    (show (WTm.eq .res (.lit (.bool true))).value [] { args := args, res := some (.bool true), after := args } = some (.bool (true == true)) from w_eq_bool (w_res rfl) w_lit) rfl

/-! ### the attachment: holds_open's last premise (the goal 'hc' behind k_head) from a wpAny of the law's body -/
/-- the same from a codeAny of the CALL (for a layer whose function contracts speak of calls) -/
theorem attach_call {l : OpenLaw} {n : Nat} {q : Program} {loose : List Str} {XP : (Str → Option Value) → Heap → Prop} {YP : World → Heap → Prop} {d : DefRec}
    (hn : l.most = some n) (hdf : d.params.defaults = [])
    (call : ∀ (w : World) (s₀ s₁ : Shared) (mg mb : Str → Option Value) (fa : Addr) (o : Obj) (pm cd doc : Value) (a : Addr) (vs : List Value) (ns : List Int),
      Ground q loose [] XP w s₀ mg mb s₁.heap → YP w s₁.heap →
      s₁.heap.get? fa = some o → o.data = .func (docDef d.name d.params d.body d.scope pm cd doc) → s₁.heap.CodeRec cd d.name → mg d.name = some (.ref fa) →
      s₁.heap.get? a = some { cls := .type "list", data := .seq vs.toArray } → IntsAre vs ns → ns.length ≤ n → s₁.gens = #[] →
      codeAny (model l.prog w) callerA (.call (.ref fa) ⟨[.ref a], []⟩) (fun r s' => r = .ok (.ret (.bool true)) ∧ OldK s₁.heap s'.heap ∧ s'.os = s₁.os ∧ AllBare s'.gens) s₁) :
    WalkO q loose XP YP l.row.toRowW d [] (fun f vs => PySem.call f vs) := by
  intro w s₀ s₁ mg mb G Y fa o pm cd doc dV kV ho hd hcd hD hmg hg args vals as hpre hlay hrd hwl hlo
  obtain rfl : dV = .none := Dflts.none hD hdf
  obtain rfl : kV = .none := Dflts.noKw hD
  obtain ⟨a, vs, ns, rfl, rfl, hobj, hints, hlen⟩ := script_of hn hpre hwl
  refine enter_call (codeAny_mono (call w s₀ s₁ mg mb fa o pm cd doc a vs ns G Y ho (fd_plain hd) hcd hmg hobj hints hlen hg) fun r s' hq => ?_)
  obtain ⟨rfl, h2, h3, h4⟩ := hq
  exact ⟨.inl ⟨.bool true, .bool true, [], rfl, fun _ => rfl, .bool true, post_true l _, fun _ => ⟨List.Pairwise.nil, fun _ hm => (nomatch hm)⟩⟩, h2, h3, h4⟩

/-! ### rules over ANY heap (no ledger) from facts about the written part K: the library's own take a ledger (News) for what they write -/
section
variable {prog : Program} {w : World} {A : Around} {E : Value → Shared → Prop} {s : Shared} {K : Frag}

/-! the whole heap as the ledger: makes every rule that writes through a ledger a rule over any heap -/
def ledger (h : Heap) (L d : Addr) : List (Addr × Obj) := (List.range h.objs.size).filterMap fun a => if a = L ∨ a = d then none else (h.get? a).map fun o => (a, o)
end
end Att

namespace L2
open PySem PySem.Spec PyProof.Rows

theorem vals_ints : ∀ {vs : List Value} {ns : List Int}, IntsAre vs ns → Vals (ns.map V.int) vs
  | _, _, .nil => .nil
  | _, _, .cons n t h => .cons ⟨t, rfl⟩ (vals_ints h)

/-- nothing is tracked but the script, known to the object (or it is an object of the module) -/
def Only (H : Hp) : Prop := ∀ b, H b = none ∨ ∃ o xs, H b = some (.frz o (.lst xs))

/-- THE HEAD: the law's promise, at the heap behind the top. F, the promise of the law's def, may use that base is part of the heap (so K.In base, base.Ns mainGlobals mg stand in Mod) -/
theorem law_call {P : Program} {w : World} {K : PySem.W.Frag} {mg mb : Str → Option Value} {CX : CXT} {k : Nat} {fa a : Addr} {fd : FuncData} {x : Str} {sp : Sp} {s₁ : Shared} {vs : List Value} {ns : List Int}
    (KX : K.In s₁.heap) (hns : s₁.heap.Ns mainGlobals mg) (hb : s₁.heap.Ns builtinsNs mb) (hbb : ∀ x : Str, x ≠ "__name__" → mb x = bootBuiltins x) (hlim : s₁.heap.NoLimit) (hg : s₁.gens = #[])
    (ha : s₁.heap.get? a = some { cls := .type "list", data := .seq vs.toArray }) (hi : IntsAre vs ns) (hl : ns.length ≤ sizeLine) (hr : Room k callerA)
    (F : ∀ base : Heap, K.In base → base.Ns mainGlobals mg → FnOk P w K mg base CX k fa fd [x] sp) (hbind : ∀ (s : Shared) (u : Value), BindsTo s fd ⟨[u], []⟩ [(x, u)])
    (hsp : ∀ H : Hp, Only H → SqL K H a (ns.map V.int) → sp [.ref a] H (fun v _ => v = .bl true) fun _ _ _ => False)
    (hCX : ∀ H e s', CX [] H s₁ (fun _ _ _ => False) e s' → False) :
    codeAny (model P w) callerA (.call (.ref fa) ⟨[.ref a], []⟩) (fun r s' => r = .ok (.ret (.bool true)) ∧ OldK s₁.heap s'.heap ∧ s'.os = s₁.os ∧ AllBare s'.gens) s₁ := by
  have rv := vals_ints hi
  have lenV := hi.length
  -- from an abstract heap in which nothing but the script may be tracked
  have core : ∀ H : Hp, Only H → SqL K H a (ns.map V.int) → HOk P w H s₁.heap → (∀ b, H b ≠ none → b = a) → (H a ≠ none → K.lookup a = none) →
      codeAny (model P w) callerA (.call (.ref fa) ⟨[.ref a], []⟩) (fun r s' => r = .ok (.ret (.bool true)) ∧ OldK s₁.heap s'.heap ∧ s'.os = s₁.os ∧ AllBare s'.gens) s₁ := by
    intro H hO hS hok hA hK
    have base_of : ∀ {b : Addr} {o : Obj}, s₁.heap.get? b = some o → H b = none → (hidT s₁.heap H).get? b = some o := fun e n => hidT_get e n
    have noA : ∀ {b : Addr} {o : Obj} {es : Array DictEntry} {ep : Nat}, s₁.heap.get? b = some o → o.data = .dict es ep → H b = none := fun {b o es ep} e d => by
      cases q : H b with
      | none => rfl
      | some u =>
        have e' : b = a := hA b (by rw [q]; simp)
        subst e'
        rw [ha] at e; cases e
        have d' : Data.seq vs.toArray _ = Data.dict es ep := d
        cases d'
    have nsK : ∀ {b : Addr} {m : Str → Option Value}, s₁.heap.Ns b m → (hidT s₁.heap H).Ns b m := fun {b m} ⟨o, es, ep, e, d, r⟩ => ⟨o, es, ep, base_of e (noA e d), d, r⟩
    have hKb : K.In (hidT s₁.heap H) := fun b o e => base_of (KX b o e) (by
      cases q : H b with
      | none => rfl
      | some u =>
        have e' : b = a := hA b (by rw [q]; simp)
        subst e'
        rw [hK (by rw [q]; simp)] at e; cases e)
    have hM : Mod K mg (hidT s₁.heap H) := ⟨hKb, nsK hns, ⟨mb, nsK hb, hbb⟩, let ⟨mc, h1, h2⟩ := hlim; ⟨mc, nsK h1, h2⟩⟩
    have e0 : Env0 P w K mg (hidT s₁.heap H) callerA [] s₁ H := ⟨rfl, hM, fun b o e => of_hidT e, Nat.le_of_eq (hidT_size _ _), trivial, fun b hb => absurd (show b ∈ ([] : List Addr) from hb) (by simp), hok, .of_eq hg⟩
    refine codeAny_mono ((F _ hKb (nsK hns)).run callerA [] s₁ H ⟨[.ref a], []⟩ [.ref a] [.ref a] _ _ hr e0 (hbind s₁ (.ref a)) (.cons rfl .nil) (hsp H hO hS)) fun r s' h => ?_
    cases r with
    | error e => exact (hCX H e s' h).elim
    | ok fl =>
      cases fl with
      | next => exact False.elim h
      | brk => exact False.elim h
      | cont => exact False.elim h
      | ret u =>
        obtain ⟨v, H', os, bare, un, hok', r', q⟩ := h
        have q' : v = .bl true := q
        subst q'
        obtain rfl : u = Value.bool true := r'
        refine ⟨rfl, OldK.of_keep fun b o e => ?_, os, bare⟩
        cases q : H b with
        | none => exact un.keep b o e q (by intro z; exact absurd (show b ∈ ([] : List Addr) from z) (by simp)) (by simp)
        | some u =>
          rcases hO b with z | ⟨ob, xs, z⟩
          · rw [q] at z; cases z
          · have z2 := un.frzs b ob _ z
            obtain ⟨e1, _⟩ := hok b _ z
            obtain ⟨e2, _⟩ := hok' b _ z2
            rw [e] at e1; cases e1
            exact e2
  cases hk : K.lookup a with
  | some o =>
    -- the script is one of the module's own objects
    have e := KX a o hk
    rw [ha] at e
    cases e
    refine core (fun _ => none) (fun _ => .inl rfl) (.inr ⟨_, vs.toArray, _, hk, rfl, rfl, rfl, by rw [List.size_toArray, lenV]; exact hl, by simpa using rv⟩) (fun b u z => by have z' : (none : Option HO) = some u := z; cases z') (fun b z => absurd rfl z) fun z => absurd rfl z
  | none =>
    refine core (fun b => if b = a then some (.frz { cls := .type "list", data := .seq vs.toArray } (.lst (ns.map V.int))) else none) (fun b => ?_) (.inl (.inr ⟨{ cls := .type "list", data := .seq vs.toArray }, if_pos rfl⟩)) (fun b u z => ?_) (fun b z => ?_) fun _ => hk
    · by_cases hb : b = a
      · exact .inr ⟨_, _, if_pos hb⟩
      · exact .inl (if_neg hb)
    · by_cases hb : b = a
      · have z' := (if_pos hb).symm.trans z
        cases z'
        subst hb
        exact ⟨ha, by rw [List.length_map]; exact hl, vs, _, rv, ha⟩
      · have z' := (if_neg hb).symm.trans z
        cases z'
    · by_cases hb : b = a
      · exact hb
      · exact absurd (if_neg hb) z
end L2

namespace L2
open PySem PySem.Spec PyProof.Rows

abbrev KOf {K : PySem.W.Frag} {h : Heap} (_ : K.In h) : PySem.W.Frag := K

/-- the goal that k_head leaves (case hc), from the law's promise. F gives the function object fd (K's own) once, then the promise over every base -/
theorem walk_of {l : PySem.W.OpenLaw} {n k : Nat} {q : Program} {loose : List Str} {XP : (Str → Option Value) → Heap → Prop} {YP : World → Heap → Prop} {d : DefRec} {K : Params → PySem.W.Frag} {CX : World → CXT} {sp : World → Sp} {x : Str}
    (hn : l.most = some n) (hn2 : n ≤ sizeLine) (hdf : d.params.defaults = []) (hr : Room k callerA)
    (hY : ∀ (w : World) (h : Heap), YP w h → (K w.params).In h)
    (F : ∀ (w : World) (mg : Str → Option Value) (fa : Addr) (h : Heap), (K w.params).In h → h.Ns mainGlobals mg → mg d.name = some (.ref fa) →
      ∃ fd : FuncData, (∀ (s : Shared) (u : Value), BindsTo s fd ⟨[u], []⟩ [(x, u)]) ∧
        ∀ base : Heap, (K w.params).In base → base.Ns mainGlobals mg → FnOk l.prog w (K w.params) mg base (CX w) k fa fd [x] (sp w))
    (hsp : ∀ (w : World) (H : Hp) (a : Addr) (ns : List Int), ns.length ≤ n → Only H → SqL (K w.params) H a (ns.map V.int) → sp w [.ref a] H (fun v _ => v = .bl true) fun _ _ _ => False)
    (hCX : ∀ (w : World) (H : Hp) (s : Shared) (e : Value) (s' : Shared), CX w [] H s (fun _ _ _ => False) e s' → False) :
    PySem.W.WalkO q loose XP YP l.row.toRowW d [] (fun f vs => PySem.call f vs) := by
  refine Att.attach_call hn hdf fun w s₀ s₁ mg mb fa o pm cd doc a vs ns G Y ho hd hcd hmg hobj hints hlen hg => ?_
  have KX := hY w _ Y
  obtain ⟨fd, hb, hF⟩ := F w mg fa _ KX G.T.g hmg
  exact law_call KX G.T.g G.T.b G.T.builtins G.T.nolimit hg hobj hints (Nat.le_trans hlen hn2) hr hF hb (fun H hO hS => hsp w H a ns hlen hO hS) fun H e s' => hCX w H s₁ e s'
end L2

/- THE LAST THEOREM (shape; LID, My.* are yours):
   My.Adr: a structure of the addresses that your layer names (classes, functions); My.Txt K t: a structure (Prop) of the equations over K;
   My.txt_mk : {K} {implicit addresses ..} (e1 : nsIn K mainGlobals "law" = some (some (.ref f))) (e2 : K.lookup f = some ⟨oc, od, .func (fnOf "law" "law" params body scope dV kV doc pm an cdv ct), sl⟩) (e3 : codeIn K cdv "law" = true) .. : ∃ t, My.Txt K t

set_option maxRecDepth 100000 in
set_option maxHeartbeats 0 in
theorem PySem.Challenge.cw_LID_holds : PySem.Challenge.rw_LID.Holds := by
  w_on; o_law; k_head; (case hw => w_witness2)
  k_fill
  refine L2.walk_of (l := PySem.Challenge.rw_LID) (n := 63) (k := 40) (x := "script") (CX := fun w => ..) (sp := fun _ => My.sp_law) rfl (by decide) rfl ⟨rfl, by decide, by decide⟩ (fun w h Y => PySem.W.kIn_of Y) ?F ?S ?C
  case F =>
    intro w mg fa h KX G hmg
    have T : ∃ t, My.Txt (L2.KOf KX) t := by
      dsimp only [L2.KOf]                          -- K must stand as «<heap const> w.params» for k_is
      refine' My.txt_mk ?e1 ?e2 ?e3 ..
      (case e1 => PySem.W.k_is)                    -- in the order: a name -> its address -> its object -> its parts
      (case e2 => PySem.W.k_is)
      ..
    obtain ⟨t, T⟩ := T
    have e0 := hmg.symm.trans (PySem.W.mg_of KX G T.law)
    cases e0                                       -- fa is the law's own address
    exact ⟨_, fun s u => .of_eq rfl, fun base kb nb => My.law_fn T kb nb⟩     -- if «.of_eq rfl» comes too early: refine' ⟨_, ?b, fun base kb nb => My.law_fn T kb nb⟩; exact fun s u => .of_eq rfl
  case S => exact fun w H a ns hl hO hS => ..
  case C => exact ..
(the tactic k_is has no namespace: write k_is) -/

/-! SHORT WORDS over the layer: a def of the text, its body, what a loop and a test want. -/
namespace L2
open PySem PySem.Spec PyProof.Rows

/-! ### the text by places -/
def defArgs (s : Stmt) : Arguments := match s with
  | .FunctionDef _ a _ _ _ _ _ _ _ _ => a
  | _ => { posonlyargs := [], args := [], vararg := none, kwonlyargs := [], kw_defaults := [], kwarg := none, defaults := [] }
def defBody (s : Stmt) : List Stmt := match s with
  | .FunctionDef _ _ b _ _ _ _ _ _ _ => b
  | _ => []
def defScope (s : Stmt) : Scope := match s with
  | .FunctionDef _ _ _ _ _ _ sc _ _ _ => sc
  | _ => { kind := .function, names := [], isGenerator := false, isCoroutine := false }

/-! ### no exception leaves a def -/
abbrev CX0 : CXT := fun _ _ _ _ _ _ => False
abbrev E0 : XK := fun _ _ _ => False
theorem pass0 {X : Cx} : Passes CX0 X E0 := fun _ _ _ _ _ _ _ h => h.elim

/-! ### a def (or method) of the text as it stands behind the top -/
structure Fun (K : PySem.W.Frag) (x qual : Str) (st : Stmt) (f : Addr) (fd : FuncData) : Prop where
  ex : ∃ (oc : Value) (od : Option Addr) (kV doc pm : Value) (an : Option Addr) (cdv ct : Value) (osl : Array (Option Value)),
    fd = PySem.W.fnOf x qual (defArgs st) (defBody st) (defScope st) .none kV doc pm an cdv ct ∧ K.lookup f = some ⟨oc, od, .func fd, osl⟩ ∧ PySem.W.codeIn K cdv qual = true
  kp : PySem.W.keepIn K (.ref f) = true
section
variable {P : Program} {w : World} {K : PySem.W.Frag} {mg : Str → Option Value} {base : Heap}
/-- THE RULE for a def: its body as a term of rules, and the reading of that term -/
theorem Fun.ok {x qual : Str} {st : Stmt} {f : Addr} {fd : FuncData} {N ps : List Str} {k : Nat} {sp : Sp} (F : Fun K x qual st f fd) (S : FnScope N ps (defScope st)) (len : ∀ vs H Q E, sp vs H Q E → vs.length = ps.length)
    (hbody : ∀ (cdv : Value) (A : Around) (outer : List Env) (s : Shared) (H : Hp) (vs : List V) (Q : VK) (E : XK), Room k (A.deeper (envOfC qual (defScope st) s.heap.objs.size f cdv)) → sp vs H Q E →
      ∃ t, PSs (cxOf CX0 P w K mg base N qual (defScope st) f cdv A outer s H E).nox (defBody st) t ∧ t { nx := fun _ H' => Q .non H', rt := Q } (start N vs) H) : FnOk P w K mg base CX0 (k + 1) f fd ps sp := by
  obtain ⟨oc, od, kV, doc, pm, an, cdv, ct, osl, rfl, lk, hcd⟩ := F.ex
  refine fn_of lk hcd S len fun A outer s H vs Q E hr hsp => ?_
  obtain ⟨t, h, q⟩ := hbody cdv A outer s H vs Q E hr hsp
  exact ⟨t, h.nox, q⟩
/-- how its arguments bind (no defaults): h is «fun _ _ _ _ _ _ us hl => match us, hl with | [_, _], _ => rfl», one _ a parameter -/
theorem Fun.binds {x qual : Str} {st : Stmt} {f : Addr} {fd : FuncData} {ps : List Str} (F : Fun K x qual st f fd)
    (h : ∀ (kV doc pm : Value) (an : Option Addr) (cdv ct : Value) (us : List Value), us.length = ps.length → bindArgs (PySem.W.fnOf x qual (defArgs st) (defBody st) (defScope st) .none kV doc pm an cdv ct) ⟨us, []⟩ = pure (ps.zip us)) : Binds K fd ps [] := by
  obtain ⟨oc, od, kV, doc, pm, an, cdv, ct, osl, rfl, lk, hcd⟩ := F.ex
  exact .all (h kV doc pm an cdv ct)
theorem fun_mk {x qual : Str} {st : Stmt} {f : Addr} {oc : Value} {od an : Option Addr} {osl : Array (Option Value)} {kV doc pm cdv ct : Value} (l : K.lookup f = some ⟨oc, od, .func (PySem.W.fnOf x qual (defArgs st) (defBody st) (defScope st) .none kV doc pm an cdv ct), osl⟩)
    (c : PySem.W.codeIn K cdv qual = true) (k : PySem.W.keepIn K (.ref f) = true) : Fun K x qual st f (PySem.W.fnOf x qual (defArgs st) (defBody st) (defScope st) .none kV doc pm an cdv ct) := ⟨⟨oc, od, kV, doc, pm, an, cdv, ct, osl, rfl, l, c⟩, k⟩
end
/-! ### expressions in short: the name that stands in the i-th slot -/
section
variable {X : Cx}
theorem pv (i : Nat) {x : Str} {pos : Pos} (hN : X.N[i]? = some x := by rfl) (hv : Vis X.env.scope x := by first | exact Or.inl rfl | exact Or.inr (Or.inl rfl) | exact Or.inr (Or.inr rfl)) (hd : (x == ("__debug__" : Str)) = false := by decide)
    (hcd : (x == ("__classdict__" : Str)) = false := by decide) : PE X (.Name x pos) (tVar i) := pe_var hN hv hd hcd
end

/-! ### tests -/
theorem iteF {A B : Prop} (h : B) : if false = true then A else B := by
  rw [if_neg Bool.false_ne_true]
  exact h
theorem iteT {A B : Prop} (h : A) : if true = true then A else B := by
  rw [if_pos rfl]
  exact h
theorem ite2 {c A B : Prop} [Decidable c] (h1 : c → A) (h2 : ¬ c → B) : if c then A else B := by
  by_cases h : c
  · rw [if_pos h]
    exact h1 h
  · rw [if_neg h]
    exact h2 h
theorem iteNS {c A B : Prop} [Decidable c] (hc : c) (h : B) : if (!decide c) = true then A else B := by
  rw [decide_eq_true hc]
  exact iteF h

/-! ### heaps -/
/-- all that was tracked is as it was -/
def Same (H H' : Hp) : Prop := ∀ b o, H b = some o → H' b = some o
theorem Same.refl (H : Hp) : Same H H := fun _ _ h => h
theorem Same.trans {H H1 H2 : Hp} (a : Same H H1) (b : Same H1 H2) : Same H H2 := fun c o h => b c o (a c o h)
theorem Same.free {H H' : Hp} (e : Same H H') {l : Addr} (h : H' l = Option.none) : H l = Option.none := by
  cases q : H l with
  | none => rfl
  | some o =>
    rw [e l o q] at h
    cases h
theorem Same.seq {K : PySem.W.Frag} {H H' : Hp} {a : Addr} {xs : List V} (e : Same H H') (h : SqL K H a xs) : SqL K H' a xs := by
  rcases h with (h | ⟨o, h⟩) | h
  · exact .inl (.inl (e _ _ h))
  · exact .inl (.inr ⟨o, e _ _ h⟩)
  · exact .inr h

end L2

namespace L2
open PySem PySem.Spec PyProof.Rows

/-! ### comprehensions: a clause's body, the clauses, the block -/
/-- the body of a comprehension from some place on; N: what stands behind it -/
abbrev TB := St → Hp → (St → Hp → Prop) → Prop
/-- the tests of a clause -/
def PTs (X : Cx) (ifs : List Expr) (t : TT) : Prop :=
  ∀ (pins : List (Addr × Obj)) (s : Shared) (σ : St) (H : Hp) (Q : Bool → Hp → Prop), Inv X pins σ H s → t σ H Q →
    wpAny (model X.prog X.w) X.A (forIn ifs true fun c r => if r = true then do let ok ← isTrue c X.env (eval c X.env); pure (ForInStep.yield ok) else pure (ForInStep.yield r)) (TP X pins σ Q) X.xe s
def tYes : TT := fun _ H Q => Q true H
theorem pts_nil {X : Cx} : PTs X [] tYes := fun _ _ _ H _ I h => wpAny_tests_nil ⟨H, I, h⟩
theorem pts_one {X : Cx} {c : Expr} {t : TT} (h : PT X c t) : PTs X [c] t := fun pins s σ H Q I hq => wpAny_tests_one (h pins s σ H Q I hq)

def compAfter (elt : Expr) (gens : List Comprehension) (scope : Scope) (pos : Pos) (d : Nat) (it acc : Value) (env : Env) : Sem Fin :=
  match gens[d + 1]? with
  | some g' => do
    let x ← eval g'.iter env
    standAt g'.iter.pos
    let x ← if g'.is_async != 0 then foldedIterable g'.iter x else foldedSetIterable g'.iter env x
    let _ ← runOwn (.compStart (.ListComp elt gens scope pos) (d + 1) (← holding [x] (if g'.is_async != 0 then asyncIter x else pyIter x)) acc env) env
    again (.compLoop (.ListComp elt gens scope pos) d it acc env)
  | none => do
    (do let _ ← call (.builtin "list.append") [acc, ← eval elt env])
    again (.compLoop (.ListComp elt gens scope pos) d it acc env)

theorem compTurn_at (elt : Expr) (gens : List Comprehension) (scope : Scope) (pos : Pos) (d : Nat) (it acc : Value) (env : Env) (target iter : Expr) (ifs : List Expr) (hg : gens[d]? = some ⟨target, iter, ifs, 0⟩) :
    compTurn (.ListComp elt gens scope pos) d it acc env = (do
      standAt iter.pos
      match ← pyNext it with
      | none => pure (.done .next)
      | some v => do
        letOwnedTupleGo target it v
        assign target env v
        let ok ← forIn ifs true fun c r => if r = true then do let ok ← isTrue c env (eval c env); pure (ForInStep.yield ok) else pure (ForInStep.yield r)
        if ok then compAfter elt gens scope pos d it acc env
        else again (.compLoop (.ListComp elt gens scope pos) d it acc env)) := by
  unfold compTurn compAfter
  simp only [hg]
  rfl

def bWalk (J : It) (g : TG) (t : TT) (b : TB) (N : St → Hp → Prop) (σ : St) (H : Hp) : Prop :=
  ∃ W : Nat → Nat → St → Hp → Prop, (∃ m, W 0 m σ H) ∧ ∀ i m σ H, W i m σ H →
    (J.stop i H ∧ N σ H) ∨ (J.go i H ∧ ∃ N' : St → Hp → Prop, (∀ σ' H', N' σ' H' → ∃ m', m' < m ∧ W (i + 1) m' σ' H') ∧ ∀ x H', J.yld i H x H' → g x σ H' fun σ2 H2 => t σ2 H2 fun k H3 => if k = true then b σ2 H3 N' else N' σ2 H3)
/-- what stands behind the tests of a clause -/
def PAf (X : Cx) (elt : Expr) (gens : List Comprehension) (scope : Scope) (pos : Pos) (d : Nat) (it acc : Value) (b : TB) : Prop :=
  ∀ (pins : List (Addr × Obj)) (s : Shared) (σ : St) (H : Hp) (N : St → Hp → Prop), Inv X pins σ H s → b σ H N →
    wpAny (model X.prog X.w) X.A (compAfter elt gens scope pos d it acc X.env) (fun fin s' => fin = .again (.compLoop (.ListComp elt gens scope pos) d it acc X.env) ∧ ∃ σ' H', Inv X pins σ' H' s' ∧ N σ' H') X.xe s
section
variable {X : Cx} {elt tg iter : Expr} {ifs : List Expr} {gens : List Comprehension} {scope : Scope} {pos : Pos} {d : Nat} {acc : Value}
theorem comp_loop {g : TG} {t : TT} {b : TB} {N : St → Hp → Prop} {J : It} {fp : List Addr} {it : Addr} {tn : Nat → Heap → Prop} {pins : List (Addr × Obj)} {s : Shared} {σ : St} {H : Hp}
    (hx : X.xe = fun _ _ => False) (hc : X.calm = true) (hg : gens[d]? = some ⟨tg, iter, ifs, 0⟩) (hgt : PG X tg g) (ht : PTs X ifs t) (hb : PAf X elt gens scope pos d (.ref it) acc b)
    (T : Turn X.prog X.w X.K tg J fp it tn) (I : Inv X pins σ H s) (st : tn 0 s.heap) (f2 : ∀ b ∈ fp, FpOk X pins H b) (w : bWalk J g t b N σ H) :
    codeAny (model X.prog X.w) X.A (.compLoop (.ListComp elt gens scope pos) d (.ref it) acc X.env) (fun r s' => match r with | .ok _ => ∃ σ' H', Inv X pins σ' H' s' ∧ N σ' H' | .error _ => False) s := by
  obtain ⟨W, ⟨m0, w0⟩, turn⟩ := w
  have stat : ∀ {H' : Hp}, (∀ b ∈ fp, H' b = none) → ∀ b ∈ fp, FpOk X pins H' b := fun hn b hb => ⟨hn b hb, (f2 b hb).2⟩
  refine codeAny_loop rfl (fun n s' => ∃ i σ' H', Inv X pins σ' H' s' ∧ tn i s'.heap ∧ (∀ b ∈ fp, H' b = none) ∧ W i n σ' H') ?_ m0 ⟨0, σ, H, I, st, fun b hb => (f2 b hb).1, w0⟩
  rintro n s3 ⟨i, σ3, H3, I3, st3, fr3, w3⟩
  show wpAny _ X.A ((compTurn (.ListComp elt gens scope pos) d (.ref it) acc X.env).onRaise (fun x => do noteFrame x X.env; theTreesLotGoes x)) _ _ s3
  refine wpAny_noted ?_
  rw [compTurn_at _ _ _ _ _ _ _ _ _ _ _ hg]
  have weak : ∀ {α : Type} {m : Sem α} {Q Q' : α → Shared → Prop} {E' : Value → Shared → Prop} {s : Shared}, wpAny (model X.prog X.w) X.A m Q X.xe s → (∀ a s, Q a s → Q' a s) → wpAny (model X.prog X.w) X.A m Q' E' s := fun h hQ => by
    rw [hx] at h
    exact wpAny_mono h hQ fun _ _ z => False.elim z
  refine wpAny_bind (wpAny_standAt (wpAny_bind ?_))
  rcases turn i n σ3 H3 w3 with ⟨stop, qn⟩ | ⟨go, N', hN, step⟩
  · refine weak (T.done X rfl rfl rfl hc i pins s3 σ3 H3 X.xe I3 (stat fr3) st3 stop) fun r s4 ⟨hr, I4⟩ => ?_
    subst hr
    exact wpAny_pure ⟨σ3, H3, I4, qn⟩
  · refine weak (T.item X rfl rfl rfl hc i pins s3 σ3 H3 X.xe I3 (stat fr3) st3 go) fun r s4 ⟨u, hr, h4⟩ => ?_
    subst hr
    refine wpAny_bind (weak h4 fun _ s5 ⟨x, H5, I5, r5, y5, st5, fr5⟩ => ?_)
    have I5' := I5.pinned (stat fr5) (T.obj _ _ st5)
    refine wpAny_bind (weak (hgt _ s5 σ3 H5 x u _ I5' r5 (step x H5 y5)) fun _ s6 ⟨σ6, H6, I6, q6⟩ => ?_)
    refine wpAny_bind (weak (ht _ s6 σ6 H6 _ I6 q6) fun k s7 ⟨H7, I7, q7⟩ => ?_)
    have again : ∀ {s8 : Shared} {σ8 : St} {H8 : Hp}, Inv X (pins ++ pinsAt fp s5.heap) σ8 H8 s8 → N' σ8 H8 → ∃ m, m < n ∧ ∃ i σ' H', Inv X pins σ' H' s8 ∧ tn i s8.heap ∧ (∀ b ∈ fp, H' b = none) ∧ W i m σ' H' := fun {s8 σ8 H8} I8 n8 => by
      obtain ⟨m', hm, w8⟩ := hN σ8 H8 n8
      refine ⟨m', hm, i + 1, σ8, H8, I8.unpinned, T.keep _ _ _ st5 fun b hb o e => (I8.pin (b, o) (List.mem_append_right _ (List.mem_append_right _ (mem_pinsAt hb e)))).1, fun b hb => ?_, w8⟩
      obtain ⟨o, e, d⟩ := T.obj _ _ st5 b hb
      exact (I8.pin (b, o) (List.mem_append_right _ (List.mem_append_right _ (mem_pinsAt hb e)))).2.1
    cases k with
    | false => exact wpAny_pure ⟨rfl, again I7 q7⟩
    | true =>
      refine weak (hb _ s7 σ6 H7 N' I7 q7) fun fin s8 ⟨e, σ8, H8, I8, q8⟩ => ?_
      subst e
      exact ⟨rfl, again I8 q8⟩
/-- the start of a clause: it is asked for its iterator again -/
theorem comp_start {R : Result → Shared → Prop} {it : Value} {s : Shared} {env : Env} {P : Program} {w : World} {A : Around} (hg : gens[d]? = some ⟨tg, iter, ifs, 0⟩)
    (h0 : codeAny (model P w) A (.compLoop (.ListComp elt gens scope pos) d it acc env) R s)
    (h : wpAny (model P w) A (pyIter it) (fun it' s' => codeAny (model P w) A (.compLoop (.ListComp elt gens scope pos) d it' acc env) R s') (notedBy (model P w) A env fun x s' => R (.error x) s') s) :
    codeAny (model P w) A (.compStart (.ListComp elt gens scope pos) d it acc env) R s := by
  refine codeAny_of_tree ?_
  show wpAny _ _ ((compStart (.ListComp elt gens scope pos) d it acc env).onRaise (fun x => do noteFrame x env; standAt theWindowsPlace)) _ _ s
  refine wpAny_notedAt ?_
  unfold compStart
  show wpAny _ _ (if (gens[d]?).elim false (·.is_async != 0) = true then _ else _) _ _ s
  rw [hg]
  show wpAny _ _ (ask >>= _) _ _ s
  refine wpAny_bind (wpAny_askSetting (wpAny_ite ?_))
  split
  · first
      | exact wpAny_bind (wpAny_pure (wpAny_pure (And.intro rfl h0)))
      | exact wpAny_pure (And.intro rfl h0)
  · refine wpAny_bind (wpAny_rule ?_)
    dsimp only [clausesOf]
    rw [hg]
    exact wpAny_bind (wpAny_standAt (wpAny_bind (wpAny_mono h (fun it' s' h' => wpAny_pure (And.intro rfl h')) fun _ _ x => x)))
/-- the last clause: the element is put behind the list -/
def bEmit (acc : Addr) (te : TE) : TB := fun σ H N => te σ H fun x H1 => ∃ xs, H1 acc = some (.lst xs) ∧ xs.length < sizeLine ∧ N σ (upd H1 acc (.lst (xs ++ [x])))
theorem paf_emit {it : Value} {a : Addr} {te : TE} (h1 : gens[d + 1]? = none) (he : PE X elt te) : PAf X elt gens scope pos d it (.ref a) (bEmit a te) := by
  intro pins s σ H N I h
  unfold compAfter
  rw [h1]
  refine wpAny_bind (wpAny_bind (thn (he pins s σ H _ I h) fun v s1 ⟨x, H1, I1, r1, xs, e, z, q⟩ => ?_))
  refine wpAny_bind (thn (mt_append pins s1 σ H1 (.ref a) [x] (.ref a) [v] (fun _ H2 => N σ H2) I1 rfl (.cons r1 .nil) ⟨a, xs, x, rfl, rfl, e, z, q⟩) fun _ s2 ⟨_, H2, I2, _, q2⟩ => ?_)
  exact wpAny_pure (wpAny_pure ⟨rfl, σ, H2, I2, q2⟩)
/-- a further clause -/
def bFor (wi : TI) (g : TG) (t : TT) (b : TB) : TB := fun σ H N => wi σ H fun J H1 => bWalk J g t b N σ H1
theorem paf_for {it : Value} {tg' iter' : Expr} {ifs' : List Expr} {wi : TI} {g : TG} {t : TT} {b : TB} (hx : X.xe = fun _ _ => False) (hc : X.calm = true) (h1 : gens[d + 1]? = some ⟨tg', iter', ifs', 0⟩)
    (hi : PI X tg' iter' wi) (hgt : PG X tg' g) (ht : PTs X ifs' t) (hb : ∀ it', PAf X elt gens scope pos (d + 1) (.ref it') acc b)
    (hs : ∀ x, foldedSetIterable iter' X.env x = pure x := by intro _; rfl) : PAf X elt gens scope pos d it acc (bFor wi g t b) := by
  intro pins s σ H N I h
  unfold compAfter
  rw [h1]
  refine wpAny_bind (thn (hi pins s σ H _ I h) fun v s1 hi1 => ?_)
  refine wpAny_bind (wpAny_standAt ?_)
  show wpAny _ _ (foldedSetIterable iter' X.env v >>= _) _ _ s1
  refine wpAny_bind (wpAny_of_eq (hs v) (wpAny_bind (wpAny_holding (thn hi1 fun itv s2 h2 => ?_))))
  obtain ⟨it', fp, tn, J, H2, e, I2, T, st2, f2, w2⟩ := h2
  subst e
  have lp := comp_loop (elt := elt) (scope := scope) (pos := pos) hx hc h1 hgt ht (hb it') T I2 st2 f2 w2
  refine wpAny_bind (wpAny_runOwn (codeAny_mono (R := fun r s' => match r with | .ok _ => ∃ σ' H', Inv X pins σ' H' s' ∧ N σ' H' | .error _ => False) (comp_start h1 lp (T.self _ _ _ _ _ st2 lp)) fun r s3 q3 => ?_))
  cases r with
  | ok f =>
    exact wpAny_pure ⟨rfl, q3⟩
  | error e => exact False.elim q3
end
end L2

namespace L2
open PySem PySem.Spec PyProof.Rows

theorem closure_of {env : Env} {scope : Scope} (h : ∀ x ∈ scope.names, x.2 = .free → ∃ c, env.cells.lookup x.1 = some c) :
    ∃ cl, closureFor scope env = pure cl ∧ (∀ x c, cl.lookup x = some c → env.cells.lookup x = some c) ∧ ∀ x ∈ scope.names, x.2 = .free → ∃ c, cl.lookup x.1 = some c := by
  have key : ∀ (names : List (Str × NameKind)) (acc : List (Str × Addr)), (∀ x ∈ names, x.2 = .free → ∃ c, env.cells.lookup x.1 = some c) → (∀ x c, acc.lookup x = some c → env.cells.lookup x = some c) →
      ∃ cl : List (Str × Addr), (forIn names acc fun (x : Str × NameKind) (r : List (Str × Addr)) => if (x.2 == NameKind.free) = true then do let a ← cellOf env x.1; pure (ForInStep.yield ((x.1, a) :: r)) else pure (ForInStep.yield r) : Sem (List (Str × Addr))) = pure cl ∧
        (∀ x c, cl.lookup x = some c → env.cells.lookup x = some c) ∧ (∀ x c, acc.lookup x = some c → ∃ c', cl.lookup x = some c') ∧ ∀ x ∈ names, x.2 = .free → ∃ c, cl.lookup x.1 = some c := by
    intro names
    induction names with
    | nil => intro acc _ ha; exact ⟨acc, rfl, ha, fun x c e => ⟨c, e⟩, fun _ z => nomatch z⟩
    | cons x r ih =>
      intro acc hn ha
      by_cases hk : (x.2 == NameKind.free) = true
      · obtain ⟨c, hc⟩ := hn x List.mem_cons_self (by simpa using hk)
        have ha' : ∀ y d, List.lookup y ((x.1, c) :: acc) = some d → env.cells.lookup y = some d := by
          intro y d e
          rw [List.lookup_cons] at e
          cases hy : y == x.1 with
          | true => rw [hy] at e; cases e; rw [beq_iff_eq.mp hy]; exact hc
          | false => rw [hy] at e; exact ha y d e
        obtain ⟨cl, e1, e2, e3, e4⟩ := ih ((x.1, c) :: acc) (fun y hy => hn y (List.mem_cons_of_mem _ hy)) ha'
        refine ⟨cl, ?_, e2, fun y d e => ?_, fun y hy hf => ?_⟩
        · rw [List.forIn_cons]
          simp only [hk, if_true, cellOf, hc]
          exact e1
        · cases hy : y == x.1 with
          | true => exact e3 y c (by rw [List.lookup_cons, hy])
          | false => exact e3 y d (by rw [List.lookup_cons, hy]; exact e)
        · rcases List.mem_cons.mp hy with rfl | hy
          · exact e3 y.1 c (by rw [List.lookup_cons, beq_self_eq_true])
          · exact e4 y hy hf
      · obtain ⟨cl, e1, e2, e3, e4⟩ := ih acc (fun y hy => hn y (List.mem_cons_of_mem _ hy)) ha
        refine ⟨cl, ?_, e2, e3, fun y hy hf => ?_⟩
        · rw [List.forIn_cons]
          simp only [hk, if_false]
          exact e1
        · rcases List.mem_cons.mp hy with rfl | hy
          · exact absurd (by simpa using hf) hk
          · exact e4 y hy hf
  obtain ⟨cl, e1, e2, _, e4⟩ := key scope.names [] h (fun _ _ z => by simp at z)
  refine ⟨cl, ?_, e2, e4⟩
  unfold closureFor
  show (forIn scope.names [] _ >>= fun cs => pure cs) = _
  exact (congrArg (fun m => m >>= fun cs => (pure cs : Sem _)) e1)
theorem relabel_free {env : Env} : ∀ {names : List (Str × NameKind)} {x : Str}, names.lookup x = some .free →
    ∃ k, (k = NameKind.cell ∨ k = NameKind.free) ∧ (names.map fun (n, k) => if (k == NameKind.free && env.scope.kind == .function && env.kindOf n == some .cell) then (n, NameKind.cell) else (n, k)).lookup x = some k
  | [], _, h => by simp at h
  | (n, k) :: r, x, h => by
    have ih := @relabel_free env r x
    show ∃ k', _ ∧ List.lookup x ((if (k == NameKind.free && env.scope.kind == .function && env.kindOf n == some .cell) = true then (n, NameKind.cell) else (n, k)) :: _) = _
    cases hx : x == n with
    | true =>
      simp only [List.lookup_cons, hx] at h
      cases h
      by_cases hc : (NameKind.free == NameKind.free && env.scope.kind == .function && env.kindOf n == some .cell) = true
      · rw [if_pos hc]; exact ⟨.cell, .inl rfl, by simp only [List.lookup_cons, hx]⟩
      · rw [if_neg hc]; exact ⟨.free, .inr rfl, by simp only [List.lookup_cons, hx]⟩
    | false =>
      simp only [List.lookup_cons, hx] at h
      obtain ⟨k', hk', e⟩ := ih h
      refine ⟨k', hk', ?_⟩
      by_cases hc : (k == NameKind.free && env.scope.kind == .function && env.kindOf n == some .cell) = true
      · rw [if_pos hc]; simp only [List.lookup_cons, hx]; exact e
      · rw [if_neg hc]; simp only [List.lookup_cons, hx]; exact e
theorem of_relabel {env : Env} : ∀ {names : List (Str × NameKind)} {x : Str} {k' : NameKind}, (k' = .cell ∨ k' = .free) → (∀ y ∈ names, y.2 ≠ .cell) →
    (names.map fun (n, k) => if (k == NameKind.free && env.scope.kind == .function && env.kindOf n == some .cell) then (n, NameKind.cell) else (n, k)).lookup x = some k' → (x, NameKind.free) ∈ names
  | [], _, _, _, _, h => by simp at h
  | (n, k) :: r, x, k', hk', hc, h => by
    have h2 : List.lookup x ((if (k == NameKind.free && env.scope.kind == .function && env.kindOf n == some .cell) = true then (n, NameKind.cell) else (n, k)) :: (r.map fun (n, k) => if (k == NameKind.free && env.scope.kind == .function && env.kindOf n == some .cell) then (n, NameKind.cell) else (n, k))) = some k' := h
    have ih := @of_relabel env r x k' hk' (fun y hy => hc y (List.mem_cons_of_mem _ hy))
    cases hx : x == n with
    | true =>
      have e : x = n := beq_iff_eq.mp hx
      subst e
      by_cases hk : k = .free
      · subst hk; exact List.mem_cons_self
      · have hkf : (k == NameKind.free) = false := by simpa using hk
        simp only [hkf, Bool.false_and, Bool.false_eq_true, if_false, List.lookup_cons, beq_self_eq_true, Option.some.injEq] at h2
        subst h2
        rcases hk' with z | z
        · exact absurd z (hc (x, k) List.mem_cons_self)
        · exact absurd z hk
    | false =>
      refine List.mem_cons_of_mem _ (ih ?_)
      by_cases hcc : (k == NameKind.free && env.scope.kind == .function && env.kindOf n == some .cell) = true
      · rw [if_pos hcc] at h2; simp only [List.lookup_cons, hx] at h2; exact h2
      · rw [if_neg hcc] at h2; simp only [List.lookup_cons, hx] at h2; exact h2
end L2

namespace L2
open PySem PySem.Spec PyProof.Rows

/-- the slots of a comprehension's block: for each of its names the outer slot that it is caught from, or none (its own) -/
def capt (cap : List (Option Nat)) (σ : St) : St := cap.map fun o => match o with | some i => (σ[i]?).join | none => none
def blkOk (No : List Str) (sc : Scope) (N : List Str) (cap : List (Option Nat)) (scope : Scope) : Bool :=
  scope.kind == .function && cap.length == N.length
    && scope.names.all (fun y => y.2 != .cell && (y.2 != .local || scope.names.lookup y.1 == some .local) && (y.2 != .free || (sc.names.lookup y.1 == some .cell || sc.names.lookup y.1 == some .free)))
    && (cap.zip N).all (fun p => match p.1 with | none => true | some i => No[i]? == some p.2 && scope.names.lookup p.2 == some .free)
structure BlkOk (No : List Str) (sc : Scope) (N : List Str) (cap : List (Option Nat)) (scope : Scope) : Prop where
  kind : scope.kind = .function
  len : cap.length = N.length
  cell : ∀ y ∈ scope.names, y.2 ≠ .cell
  names : ∀ y ∈ scope.names, y.2 = .local → scope.names.lookup y.1 = some .local
  free : ∀ y ∈ scope.names, y.2 = .free → sc.names.lookup y.1 = some .cell ∨ sc.names.lookup y.1 = some .free
  cap : ∀ (j i : Nat) (x : Str), cap[j]? = some (some i) → N[j]? = some x → No[i]? = some x ∧ scope.names.lookup x = some .free
theorem blk_of {No : List Str} {sc : Scope} {N : List Str} {cap : List (Option Nat)} {scope : Scope} (h : blkOk No sc N cap scope = true) : BlkOk No sc N cap scope := by
  unfold blkOk at h
  simp only [Bool.and_eq_true, List.all_eq_true, beq_iff_eq, bne_iff_ne, Bool.or_eq_true] at h
  obtain ⟨⟨⟨h1, h2⟩, h3⟩, h4⟩ := h
  refine ⟨h1, h2, fun y hy => (h3 y hy).1.1, fun y hy hl => ?_, fun y hy hf => ?_, fun j i x e1 e2 => ?_⟩
  · rcases (h3 y hy).1.2 with z | z
    · exact absurd hl z
    · exact z
  · rcases (h3 y hy).2 with z | z
    · exact absurd hf z
    · exact z
  · have hm : (some i, x) ∈ cap.zip N := by
      refine List.mem_of_getElem? (i := j) ?_
      rw [List.getElem?_zip_eq_some]
      exact ⟨e1, e2⟩
    have := h4 _ hm
    simpa using this
abbrev Cx.blk (X : Cx) (N : List Str) (scope : Scope) (cl : List (Str × Addr)) (C : Addr) (s3 : Shared) (H3 : Hp) (fp : List Addr) : Cx :=
  { X with N := N, s₀ := s3, H₀ := H3, env := compEnvC scope cl C X.env, outer := X.stack, ex := fp, fn := fun _ => false, pn := [], xe := fun _ _ => False }
section
variable {X : Cx} {N : List Str} {cap : List (Option Nat)} {scope : Scope} {cl : List (Str × Addr)} {C : Addr} {s3 : Shared} {H3 : Hp} {fp : List Addr} {pins : List (Addr × Obj)} {σ : St}
theorem blk_in {h4 : Heap} {m : Str → Option Value} {tk : Nat} (I : Inv X pins σ H3 s3) (ok : BlkOk X.N X.env.scope N cap scope)
    (cl1 : ∀ x c, cl.lookup x = some c → X.env.cells.lookup x = some c) (cl2 : ∀ x ∈ scope.names, x.2 = .free → ∃ c, cl.lookup x.1 = some c)
    (hf : ∀ b ∈ fp, FpOk X pins H3 b ∧ b < s3.heap.objs.size) (hC : s3.heap.objs.size = C) (hn : h4.Ns C m) (hk : ∀ b o, s3.heap.get? b = some o → h4.get? b = some o) :
    Inv (X.blk N scope cl C s3 H3 fp) [] (capt cap σ) H3 { s3 with heap := h4, toks := tk } := by
  have ltC : ∀ b o, s3.heap.get? b = some o → b ≠ C := fun b o e => Nat.ne_of_lt (hC ▸ Heap.lt_size e)
  have cellK : ∀ x c, cl.lookup x = some c → ∃ v, h4.IsCell c v := fun x c e => by
    obtain ⟨v, o, ho, hd⟩ := I.cell x c (cl1 x c e)
    exact ⟨v, o, hk c o ho, hd⟩
  have fr : H3 C = none := I.hok.fresh (Nat.le_of_eq hC)
  refine ⟨⟨I.ok.mod, ?_, I.ok.glob, I.ok.blt, ?_, fun x y c e1 e2 => I.ok.inj x y c (cl1 _ _ e1) (cl1 _ _ e2), fun x hx => ?_, (fun x c z => nomatch z), I.ok.hd, I.ok.frames, .inl rfl, fun b hb => ⟨?_, fun x c e => ?_⟩,
    I.bs, Nat.le_trans I.ok.bsz I.sz, fun b o e hb => ?_, fun b hb hb2 => ?_, I.stack, I.stkFree⟩, rfl, I.bare, Un.kept hk, ⟨m, hn, fun j x v e1 e2 e3 => ?_⟩, cellK, fr, fun x c e => I.freeC x c (cl1 x c e), fun p hp => ?_, I.hok.kept hk, ?_⟩
  · exact ok.kind
  · exact Nat.le_of_eq hC
  · have hx' : ∃ k', (k' = NameKind.cell ∨ k' = NameKind.free) ∧ (relabel scope X.env).names.lookup x = some k' := by
      rcases hx with z | z
      · exact ⟨_, .inl rfl, z⟩
      · exact ⟨_, .inr rfl, z⟩
    obtain ⟨k', hk', z⟩ := hx'
    exact cl2 (x, .free) (of_relabel hk' ok.cell z) rfl
  · exact Nat.ne_of_lt (hC ▸ (hf b hb).2)
  · exact (hf b hb).1.2.2.2.2.1 x c (cl1 x c e)
  · rcases (hf b hb).1.2.2.2.1 with z | z
    · exact I.ok.noex b o e z
    · exact absurd (Nat.lt_of_lt_of_le (Heap.lt_size e) (Nat.le_trans I.ok.bsz z)) (Nat.lt_irrefl _)
  · rcases List.mem_cons.mp (I.stkSub b hb2) with z | z
    · exact (hf b hb).1.2.1 z
    · exact (hf b hb).1.2.2.1 z
  · unfold capt at e2
    rw [List.getElem?_map] at e2
    cases hj : cap[j]? with
    | none => rw [hj] at e2; cases e2
    | some o =>
      rw [hj] at e2
      cases o with
      | none => cases e2
      | some i =>
        obtain ⟨h1, h2⟩ := ok.cap j i x hj e1
        have e2' : (σ[i]?).join = some v := Option.some.inj e2
        have e4 : σ[i]? = some (some v) := by
          cases hs : σ[i]? with
          | none => rw [hs] at e2'; cases e2'
          | some o => rw [hs] at e2'; exact congrArg some e2'
        have hmem : (x, NameKind.free) ∈ scope.names := by
          have key : ∀ (l : List (Str × NameKind)), l.lookup x = some NameKind.free → (x, NameKind.free) ∈ l := by
            intro l
            induction l with
            | nil => intro z; simp at z
            | cons y r ih =>
              intro z
              rw [List.lookup_cons] at z
              cases hxy : x == y.1 with
              | true => rw [hxy] at z; have := beq_iff_eq.mp hxy; have z2 : y.2 = .free := Option.some.inj z; rw [this, ← z2]; exact List.mem_cons_self
              | false => rw [hxy] at z; exact List.mem_cons_of_mem _ (ih z)
          exact key _ h2
        have hout := ok.free _ hmem rfl
        obtain ⟨m', hn', hl'⟩ := I.loc
        obtain ⟨u, r, l⟩ := hl' i x v h1 e4 (.inr hout)
        refine ⟨u, r, .inr ⟨?_, ?_⟩⟩
        · obtain ⟨k', hk', e⟩ := relabel_free (env := X.env) h2
          rcases hk' with rfl | rfl
          · exact .inl e
          · exact .inr e
        · rcases l with ⟨kl, _⟩ | ⟨_, c, hc, o, ho, hd⟩
          · rcases hout with z | z
            · rw [show X.env.kindOf x = some .cell from z] at kl; cases kl
            · rw [show X.env.kindOf x = some .free from z] at kl; cases kl
          · obtain ⟨c', hc'⟩ := cl2 _ hmem rfl
            have e := cl1 _ _ hc'
            have e' : X.env.cells.lookup x = some c' := e
            rw [hc] at e'
            cases e'
            exact ⟨c, hc', o, hk c o ho, hd⟩
  · exact nomatch hp
  · unfold capt; rw [List.length_map]; exact ok.len
theorem blk_out {σ' : St} {H' : Hp} {s' : Shared} {h' : Heap} (I : Inv X pins σ H3 s3) (I' : Inv (X.blk N scope cl C s3 H3 fp) [] σ' H' s') (hf : ∀ b ∈ fp, FpOk X pins H3 b) (hs : Heap.SameBut C s'.heap h') (hC : s3.heap.objs.size = C) :
    Inv X pins σ H' { s' with heap := h' } := by
  have hb := I'.base
  have neC : ∀ b o, s3.heap.get? b = some o → b ≠ C := fun b o e => Nat.ne_of_lt (hC ▸ Heap.lt_size e)
  have ext : ∀ b o, b ≠ C → s'.heap.get? b = some o → h'.get? b = some o := fun b o n e => hs.extBut b o n e
  refine I.call' (ch := fp) I'.os ⟨fun b o e n h1 h2 => ext b o (neC b o e) (hb.keep b o e n h1 h2), fun b o e n h1 h2 => ?_, fun b o e n h2 => hb.free b o e n h2, fun b o e h2 => ?_, hb.tups, hb.frzs, hb.tbls⟩ (fun b u e => ?_) I'.bare fun b hb => ?_
  · obtain ⟨sl, q⟩ := hb.slot b o e n h1 h2
    exact ⟨sl, ext b _ (neC b o e) q⟩
  · obtain ⟨o', q⟩ := hb.there b o e h2
    exact ⟨o', ext b o' (neC b o e) q⟩
  · have fr : H' C = none := I'.free
    refine (I'.hok b u e).stay (fun c v hc q => ext c v ?_ q) (fun _ q => q) fun _ _ q => q
    rintro rfl
    rcases hc with z | z
    · rw [← z, fr] at e; cases e
    · rw [fr] at z; cases z
  · obtain ⟨f0, f1, f2, f3, f4, f5⟩ := hf b hb
    exact ⟨f3, f1, f4, f5⟩
end
end L2

namespace L2
open PySem PySem.Spec PyProof.Rows

def tComp (wi : TI) (cap : List (Option Nat)) (g : TG) (t : TT) (b : Addr → TB) : TE := fun σ H Q =>
  wi σ H fun J H1 => ∀ acc, H1 acc = none → bWalk J g t (b acc) (fun _ H2 => Q (.ref acc) H2) (capt cap σ) (upd H1 acc (.lst []))
section
variable {X : Cx} {elt tg iter : Expr} {ifs : List Expr} {rest : List Comprehension} {scope : Scope} {pos : Pos} {N : List Str} {cap : List (Option Nat)} {wi : TI} {g : TG} {t : TT} {b : Addr → TB}
/-- the block, from its iterator on; RR: what is wanted behind it -/
theorem comp_block {pins : List (Addr × Obj)} {σ : St} {Q : VK} {s2 : Shared} {itv : Value} {cl : List (Str × Addr)} {RR : Value → Addr → Result → Shared → Prop} (hc : X.calm = true) (ok : BlkOk X.N X.env.scope N cap scope)
    (cl1 : ∀ x c, cl.lookup x = some c → X.env.cells.lookup x = some c) (cl2 : ∀ x ∈ scope.names, x.2 = .free → ∃ c, cl.lookup x.1 = some c)
    (hb : ∀ cl C s3 H3 fp, PG (X.blk N scope cl C s3 H3 fp) tg g ∧ PTs (X.blk N scope cl C s3 H3 fp) ifs t ∧ ∀ it acc, PAf (X.blk N scope cl C s3 H3 fp) elt (⟨tg, iter, ifs, 0⟩ :: rest) scope pos 0 (.ref it) (.ref acc) (b acc))
    (h : PIE X pins σ tg (fun J H1 => ∀ acc, H1 acc = none → bWalk J g t (b acc) (fun _ H2 => Q (.ref acc) H2) (capt cap σ) (upd H1 acc (.lst []))) itv s2)
    (hR : ∀ (acc C : Addr) (H' : Hp) (s' : Shared) (m : Str → Option Value), s'.heap.Ns C m → H' C = none → X.s₀.heap.objs.size ≤ C → C ≠ X.env.locals → (∀ x c, X.env.cells.lookup x = some c → c ≠ C) → (∀ p ∈ X.pn ++ pins, p.1 ≠ C) → (∀ h', Heap.SameBut C s'.heap h' → Inv X pins σ H' { s' with heap := h' }) → Q (.ref acc) H' → RR (.ref acc) C (.ok .next) s') :
    wpAny (model X.prog X.w) X.A (newList []) (fun acc s₃ => wpAny (model X.prog X.w) X.A (newFunctionEnv scope X.env.globals cl [] X.env.qual none .none (some X.env)) (fun cenv s₄ =>
      codeAny (model X.prog X.w) X.A (.compStart (.ListComp elt (⟨tg, iter, ifs, 0⟩ :: rest) scope pos) 0 itv acc { cenv with scope := relabel scope X.env }) (fun r s' => match r with | .ok _ => RR acc cenv.locals (.ok .next) s' | .error _ => False) s₄) X.xe s₃) X.xe s2 := by
  obtain ⟨it, fp, tn, J, H2, e, I2, T, st2, f2, q⟩ := h
  subst e
  refine wpAny_newObj_type (wpAny_newFunctionEnv ok.cell (by intro y hy; simp at hy) (fun h₁ hns₁ hsb₁ => ?_) ok.kind)
  dsimp only at hns₁ hsb₁ ⊢
  have I3 := I2.lnew (its := []) (ys := []) (t' := s2.toks) .nil (Nat.zero_le _)
  have fr : H2 s2.heap.objs.size = none := I2.hok.fresh (Nat.le_refl _)
  have hlt : ∀ b ∈ fp, b < s2.heap.objs.size := fun b hb => by
    obtain ⟨o, e, _⟩ := T.obj 0 _ st2 b hb
    exact Heap.lt_size e
  generalize hS3 : ({ s2 with heap := s2.heap.push { cls := .type "list", dict := none, data := .seq ([] : List Value).toArray } } : Shared) = s3 at *
  have hS : s3.heap = s2.heap.push { cls := .type "list", dict := none, data := .seq ([] : List Value).toArray } := by rw [← hS3]
  have hsz : s3.heap.objs.size = s2.heap.objs.size + 1 := by rw [hS, Heap.size_push]
  have I3' : Inv X pins σ (upd H2 s2.heap.objs.size (.lst [])) s3 := I3
  have hf3 : ∀ b ∈ fp, FpOk X pins (upd H2 s2.heap.objs.size (.lst [])) b ∧ b < s3.heap.objs.size := fun b hb => by
    have hl := hlt b hb
    refine ⟨⟨?_, (f2 b hb).2⟩, ?_⟩
    · rw [upd_ne (Nat.ne_of_lt hl)]; exact (f2 b hb).1
    · rw [hsz]; exact Nat.lt_succ_of_lt hl
  rw [← hS] at hns₁ hsb₁
  have kp : ∀ b o, s3.heap.get? b = some o → h₁.get? b = some o := fun b o e => hsb₁.extBut b o (Nat.ne_of_lt (Heap.lt_size e)) (Heap.get?_push_of_some _ e)
  have kp2 : ∀ b o, s2.heap.get? b = some o → h₁.get? b = some o := fun b o e => kp b o (by rw [hS]; exact Heap.get?_push_of_some _ e)
  rw [← hS]
  obtain ⟨hb1, hb2, hb3⟩ := hb cl s3.heap.objs.size s3 (upd H2 s2.heap.objs.size (.lst [])) fp
  have e4 : ∀ tk, ({ s2 with heap := h₁, toks := tk } : Shared) = { s3 with heap := h₁, toks := tk } := fun tk => by rw [← hS3]
  show codeAny _ _ (.compStart _ 0 (.ref it) (.ref s2.heap.objs.size) (compEnvC scope cl s3.heap.objs.size X.env)) _ _
  have I4 : Inv (X.blk N scope cl s3.heap.objs.size s3 (upd H2 s2.heap.objs.size (.lst [])) fp) [] (capt cap σ) (upd H2 s2.heap.objs.size (.lst [])) { s3 with heap := h₁, toks := s3.toks } :=
    blk_in (tk := s3.toks) I3' ok cl1 cl2 hf3 rfl hns₁ kp
  have f4 : ∀ b ∈ fp, FpOk (X.blk N scope cl s3.heap.objs.size s3 (upd H2 s2.heap.objs.size (.lst [])) fp) [] (upd H2 s2.heap.objs.size (.lst [])) b := fun b hb => by
    obtain ⟨⟨g0, g1, g2, g3, g4, g5⟩, g6⟩ := hf3 b hb
    refine ⟨g0, Nat.ne_of_lt g6, fun z => ?_, .inl hb, fun x c e => g4 x c (cl1 x c e), fun p hp => nomatch hp⟩
    rcases List.mem_cons.mp (I3'.stkSub b z) with z | z
    · exact g1 z
    · exact g2 z
  have st4 : tn 0 h₁ := T.keep 0 _ _ st2 fun b hb o e => kp2 b o e
  have lp : ∀ s4 : Shared, s4 = { s3 with heap := h₁, toks := s3.toks } → codeAny (model X.prog X.w) X.A (.compLoop (.ListComp elt (⟨tg, iter, ifs, 0⟩ :: rest) scope pos) 0 (.ref it) (.ref s2.heap.objs.size) (compEnvC scope cl s3.heap.objs.size X.env)) (fun r s' => match r with | .ok _ => RR (.ref s2.heap.objs.size) s3.heap.objs.size (.ok .next) s' | .error _ => False) s4 := by
    intro s4 e4
    rw [e4]
    have lp := comp_loop (X := X.blk N scope cl s3.heap.objs.size s3 (upd H2 s2.heap.objs.size (.lst [])) fp) (d := 0) (N := fun _ H2' => Q (.ref s2.heap.objs.size) H2') rfl hc rfl hb1 hb2 (hb3 it s2.heap.objs.size) T I4 st4 f4 (q _ fr)
    refine codeAny_mono lp fun r s' hr => ?_
    cases r with
    | error e => exact hr
    | ok f =>
      obtain ⟨σ', H', I', q'⟩ := hr
      obtain ⟨m, hn, _⟩ := I'.loc
      exact hR _ _ H' s' m hn I'.free I3'.sz (Nat.ne_of_gt I3'.lt) (fun x c e => by
        obtain ⟨v, z⟩ := I3'.cell x c e
        exact Nat.ne_of_lt z.lt) (fun p hp => Nat.ne_of_lt (Heap.lt_size (I3'.pin p hp).1)) (fun h' hs => blk_out I3' I' (fun b hb => (hf3 b hb).1) hs rfl) q'
  refine comp_start rfl (lp _ ?_) (T.self _ 0 _ _ _ st4 (lp _ ?_))
  · rw [← hS3]; rfl
  · rw [← hS3]; rfl

theorem clos_of {pins : List (Addr × Obj)} {σ : St} {H : Hp} {s : Shared} (I : Inv X pins σ H s) (ok : BlkOk X.N X.env.scope N cap scope) :
    ∃ cl, closureFor scope X.env = pure cl ∧ (∀ x c, cl.lookup x = some c → X.env.cells.lookup x = some c) ∧ ∀ x ∈ scope.names, x.2 = .free → ∃ c, cl.lookup x.1 = some c :=
  closure_of fun x hx hf => I.ok.has x.1 (ok.free x hx hf)

/-- [elt for tg in iter if .. for ..] -/
theorem pe_comp (hc : X.calm = true) (hok : blkOk X.N X.env.scope N cap scope = true) (hi : PI X tg iter wi)
    (hb : ∀ cl C s3 H3 fp, PG (X.blk N scope cl C s3 H3 fp) tg g ∧ PTs (X.blk N scope cl C s3 H3 fp) ifs t ∧ ∀ it acc, PAf (X.blk N scope cl C s3 H3 fp) elt (⟨tg, iter, ifs, 0⟩ :: rest) scope pos 0 (.ref it) (.ref acc) (b acc))
    (hs : ∀ x, foldedSetIterable iter X.env x = pure x := by intro _; rfl) : PE X (.ListComp elt (⟨tg, iter, ifs, 0⟩ :: rest) scope pos) (tComp wi cap g t b) := by
  intro pins s σ H Q I h
  have ok := blk_of hok
  obtain ⟨cl, e0, cl1, cl2⟩ := clos_of I ok
  rw [eval_ListComp]
  refine wpAny_comprehension_free (use := none) rfl hs e0 ok.kind ok.names (thn (hi pins s σ H _ I h) fun v s1 h1 => thn h1 fun itv s2 h2 => ?_)
  refine thn (comp_block (RR := fun acc C => compPost (model X.prog X.w) X.A X.xe none (EP X pins σ Q) acc C) hc ok cl1 cl2 hb h2 ?_) fun acc s3 h3 => thn h3 fun cenv s4 h4 => codeAny_mono h4 fun r s' hr => ?_
  · intro acc C H' s' m hn _ _ _ _ _ hI q
    exact ⟨m, hn, fun h' hs' => ⟨.ref acc, H', hI h' hs', rfl, q⟩⟩
  · cases r with
    | ok f => exact hr
    | error e => exact False.elim hr
/-- x = [elt for ..] where the store stands ahead of the block's end -/
theorem ps_setComp {i : Nat} {y : Str} {py spos : Pos} (hc : X.calm = true) (hok : blkOk X.N X.env.scope N cap scope = true) (hN : X.N.Nodup) (hy : X.N[i]? = some y) (hx : X.env.scope.names.lookup y = some .local) (hi : PI X tg iter wi)
    (hb : ∀ cl C s3 H3 fp, PG (X.blk N scope cl C s3 H3 fp) tg g ∧ PTs (X.blk N scope cl C s3 H3 fp) ifs t ∧ ∀ it acc, PAf (X.blk N scope cl C s3 H3 fp) elt (⟨tg, iter, ifs, 0⟩ :: rest) scope pos 0 (.ref it) (.ref acc) (b acc))
    (hs : ∀ x, foldedSetIterable iter X.env x = pure x := by intro _; rfl)
    (hsw : swapsWith (.ListComp elt (⟨tg, iter, ifs, 0⟩ :: rest) scope pos) (some (.Name y py)) spos.line X.env = pure true := by rfl) :
    PS X (.Assign [.Name y py] (.ListComp elt (⟨tg, iter, ifs, 0⟩ :: rest) scope pos) spos) (tAsg (tComp wi cap g t b) (gName i)) := by
  intro pins s σ H D I h
  have ok := blk_of hok
  obtain ⟨cl, e0, cl1, cl2⟩ := clos_of I ok
  rw [exec_Assign_Name_used _ _ _ _ hsw]
  refine wpAny_bind (wpAny_standAt (wpAny_bind ?_))
  show wpAny _ X.A (do let _ ← comprehension (.ListComp elt (⟨tg, iter, ifs, 0⟩ :: rest) scope pos) scope X.env _ (newList []) false (eval iter X.env) (some (assign (.Name y py) X.env))) _ _ s
  refine wpAny_bind (wpAny_mono (wpAny_comprehension_free (use := some (assign (.Name y py) X.env)) (Q := fun _ s' => SP X pins D .next s') rfl hs e0 ok.kind ok.names
    (thn (hi pins s σ H _ I h) fun v s1 h1 => thn h1 fun itv s2 h2 => ?_)) (fun _ s' hq => wpAny_pure (wpAny_pure hq)) fun _ _ e => e)
  refine thn (comp_block (RR := fun acc C => compPost (model X.prog X.w) X.A X.xe (some (assign (.Name y py) X.env)) (fun _ s' => SP X pins D .next s') acc C) (Q := fun v H2 => D.nx (σ.set i (some v)) H2) hc ok cl1 cl2 hb h2 ?_) fun acc s3 h3 => thn h3 fun cenv s4 h4 => codeAny_mono h4 fun r s' hr => ?_
  · intro acc C H' s' m hn hfr hC1 hC2 hC3 hC4 hI q
    have I' : Inv X pins σ H' s' := hI s'.heap (.refl ..)
    show wpAny _ _ (assign (.Name y py) X.env (.ref acc)) _ _ s'
    refine wpAny_assign_Name (store_ok2 I' hN hy (.inl hx) (v := .ref acc) rfl (fun s2 I2 ⟨a, hsa, ha⟩ => ?_) (.inr hx))
    have haC : C ≠ a := by
      rcases ha with z | z
      · rw [z]; exact hC2
      · exact Ne.symm (hC3 y a z)
    refine ⟨m, hn.sameBut hsa haC, fun h' hs' => ?_⟩
    exact ⟨_, H', I2.turned (it := C) (t' := s2.toks) (fun b o hb e => hs'.extBut b o hb e) hfr hC2 (.inr hC1) hC3 hC4, q⟩
  · cases r with
    | ok f => exact hr
    | error e => exact False.elim hr
end
end L2

namespace L2
open PySem PySem.Spec PyProof.Rows

/-! ### zip of two lists or tuples -/
/-- the iterator at it over the sequence at l, k items taken: of a tuple (b), of a list -/
def ZI (b : Bool) (h : Heap) (it l : Addr) (k : Nat) : Prop := ∃ o, h.get? it = some o ∧ o.cls = .type (if b then "tuple_iterator" else "list_iterator") ∧ o.data = .fields #[.ref l, .int k 0]
def ZS (b : Bool) (h : Heap) (l : Addr) (xs : Array Value) : Prop := ∃ o, h.get? l = some o ∧ o.cls = .type (if b then "tuple" else "list") ∧ ∃ n, o.data = .seq xs n
theorem ZI.at {b : Bool} {h h' : Heap} {it l : Addr} {k : Nat} (z : ZI b h it l k) (e : ∀ o, h.get? it = some o → h'.get? it = some o) : ZI b h' it l k := let ⟨o, ho, r⟩ := z; ⟨o, e o ho, r⟩
theorem ZS.at {b : Bool} {h h' : Heap} {l : Addr} {xs : Array Value} (z : ZS b h l xs) (e : ∀ o, h.get? l = some o → h'.get? l = some o) : ZS b h' l xs := let ⟨o, ho, r⟩ := z; ⟨o, e o ho, r⟩
section
variable {P : Program} {w : World} {A : Around} {E : Value → Shared → Prop} {s : Shared}
theorem nextOf_tup_item {it t : Addr} {i : Nat} {items : Array Value} {x : Value} {Q : Value → Shared → Prop} (hit : s.heap.IsTupleIter it t i) (ht : s.heap.IsTuple t items) (hx : items[i]? = some x)
    (hQ : ∀ h', h'.IsTupleIter it t (i + 1) → Heap.SameBut it s.heap h' → Q x { s with heap := h' }) : wpAny (model P w) A (Builtin.SmallTypes.nextOf (.ref it)) Q E s := by
  obtain ⟨o, ho, hc, hd⟩ := id hit
  obtain ⟨ol, hol, _, nl, hdl⟩ := ht
  unfold Builtin.SmallTypes.nextOf
  refine wpAny_bind (wpAny_callSpecial?_slot (name := Str.ofString "__next__") hit.typeIs F.slot_tuple_iterator_next (wpAny_call_entry F.slot_tuple_iterator_next hit.typeIs F.entry_tuple_iterator_next ?_ (F.args_tuple_iterator_next_1 _)))
  show wpAny _ _ (field (.ref it) 0 >>= _) _ _ s
  refine wpAny_bind (wpAny_field ho hd (x := .ref t) rfl ?_)
  show wpAny _ _ (if (Value.ref t == Value.none) = true then _ else _) _ _ s
  rw [if_neg (show ¬ ((Value.ref t == Value.none) = true) from Bool.false_ne_true)]
  show wpAny _ _ (field (.ref it) 1 >>= _) _ _ s
  refine wpAny_bind (wpAny_field ho hd (x := .int i 0) rfl ?_)
  show wpAny _ _ (seqItems? (.ref t) >>= _) _ _ s
  refine wpAny_bind (wpAny_seqItems hol hdl ?_)
  simp only [Int.toNat_natCast, hx]
  refine wpAny_bind (wpAny_setField ho hd (by simp) (wpAny_pure ⟨x, rfl, wpAny_pure (hQ _ ?_ (Heap.SameBut.update ..))⟩))
  exact ⟨_, Heap.get?_update_self _ ho (Obj.isFreed_of_fields (Obj.data_mapFields hd _)), (Obj.cls_mapFields ..).trans hc, by rw [Obj.data_mapFields hd]; simp [rawInt]⟩
theorem nextOf_tup_end {it t : Addr} {i : Nat} {items : Array Value} {Q : Value → Shared → Prop} (hh : A.handled = none) (hit : s.heap.IsTupleIter it t i) (ht : s.heap.IsTuple t items) (hx : items[i]? = none)
    (hE : ∀ h' e, Heap.ExtBut it s.heap h' → (∃ o, h'.get? e = some o ∧ o.cls = .type "StopIteration") → E (.ref e) { s with heap := h' }) : wpAny (model P w) A (Builtin.SmallTypes.nextOf (.ref it)) Q E s := by
  obtain ⟨o, ho, hc, hd⟩ := id hit
  obtain ⟨ol, hol, _, nl, hdl⟩ := ht
  unfold Builtin.SmallTypes.nextOf
  refine wpAny_bind (wpAny_callSpecial?_slot (name := Str.ofString "__next__") hit.typeIs F.slot_tuple_iterator_next (wpAny_call_entry F.slot_tuple_iterator_next hit.typeIs F.entry_tuple_iterator_next ?_ (F.args_tuple_iterator_next_1 _)))
  show wpAny _ _ (field (.ref it) 0 >>= _) _ _ s
  refine wpAny_bind (wpAny_field ho hd (x := .ref t) rfl ?_)
  show wpAny _ _ (if (Value.ref t == Value.none) = true then _ else _) _ _ s
  rw [if_neg (show ¬ ((Value.ref t == Value.none) = true) from Bool.false_ne_true)]
  show wpAny _ _ (field (.ref it) 1 >>= _) _ _ s
  refine wpAny_bind (wpAny_field ho hd (x := .int i 0) rfl ?_)
  show wpAny _ _ (seqItems? (.ref t) >>= _) _ _ s
  refine wpAny_bind (wpAny_seqItems hol hdl ?_)
  simp only [Int.toNat_natCast, hx]
  refine wpAny_bind (wpAny_rule (wpAny_bind (wpAny_setField ho hd (by simp) ?_)))
  show wpAny _ _ (newExc (.type "StopIteration") [] >>= _) _ _ _
  refine wpAny_bind ?_
  simp only [newExc, newTuple]
  refine wpAny_bind (wpAny_newObj_type ?_ (by size_fits))
  refine wpAny_bind (m := firstArgMember _ _) (wpAny_of_eq (a := Value.none) (by first | rfl | (simp only [firstArgMember]; rfl)) ?_)
  refine wpAny_newObj_type ?_ (by size_fits)
  simp only [raiseNew]
  refine wpAny_bind (wpAny_handled ?_)
  first | rw [show A.in1.handled = none from hh] | rw [hh]
  refine wpAny_bind (wpAny_pure (wpAny_throw ?_))
  exact hE _ _ (((Heap.SameBut.update ..).extBut.push _).push _) ⟨_, Heap.get?_push_size _ rfl, rfl⟩
theorem nextOf_item {b : Bool} {it l : Addr} {k : Nat} {xs : Array Value} {x : Value} {Q : Value → Shared → Prop} (hi : ZI b s.heap it l k) (hs : ZS b s.heap l xs) (hx : xs[k]? = some x)
    (hQ : ∀ h', ZI b h' it l (k + 1) → Heap.SameBut it s.heap h' → Q x { s with heap := h' }) : wpAny (model P w) A (Builtin.SmallTypes.nextOf (.ref it)) Q E s := by
  cases b with
  | true => exact nextOf_tup_item hi hs hx hQ
  | false => exact wpAny_nextOf_list_item hi hs hx hQ
theorem nextOf_end {b : Bool} {it l : Addr} {k : Nat} {xs : Array Value} {Q : Value → Shared → Prop} (hh : A.handled = none) (hi : ZI b s.heap it l k) (hs : ZS b s.heap l xs) (hx : xs[k]? = none)
    (hE : ∀ h' e, Heap.ExtBut it s.heap h' → (∃ o, h'.get? e = some o ∧ o.cls = .type "StopIteration") → E (.ref e) { s with heap := h' }) : wpAny (model P w) A (Builtin.SmallTypes.nextOf (.ref it)) Q E s := by
  cases b with
  | true => exact nextOf_tup_end hh hi hs hx hE
  | false => exact wpAny_nextOf_list_end hh hi hs hx hE
theorem iter_of {b : Bool} {l : Addr} {xs : Array Value} {Q : Value → Shared → Prop} (hs : ZS b s.heap l xs)
    (hQ : Q (.ref s.heap.objs.size) { s with heap := s.heap.push { cls := .type (if b then "tuple_iterator" else "list_iterator"), data := .fields #[.ref l, .int 0 0] } }) : wpAny (model P w) A (pyIter (.ref l)) Q E s := by
  cases b with
  | true => exact wpAny_pyIter_tuple hs hQ
  | false => exact wpAny_pyIter_list hs hQ
end
end L2

namespace L2
open PySem PySem.Spec PyProof.Rows
section
variable {P : Program} {w : World} {A : Around} {E : Value → Shared → Prop} {s : Shared}
structure ZApart (z TI TO i1 i2 l1 l2 : Addr) : Prop where
  a1 : TI ≠ z
  a2 : TO ≠ z
  a3 : i1 ≠ z
  a4 : i2 ≠ z
  a5 : TI ≠ TO
  a6 : TI ≠ i1
  a7 : TI ≠ i2
  a8 : TO ≠ i1
  a9 : TO ≠ i2
  a10 : i1 ≠ i2
  b1 : l1 ≠ z
  b2 : l1 ≠ TO
  b3 : l1 ≠ i1
  b4 : l1 ≠ i2
  c1 : l2 ≠ z
  c2 : l2 ≠ TO
  c3 : l2 ≠ i1
  c4 : l2 ≠ i2
/-- the state of a zip: k pairs handed out, the last one let go -/
structure ZSt (b1 b2 : Bool) (z TI TO i1 i2 l1 l2 : Addr) (f0 : Value) (k : Nat) (h : Heap) : Prop where
  zz : IsZip h z TI TO f0
  ti : IsPair h TI (.ref i1) (.ref i2)
  to : ∃ a b, IsPair h TO a b
  h1 : ZI b1 h i1 l1 k
  h2 : ZI b2 h i2 l2 k
theorem zip_item {b1 b2 : Bool} {z TI TO i1 i2 l1 l2 : Addr} {k : Nat} {xs ys : Array Value} {x y : Value} {Q : Value → Shared → Prop} (D : ZApart z TI TO i1 i2 l1 l2) (S : ZSt b1 b2 z TI TO i1 i2 l1 l2 .none k s.heap)
    (g1 : ZS b1 s.heap l1 xs) (g2 : ZS b2 s.heap l2 ys) (hx : xs[k]? = some x) (hy : ys[k]? = some y)
    (hQ : ∀ h', ZSt b1 b2 z TI TO i1 i2 l1 l2 (rawInt s.heap.objs.size) (k + 1) h' → IsPair h' s.heap.objs.size x y →
      (∀ c o, c ≠ z → c ≠ TO → c ≠ i1 → c ≠ i2 → s.heap.get? c = some o → h'.get? c = some o) → Q (.ref s.heap.objs.size) { s with heap := h' }) :
    wpAny (model P w) A (Builtin.«zip.__next__» ⟨[.ref z], []⟩) (fun fin s' => ∃ v, fin = .done (.ret v) ∧ Q v s') E s := by
  obtain ⟨zz, ti, ⟨a, b, to⟩, h1, h2⟩ := S
  show wpAny _ _ (field (.ref z) 2 >>= _) _ _ _
  refine wpAny_bind (wpAny_field zz rfl (x := .bool false) rfl ?_)
  show wpAny _ _ (field (.ref z) 3 >>= _) _ _ _
  refine wpAny_bind (wpAny_field zz rfl (x := .ref TI) rfl (wpAny_bind (wpAny_seqItems ti rfl ?_)))
  show wpAny _ _ (Builtin.SmallTypes.ownedTupleIsFree (.ref z) >>= _) _ _ _
  refine wpAny_bind ?_
  unfold Builtin.SmallTypes.ownedTupleIsFree
  refine wpAny_bind (wpAny_field zz rfl (x := .none) rfl (wpAny_pure ?_))
  simp only [if_true]
  refine wpAny_bind (wpAny_rule (wpAny_bind (wpAny_field zz rfl (x := .ref TO) rfl (wpAny_bind (wpAny_setField_rec zz (by simp) fun H1 z1 k1 => ?_)))))
  replace z1 : IsZip H1 z TI TO .ellipsis := z1
  refine wpAny_bind ?_
  simp only [List.zipIdx_cons, List.zipIdx_nil, List.forIn_cons, List.forIn_nil]
  -- the first one
  refine wpAny_bind (wpAny_bind (wpAny_onRaise ?_))
  show wpAny _ _ (Builtin.SmallTypes.nextOf (.ref i1) >>= _) _ _ _
  refine wpAny_bind (nextOf_item (h1.at fun o e => k1.extBut _ o D.a3 e) (g1.at fun o e => k1.extBut _ o D.b1 e) hx fun H2 j1 k2 => wpAny_pure ?_)
  have t2 : IsPair H2 TO a b := k2.extBut _ _ D.a8 (k1.extBut _ _ D.a2 to)
  refine wpAny_bind (wpAny_seqItems t2 rfl (wpAny_bind (wpAny_updateSeq_pair t2 fun H3 t3 k3 => ?_)))
  replace t3 : IsPair H3 TO x b := t3
  refine wpAny_bind (wpAny_letGo (wpAny_pure ?_))
  -- the second one
  refine wpAny_bind (wpAny_bind (wpAny_onRaise ?_))
  show wpAny _ _ (Builtin.SmallTypes.nextOf (.ref i2) >>= _) _ _ _
  have u3 : ∀ c o, c ≠ z → c ≠ TO → c ≠ i1 → s.heap.get? c = some o → H3.get? c = some o := fun c o c1 c2 c3 e => k3.extBut _ _ c2 (k2.extBut _ _ c3 (k1.extBut _ _ c1 e))
  refine wpAny_bind (nextOf_item (h2.at fun o e => u3 _ o D.a4 (Ne.symm D.a9) (Ne.symm D.a10) e) (g2.at fun o e => u3 _ o D.c1 D.c2 D.c3 e) hy fun H4 j2 k4 => wpAny_pure ?_)
  have t4 : IsPair H4 TO x b := k4.extBut _ _ D.a9 t3
  refine wpAny_bind (wpAny_seqItems t4 rfl (wpAny_bind (wpAny_updateSeq_pair t4 fun H5 t5 k5 => ?_)))
  replace t5 : IsPair H5 TO x y := t5
  refine wpAny_bind (wpAny_letGo (wpAny_pure (wpAny_pure (wpAny_bind (wpAny_seqItems t5 rfl (wpAny_bind (wpAny_newTuple ?_)))))))
  have sz : H5.objs.size = s.heap.objs.size := by rw [k5.1, k4.1, k3.1, k2.1, k1.1]
  have z5 : IsZip H5 z TI TO .ellipsis := k5.extBut _ _ (Ne.symm D.a2) (k4.extBut _ _ (Ne.symm D.a4) (k3.extBut _ _ (Ne.symm D.a2) (k2.extBut _ _ (Ne.symm D.a3) z1)))
  have u5 : ∀ c o, c ≠ z → c ≠ TO → c ≠ i1 → c ≠ i2 → s.heap.get? c = some o → H5.get? c = some o := fun c o c1 c2 c3 c4 e => k5.extBut _ _ c2 (k4.extBut _ _ c4 (u3 c o c1 c2 c3 e))
  have j1' : ZI b1 H5 i1 l1 (k + 1) := j1.at fun o e => k5.extBut _ _ (Ne.symm D.a8) (k4.extBut _ _ D.a10 (k3.extBut _ _ (Ne.symm D.a8) e))
  have j2' : ZI b2 H5 i2 l2 (k + 1) := j2.at fun o e => k5.extBut _ _ (Ne.symm D.a9) e
  have ltz : z < H5.objs.size := Heap.lt_size z5
  show wpAny _ _ (Builtin.SmallTypes.ownedTupleHandOut (.ref z) (.ref H5.objs.size) >>= _) _ _ _
  refine wpAny_bind ?_
  unfold Builtin.SmallTypes.ownedTupleHandOut
  have z6 : IsZip (H5.push { cls := .type "tuple", data := .seq #[x, y] }) z TI TO .ellipsis := Heap.get?_push_of_some _ z5
  refine wpAny_bind (wpAny_setField_rec z6 (by simp) fun H7 z7 k7 => ?_)
  replace z7 : IsZip H7 z TI TO (rawInt H5.objs.size) := z7
  refine wpAny_setField_rec z7 (by simp) fun H8 z8 k8 => ?_
  replace z8 : IsZip H8 z TI TO (rawInt H5.objs.size) := z8
  have up : ∀ c o, c ≠ z → H5.get? c = some o → H8.get? c = some o := fun c o c1 e => k8.extBut _ _ c1 (k7.extBut _ _ c1 (Heap.get?_push_of_some _ e))
  have t8 : IsPair H8 H5.objs.size x y := k8.extBut _ _ (Nat.ne_of_gt ltz) (k7.extBut _ _ (Nat.ne_of_gt ltz) (Heap.get?_push_size _ rfl))
  rw [sz] at z8 t8
  refine wpAny_pure ⟨_, rfl, ?_⟩
  show Q (.ref H5.objs.size) _
  rw [sz]
  exact hQ H8 ⟨z8, up _ _ D.a1 (u5 _ _ D.a1 D.a5 D.a6 D.a7 ti), ⟨_, _, up _ _ D.a2 t5⟩, j1'.at fun o e => up _ o D.a3 e, j2'.at fun o e => up _ o D.a4 e⟩ t8 fun c o c1 c2 c3 c4 e => up c o c1 (u5 c o c1 c2 c3 c4 e)
theorem zip_stop {b1 b2 : Bool} {z TI TO i1 i2 l1 l2 : Addr} {k : Nat} {xs ys : Array Value} {Q : Fin → Shared → Prop} (hh : A.handled = none) (D : ZApart z TI TO i1 i2 l1 l2) (S : ZSt b1 b2 z TI TO i1 i2 l1 l2 .none k s.heap)
    (g1 : ZS b1 s.heap l1 xs) (g2 : ZS b2 s.heap l2 ys) (hend : xs[k]? = none ∨ ys[k]? = none)
    (hE : ∀ h' e, (∀ c o, c ≠ z → c ≠ TO → c ≠ i1 → c ≠ i2 → s.heap.get? c = some o → h'.get? c = some o) → (∃ o, h'.get? e = some o ∧ o.cls = .type "StopIteration") → E (.ref e) { s with heap := h' }) :
    wpAny (model P w) A (Builtin.«zip.__next__» ⟨[.ref z], []⟩) Q E s := by
  obtain ⟨zz, ti, ⟨a, b, to⟩, h1, h2⟩ := S
  show wpAny _ _ (field (.ref z) 2 >>= _) _ _ _
  refine wpAny_bind (wpAny_field zz rfl (x := .bool false) rfl ?_)
  show wpAny _ _ (field (.ref z) 3 >>= _) _ _ _
  refine wpAny_bind (wpAny_field zz rfl (x := .ref TI) rfl (wpAny_bind (wpAny_seqItems ti rfl ?_)))
  show wpAny _ _ (Builtin.SmallTypes.ownedTupleIsFree (.ref z) >>= _) _ _ _
  refine wpAny_bind ?_
  unfold Builtin.SmallTypes.ownedTupleIsFree
  refine wpAny_bind (wpAny_field zz rfl (x := .none) rfl (wpAny_pure ?_))
  simp only [if_true]
  refine wpAny_bind (wpAny_rule (wpAny_bind (wpAny_field zz rfl (x := .ref TO) rfl (wpAny_bind (wpAny_setField_rec zz (by simp) fun H1 z1 k1 => ?_)))))
  replace z1 : IsZip H1 z TI TO .ellipsis := z1
  refine wpAny_bind ?_
  simp only [List.zipIdx_cons, List.zipIdx_nil, List.forIn_cons, List.forIn_nil]
  refine wpAny_bind (wpAny_bind (wpAny_onRaise ?_))
  show wpAny _ _ (Builtin.SmallTypes.nextOf (.ref i1) >>= _) _ _ _
  have q1 := h1.at fun o e => k1.extBut _ o D.a3 e
  have q2 := g1.at fun o e => k1.extBut _ o D.b1 e
  cases hx : xs[k]? with
  | none =>
    refine wpAny_bind (nextOf_end hh q1 q2 hx fun H2 e k2 he => ?_)
    obtain ⟨oe, hoe, hce⟩ := he
    have z2 : IsZip H2 z TI TO .ellipsis := k2 _ _ (Ne.symm D.a3) z1
    have hez : e ≠ z := fun q => by subst q; rw [z2] at hoe; cases hoe; simp at hce
    exact wpAny_setField_rec z2 (by simp) fun H3 _ k3 => hE H3 e (fun c o c1 _ c3 _ q => k3.extBut _ _ c1 (k2 _ _ c3 (k1.extBut _ _ c1 q))) ⟨oe, k3.extBut _ _ hez hoe, hce⟩
  | some x =>
    have hy : ys[k]? = none := by
      rcases hend with q | q
      · rw [hx] at q; cases q
      · exact q
    refine wpAny_bind (nextOf_item q1 q2 hx fun H2 j1 k2 => wpAny_pure ?_)
    have t2 : IsPair H2 TO a b := k2.extBut _ _ D.a8 (k1.extBut _ _ D.a2 to)
    refine wpAny_bind (wpAny_seqItems t2 rfl (wpAny_bind (wpAny_updateSeq_pair t2 fun H3 t3 k3 => ?_)))
    refine wpAny_bind (wpAny_letGo (wpAny_pure (wpAny_bind (wpAny_bind (wpAny_onRaise ?_)))))
    show wpAny _ _ (Builtin.SmallTypes.nextOf (.ref i2) >>= _) _ _ _
    have u3 : ∀ c o, c ≠ z → c ≠ TO → c ≠ i1 → s.heap.get? c = some o → H3.get? c = some o := fun c o c1 c2 c3 e => k3.extBut _ _ c2 (k2.extBut _ _ c3 (k1.extBut _ _ c1 e))
    refine wpAny_bind (nextOf_end hh (h2.at fun o e => u3 _ o D.a4 (Ne.symm D.a9) (Ne.symm D.a10) e) (g2.at fun o e => u3 _ o D.c1 D.c2 D.c3 e) hy fun H4 e k4 he => ?_)
    obtain ⟨oe, hoe, hce⟩ := he
    have z4 : IsZip H4 z TI TO .ellipsis := k4 _ _ (Ne.symm D.a4) (k3.extBut _ _ (Ne.symm D.a2) (k2.extBut _ _ (Ne.symm D.a3) z1))
    have hez : e ≠ z := fun q => by subst q; rw [z4] at hoe; cases hoe; simp at hce
    exact wpAny_setField_rec z4 (by simp) fun H5 _ k5 => hE H5 e (fun c o c1 c2 c3 c4 q => k5.extBut _ _ c1 (k4 _ _ c4 (u3 c o c1 c2 c3 q))) ⟨oe, k5.extBut _ _ hez hoe, hce⟩
theorem next_zip_end {b1 b2 : Bool} {z TI TO i1 i2 l1 l2 : Addr} {k : Nat} {xs ys : Array Value} {Q : Option Value → Shared → Prop} (hh : A.handled = none) (D : ZApart z TI TO i1 i2 l1 l2) (S : ZSt b1 b2 z TI TO i1 i2 l1 l2 .none k s.heap)
    (g1 : ZS b1 s.heap l1 xs) (g2 : ZS b2 s.heap l2 ys) (hend : xs[k]? = none ∨ ys[k]? = none)
    (hQ : ∀ h', (∀ c o, c ≠ z → c ≠ TO → c ≠ i1 → c ≠ i2 → s.heap.get? c = some o → h'.get? c = some o) → Q none { s with heap := h' }) : wpAny (model P w) A (pyNext (.ref z)) Q E s := by
  have hT : s.TypeIs (.ref z) "zip" := ⟨_, S.zz, rfl⟩
  unfold pyNext
  refine wpAny_bind (wpAny_attempt (wpAny_callSpecial?_slot (name := Str.ofString "__next__") hT F.slot_zip_next (wpAny_call_entry F.slot_zip_next hT F.entry_zip_next (zip_stop hh D S g1 g2 hend fun h' e hk he => ?_) (F.args_zip_next_1 _))))
  obtain ⟨o, ho, hc⟩ := he
  exact wpAny_bind (wpAny_isInstance (T := "StopIteration") (b := true) ⟨o, ho, hc⟩ isSubtype_stop (wpAny_pure (hQ _ hk)))
end
end L2

namespace L2
open PySem PySem.Spec PyProof.Rows
abbrev itOb (b : Bool) (l : Addr) : Obj := { cls := .type (if b then "tuple_iterator" else "list_iterator"), data := .fields #[.ref l, .int 0 0] }
abbrev zh1 (h : Heap) (b1 : Bool) (l1 : Addr) : Heap := h.push (itOb b1 l1)
abbrev zh2 (h : Heap) (b1 b2 : Bool) (l1 l2 : Addr) : Heap := (zh1 h b1 l1).push (itOb b2 l2)
abbrev zh3 (h : Heap) (b1 b2 : Bool) (l1 l2 : Addr) : Heap := (zh2 h b1 b2 l1 l2).push { cls := .type "tuple", data := .seq #[.ref h.objs.size, .ref (zh1 h b1 l1).objs.size] }
abbrev zh4 (h : Heap) (b1 b2 : Bool) (l1 l2 : Addr) : Heap := (zh3 h b1 b2 l1 l2).push { cls := .type "tuple", data := .seq #[.none, .none] }
abbrev zh5 (h : Heap) (b1 b2 : Bool) (l1 l2 : Addr) : Heap := (zh4 h b1 b2 l1 l2).push { cls := .type "zip", data := .fields #[.none, .bool false, .bool false, .ref (zh2 h b1 b2 l1 l2).objs.size, .ref (zh3 h b1 b2 l1 l2).objs.size] }
theorem meets_zip (b1 b2 : Bool) (l1 l2 : Addr) (xs ys : Array Value) :
    Meets (Builtin.«zip.__new__» ⟨[.type "zip", .ref l1, .ref l2], []⟩) (fun _ R s => ZS b1 s.heap l1 xs ∧ ZS b2 s.heap l2 ys ∧ R (.ok (.ret (.ref (zh4 s.heap b1 b2 l1 l2).objs.size))) { s with heap := zh5 s.heap b1 b2 l1 l2 }) :=
  .of_wp fun prog w A R s h => by
    obtain ⟨hp, g, d, tk, os⟩ := s
    obtain ⟨hl1, hl2, h⟩ := h
    have hsub := sub_zip
    have q1 : ZS b1 (Shared.heap ⟨hp, g, d, tk, os⟩) l1 xs := hl1
    have q2 : ZS b2 (Shared.heap ⟨hp.push (itOb b1 l1), g, d, tk, os⟩) l2 ys := hl2.at fun o e => Heap.get?_push_of_some _ e
    wp_walk using iter_of q1, iter_of q2
    exact ⟨_, rfl, h⟩
section
variable {P : Program} {w : World} {A : Around} {E : Value → Shared → Prop} {s : Shared}
theorem call_zip {b1 b2 : Bool} {l1 l2 : Addr} {xs ys : Array Value} {Q : Value → Shared → Prop} (g1 : ZS b1 s.heap l1 xs) (g2 : ZS b2 s.heap l2 ys)
    (h : ∀ h', ZSt b1 b2 (s.heap.objs.size + 4) (s.heap.objs.size + 2) (s.heap.objs.size + 3) s.heap.objs.size (s.heap.objs.size + 1) l1 l2 .none 0 h' → (∀ c o, s.heap.get? c = some o → h'.get? c = some o) → Q (.ref (s.heap.objs.size + 4)) { s with heap := h' }) :
    wpAny (model P w) A (call (.type "zip") [.ref l1, .ref l2]) Q E s := by
  refine callType_new F.called_zip (by decide) (F.typeCall_zip_2 _ _) (F.newCall_zip_2 _ _) (fun obj => F.args_object_init_3 obj _ _) F.entry_zip_new (meets_zip b1 b2 l1 l2 xs ys) ⟨g1, g2, ?_⟩
  have z1 : (zh1 s.heap b1 l1).objs.size = s.heap.objs.size + 1 := Heap.size_push ..
  have z2 : (zh2 s.heap b1 b2 l1 l2).objs.size = s.heap.objs.size + 2 := by rw [Heap.size_push, z1]
  have z3 : (zh3 s.heap b1 b2 l1 l2).objs.size = s.heap.objs.size + 3 := by rw [Heap.size_push, z2]
  have z4 : (zh4 s.heap b1 b2 l1 l2).objs.size = s.heap.objs.size + 4 := by rw [Heap.size_push, z3]
  have e5 : (zh5 s.heap b1 b2 l1 l2).get? (zh4 s.heap b1 b2 l1 l2).objs.size = some _ := Heap.get?_push_size _ rfl
  have e4 : (zh5 s.heap b1 b2 l1 l2).get? (zh3 s.heap b1 b2 l1 l2).objs.size = some _ := Heap.get?_push_of_some _ (Heap.get?_push_size _ rfl)
  have e3 : (zh5 s.heap b1 b2 l1 l2).get? (zh2 s.heap b1 b2 l1 l2).objs.size = some _ := Heap.get?_push_of_some _ (Heap.get?_push_of_some _ (Heap.get?_push_size _ rfl))
  have e2 : (zh5 s.heap b1 b2 l1 l2).get? (zh1 s.heap b1 l1).objs.size = some _ := Heap.get?_push_of_some _ (Heap.get?_push_of_some _ (Heap.get?_push_of_some _ (Heap.get?_push_size _ rfl)))
  have e1 : (zh5 s.heap b1 b2 l1 l2).get? s.heap.objs.size = some _ := Heap.get?_push_of_some _ (Heap.get?_push_of_some _ (Heap.get?_push_of_some _ (Heap.get?_push_of_some _ (Heap.get?_push_size _ rfl))))
  show _ ∧ _
  rw [z2, z3, z4] at e5
  rw [z1, z2] at e3
  rw [z3] at e4
  rw [z1] at e2
  rw [z4]
  exact ⟨⟨_, e5, rfl⟩, h _ ⟨e5, e3, ⟨_, _, e4⟩, ⟨_, e1, rfl, rfl⟩, ⟨_, e2, rfl, rfl⟩⟩ fun c o q => Heap.get?_push_of_some _ (Heap.get?_push_of_some _ (Heap.get?_push_of_some _ (Heap.get?_push_of_some _ (Heap.get?_push_of_some _ q))))⟩
theorem zapart_new {n l1 l2 : Addr} (h1 : l1 < n) (h2 : l2 < n) : ZApart (n + 4) (n + 2) (n + 3) n (n + 1) l1 l2 := by
  have e : ∀ (a b : Nat), a ≠ b → n + a ≠ n + b := fun a b h q => h (Nat.add_left_cancel q)
  have f : ∀ (l : Addr) (a : Nat), l < n → l ≠ n + a := fun l a h => Nat.ne_of_lt (Nat.lt_of_lt_of_le h (Nat.le_add_right n a))
  exact ⟨e 2 4 (by decide), e 3 4 (by decide), e 0 4 (by decide), e 1 4 (by decide), e 2 3 (by decide), e 2 0 (by decide), e 2 1 (by decide), e 3 0 (by decide), e 3 1 (by decide), e 0 1 (by decide),
    f l1 4 h1, f l1 3 h1, f l1 0 h1, f l1 1 h1, f l2 4 h2, f l2 3 h2, f l2 0 h2, f l2 1 h2⟩
end
/-! ### the iterator's records have turned, a thing may have been laid -/
section
variable {X : Cx} {pins : List (Addr × Obj)} {σ : St} {H : Hp} {s : Shared} {h' : Heap} {fp : List Addr}
theorem Inv.turnedAll {t' : Nat} (I : Inv X pins σ H s) (hf : ∀ b ∈ fp, FpOk X pins H b) (k : ∀ c o, c ∉ fp → s.heap.get? c = some o → h'.get? c = some o) : Inv X pins σ H { s with heap := h', toks := t' } := by
  have nfp : ∀ b u, H b = some u → b ∉ fp := fun b u e z => by rw [(hf b z).1] at e; cases e
  refine I.step (g' := s.gens) (d' := s.drawn) (ch := fp) (fun b hb => ?_) (fun b o _ _ hc e _ => k b o hc e) (fun b o _ _ hc e _ => ⟨o.slots, k b o hc e⟩) (fun _ _ _ _ n => n) (fun b o hc e => ⟨o, k b o hc e⟩)
    (fun _ _ e => e) (fun _ _ _ e => e) (fun b ps e => ⟨#[], by rw [e]; simp⟩) (fun m hm => ?_) (fun b u e => ?_) I.bare
  · obtain ⟨f0, f1, f2, f3, f4, f5⟩ := hf b hb
    exact ⟨f3, f1, f4, f5⟩
  · obtain ⟨o, es, ep, ho, r⟩ := hm
    exact ⟨o, es, ep, k _ o (fun z => (hf _ z).2.1 rfl) ho, r⟩
  · refine (I.hok b u e).stay (fun c v hc q => k c v ?_ q) (fun _ q => q) fun _ _ q => q
    rcases hc with z | z
    · rw [z]; exact nfp b u e
    · exact nfp c _ z
theorem Inv.turnedLaid {t' : Nat} {p : Addr} {o' : HO} (I : Inv X pins σ H s) (hf : ∀ b ∈ fp, FpOk X pins H b) (k : ∀ c o, c ∉ fp → s.heap.get? c = some o → h'.get? c = some o) (hp : s.heap.objs.size ≤ p) (new : ObjOk X.prog X.w (upd H p o') h' p o') :
    Inv X pins σ (upd H p o') { s with heap := h', toks := t' } := by
  have nfp : ∀ b u, H b = some u → b ∉ fp := fun b u e z => by rw [(hf b z).1] at e; cases e
  have hn : H p = none := I.hok.fresh hp
  have np : ∀ b u, H b = some u → b ≠ p := fun b u e => ne_of_none e hn
  have lt : ∀ b o, s.heap.get? b = some o → b ≠ p := fun b o e => Nat.ne_of_lt (Nat.lt_of_lt_of_le (Heap.lt_size e) hp)
  refine I.step (g' := s.gens) (d' := s.drawn) (ch := fp) (fun b hb => ?_) (fun b o _ _ hc e _ => k b o hc e) (fun b o _ _ hc e _ => ⟨o.slots, k b o hc e⟩) (fun b o _ e n => by rw [upd_ne (lt b o e)]; exact n) (fun b o hc e => ⟨o, k b o hc e⟩)
    (fun b _ e => by rw [upd_ne (np _ _ e)]; exact e) (fun b _ _ e => by rw [upd_ne (np _ _ e)]; exact e) (fun b ps e => ⟨#[], by rw [upd_ne (np _ _ e), e]; simp⟩) (fun m hm => ?_) (fun b u e => ?_) I.bare
  · obtain ⟨f0, f1, f2, f3, f4, f5⟩ := hf b hb
    exact ⟨f3, f1, f4, f5⟩
  · obtain ⟨o, es, ep, ho, r⟩ := hm
    exact ⟨o, es, ep, k _ o (fun z => (hf _ z).2.1 rfl) ho, r⟩
  · by_cases hb : b = p
    · subst hb; rw [upd_same] at e; cases e; exact new
    · rw [upd_ne hb] at e
      refine (I.hok b u e).stay (fun c v hc q => k c v ?_ q) (fun c q => by rw [upd_ne (np _ _ q)]; exact q) fun c ys q => by rw [upd_ne (np _ _ q)]; exact q
      rcases hc with z | z
      · rw [z]; exact nfp b u e
      · exact nfp c _ z
end
/-- a list or a tuple that is read -/
def SqB (K : PySem.W.Frag) (b : Bool) (H : Hp) (a : Addr) (xs : List V) : Prop := if b then SqT K H a xs else SqL K H a xs
theorem Inv.seqB {X : Cx} {pins : List (Addr × Obj)} {σ : St} {H : Hp} {s : Shared} {b : Bool} {a : Addr} {xs : List V} (I : Inv X pins σ H s) (h : SqB X.K b H a xs) : ∃ its : List Value, Vals xs its ∧ ZS b s.heap a its.toArray ∧ xs.length ≤ sizeLine := by
  cases b with
  | true =>
    obtain ⟨its, r, p, z⟩ := I.tuple h
    exact ⟨its, r, p, z⟩
  | false =>
    obtain ⟨its, r, p, z⟩ := I.list h
    exact ⟨its, r, p.isList, z⟩
section
variable {X : Cx}
end
end L2

namespace L2
open PySem PySem.Spec PyProof.Rows
/-! ### sum of ints -/
theorem preSum_list (ns : List Int) : ∀ k, k ≤ ns.length → preSum (fun i => ns.getD i 0) k = (ns.take k).sum
  | 0, _ => by simp [preSum]
  | k + 1, h => by
    have e : ns.take (k + 1) = ns.take k ++ [ns.getD k 0] := by
      rw [List.take_add_one, List.getElem?_eq_getElem (by omega)]
      simp [List.getD, List.getElem?_eq_getElem (show k < ns.length by omega)]
    rw [preSum, preSum_list ns k (by omega), e, List.sum_append]
    simp
theorem ints_get {ns : List Int} {its : List Value} (r : Vals (ns.map V.int) its) {i : Nat} {v : Value} (e : its.toArray[i]? = some v) : ∃ t, v = .int (ns.getD i 0) t := by
  have e' : its[i]? = some v := by simpa using e
  have hi : i < its.length := (List.getElem?_eq_some_iff.mp e').1
  have hl := r.length
  rw [List.length_map] at hl
  have hx : (ns.map V.int)[i]? = some (V.int (ns.getD i 0)) := by
    rw [List.getElem?_map, List.getElem?_eq_getElem (show i < ns.length by omega)]
    simp [List.getD, List.getElem?_eq_getElem (show i < ns.length by omega)]
  obtain ⟨u, hu, ru⟩ := r.get hx
  rw [e'] at hu
  cases hu
  exact ru
section
variable {X : Cx}
def rSum (K : PySem.W.Frag) (b : Bool) : List V → Hp → VK → Prop := fun xs H Q => ∃ (p : Addr) (ns : List Int), xs = [.ref p] ∧ SqB K b H p (ns.map V.int) ∧ Q (.int ns.sum) H
theorem call_sum (hc : X.calm = true) (b : Bool) : CallR X (.builtin "sum") (rSum X.K b) := by
  intro pins s σ H xs us Q I r h
  obtain ⟨p, ns, rfl, hq, q⟩ := h
  obtain ⟨u, rfl, ru⟩ := vals1 r
  cases ru
  obtain ⟨its, rv, zs, hz⟩ := I.seqB hq
  have hlen := rv.length
  rw [List.length_map] at hlen
  have hlt : p < s.heap.objs.size := by obtain ⟨o, e, _⟩ := zs; exact Heap.lt_size e
  refine call_sum_walkG (iter_of zs ?_)
  have sum_eq : preSum (fun i => ns.getD i 0) its.toArray.size = ns.sum := by
    rw [List.size_toArray, ← hlen, preSum_list ns _ (Nat.le_refl _), List.take_length]
  have fin : ∀ (h' : Heap) (tk : Nat) (t' : Tok), (∀ c o, c ∉ [s.heap.objs.size] → (s.heap.push (itOb b p)).get? c = some o → h'.get? c = some o) → EP X pins σ Q (.int (preSum (fun i => ns.getD i 0) its.toArray.size) t') { s with heap := h', toks := tk } := by
    intro h' tk t' k
    rw [sum_eq]
    exact ⟨.int ns.sum, H, I.kept fun c o e => k c o (by simp only [List.mem_singleton]; exact Nat.ne_of_lt (Heap.lt_size e)) (Heap.get?_push_of_some _ e), ⟨_, rfl⟩, q⟩
  have hfp : ∀ c ∈ [s.heap.objs.size, p], c < (s.heap.push (itOb b p)).objs.size := fun c hc => by
    rw [Heap.size_push]
    simp only [List.mem_cons, List.not_mem_nil, or_false] at hc
    rcases hc with rfl | rfl
    · exact Nat.lt_succ_self _
    · exact Nat.lt_succ_of_lt hlt
  cases b with
  | true => exact ⟨_, _, _, _, _, _, fun i => ns.getD i 0, rfl, Walks.tuple (A := X.A.in1) (I.ok.hd hc) _ p (Nat.ne_of_lt hlt) its.toArray, ⟨⟨_, Heap.get?_push_size _ rfl, rfl, rfl⟩, zs.at fun o e => Heap.get?_push_of_some _ e⟩, hfp, fun i v e => ints_get rv e, fin⟩
  | false => exact ⟨_, _, _, _, _, _, fun i => ns.getD i 0, rfl, Walks.list (A := X.A.in1) (I.ok.hd hc) _ p (Nat.ne_of_lt hlt) its.toArray, ⟨⟨_, Heap.get?_push_size _ rfl, rfl, rfl⟩, zs.at fun o e => Heap.get?_push_of_some _ e⟩, hfp, fun i v e => ints_get rv e, fin⟩

/-! ### isinstance -/
end
end L2

namespace L2
open PySem PySem.Spec PyProof.Rows
/-! ### == and != of lists, of tuples, whose items are flat -/
def eqVs (xs ys : List V) : Bool := xs.length == ys.length && (List.range xs.length).all fun j => eqV (xs.getD j .non) (ys.getD j .non)
theorem eqVs_len {xs ys : List V} (h : xs.length ≠ ys.length) : eqVs xs ys = false := by
  unfold eqVs
  rw [beq_eq_false_iff_ne.mpr h, Bool.false_and]
section
variable {X : Cx}
def rEqS (K : PySem.W.Frag) (b neg : Bool) : R2 := fun x y H Q => ∃ p q xs ys, x = .ref p ∧ y = .ref q ∧ SqB K b H p xs ∧ SqB K b H q ys ∧ xs.all flatV = true ∧ ys.all flatV = true ∧ Q (.bl (if neg then !eqVs xs ys else eqVs xs ys)) H
theorem eqs_items {A : Around} {s : Shared} {xs ys : List V} {its its2 : List Value} (r1 : Vals xs its) (r2 : Vals ys its2) (f1 : xs.all flatV = true) (f2 : ys.all flatV = true) :
    ∀ (j : Nat) (h1 : j < its.toArray.size) (h2 : j < its2.toArray.size), SeqAt.EqAt A s its.toArray[j] its2.toArray[j] (eqV (xs.getD j .non) (ys.getD j .non)) := by
  intro j h1 h2
  have l1 := r1.length
  have l2 := r2.length
  rw [List.size_toArray] at h1 h2
  have g1 : xs[j]? = some (xs.getD j .non) := by simp [List.getD, List.getElem?_eq_getElem (show j < xs.length by omega)]
  have g2 : ys[j]? = some (ys.getD j .non) := by simp [List.getD, List.getElem?_eq_getElem (show j < ys.length by omega)]
  obtain ⟨u1, e1, q1⟩ := r1.get g1
  obtain ⟨u2, e2, q2⟩ := r2.get g2
  have z1 : its.toArray[j] = u1 := by
    have := List.getElem?_eq_some_iff.mp e1
    simpa using this.2
  have z2 : its2.toArray[j] = u2 := by
    have := List.getElem?_eq_some_iff.mp e2
    simpa using this.2
  rw [z1, z2]
  rw [List.all_eq_true] at f1 f2
  exact eqAt_V q1 q2 (f1 _ (List.mem_of_getElem? g1)) (f2 _ (List.mem_of_getElem? g2))
theorem op_eq_seq (b : Bool) (hu : X.A.units < cLine) : OpR X (compareOp .Eq) (rEqS X.K b false) := by
  intro pins s σ H x y v u Q I rx ry h
  obtain ⟨p, q, xs, ys, rfl, rfl, hp, hq, f1, f2, k⟩ := h
  cases rx
  cases ry
  obtain ⟨its, r1, z1, _⟩ := I.seqB hp
  obtain ⟨its2, r2, z2, _⟩ := I.seqB hq
  have l1 := r1.length
  have l2 := r2.length
  have fin : ∀ c : Bool, c = eqVs xs ys → EP X pins σ Q (.bool c) s := fun c e => ⟨.bl c, H, I, rfl, by rw [e]; exact k⟩
  cases b with
  | false =>
    by_cases hl : xs.length = ys.length
    · refine SeqAt.eq_listAt z1 z2 (by rw [List.size_toArray, List.size_toArray]; omega) hu (eqs_items r1 r2 f1 f2) (fin _ ?_)
      unfold eqVs
      rw [hl, beq_self_eq_true, Bool.true_and, List.size_toArray, ← l1, hl]
    · refine SeqAt.eq_list_lengthsAt z1 z2 (by rw [List.size_toArray, List.size_toArray, bne_iff_ne]; omega) hu (fin _ ?_)
      rw [eqVs_len hl]
  | true =>
    refine SeqAt.eq_tupleAt z1 z2 hu (eqs_items r1 r2 f1 f2) (fin _ ?_)
    rw [List.size_toArray, List.size_toArray, ← l1, ← l2]
    by_cases hl : xs.length = ys.length
    · unfold eqVs
      rw [hl, beq_self_eq_true, Bool.true_and, Bool.and_true, Nat.min_self]
    · rw [eqVs_len hl, beq_eq_false_iff_ne.mpr hl, Bool.and_false]
end
end L2

namespace L2
open PySem PySem.Spec PyProof.Rows
/-! ### the same rules over a named K: for a comprehension's block, whose reading may not lean on the block -/
section
variable {X : Cx} {K : PySem.W.Frag}
theorem ixL (h : X.K = K) : IxR X (rIxL K) := h ▸ ix_list
theorem ixT (h : X.K = K) : IxR X (rIxT K) := h ▸ ix_tup
theorem slL (h : X.K = K) : SlR X (rSlL K) := h ▸ sl_list
def rLen (K : PySem.W.Frag) : List V → Hp → VK → Prop := fun xs H Q => ∃ p ys, xs = [.ref p] ∧ (SqL K H p ys ∨ SqT K H p ys) ∧ Q (.int ys.length) H
theorem cLen (h : X.K = K) : CallR X (.builtin "len") (rLen K) := h ▸ call_len_seq
theorem cSum (h : X.K = K) (hc : X.calm = true) (b : Bool) : CallR X (.builtin "sum") (rSum K b) := h ▸ call_sum hc b
def rTuple (K : PySem.W.Frag) : List V → Hp → VK → Prop := fun xs H Q => ∃ p ys, xs = [.ref p] ∧ ((SqL K H p ys ∧ ∀ l, H l = none → Q (.ref l) (upd H l (.tup ys))) ∨ (SqT K H p ys ∧ Q (.ref p) H))
theorem cTuple (h : X.K = K) : CallR X (.type "tuple") (rTuple K) := h ▸ call_tuple_of
theorem oEq (h : X.K = K) (b : Bool) (hu : X.A.units < cLine) : OpR X (compareOp .Eq) (rEqS K b false) := h ▸ op_eq_seq b hu
theorem piL {tg l : Expr} {tl : TE} (h : X.K = K) (hl : PE X l tl) : PI X tg l (iList K tl) := h ▸ pi_list hl
theorem piT {tg l : Expr} {tl : TE} (h : X.K = K) (hl : PE X l tl) : PI X tg l (iTup K tl) := h ▸ pi_tup hl
theorem pgT {es : List Expr} {k : Nat} {t : TGs} {n : Nat} {pos : Pos} (h : X.K = K) (hc : X.calm = true) (hh : PGs X es t) (hn : (assignEach es X.env).length = n := by rfl) (hst : (assignEach es X.env).findIdx? (·.1) = none := by rfl) :
    PG X (.Tuple es k pos) (gTup K n t) := h ▸ pg_tup hc hh hn hst
end
end L2

namespace HT
open PySem PyProof.Rows
section
variable {prog : Program} {w : World} {A : Around} {E : Value → Shared → Prop} {s : Shared}
/-- the whole of a tuple is the tuple itself -/
theorem getItem_tuple_all {t sl : Addr} {items : Array Value} {vl vu : Value} {lo hi : Option Int} {Q : Value → Shared → Prop} (ht : IsTup s.heap t items) (hs : s.heap.IsSliceOf sl vl vu .none) (pl : IsPart vl lo) (pu : IsPart vu hi)
    (hw : sIx items.size 0 lo = 0 ∧ sIx items.size items.size hi = items.size) (h : Q (.ref t) s) : wpAny (model prog w) A (getItem (.ref t) (.ref sl)) Q E s := by
  obtain ⟨os, hos, hcs, hds⟩ := id hs
  have hTs : s.TypeIs (.ref sl) "slice" := ⟨os, hos, hcs⟩
  unfold getItem
  try with_reducible refine wpAny_holding ?_
  first | refine wpAny_bind (wpAny_pure ?_) | skip
  refine wpAny_bind (wpAny_sequenceKey ht.typeIs (by decide) ?_)
  refine wpAny_bind (wpAny_callSpecial?_slot (name := Str.ofString "__getitem__") ht.typeIs PyProof.Rows.slot_tuple_getitem (wpAny_call_entry PyProof.Rows.slot_tuple_getitem ht.typeIs entry_tuple_getitem ?_ (args_tuple_getitem _ _)))
  show wpAny _ _ (Builtin.Tuple.tupleItemsOf (.ref t) >>= _) _ _ s
  refine wpAny_bind (tupleItemsOf_ ht (wpAny_bind (wpAny_typeOf hTs ?_)))
  rw [if_pos (by decide)]
  refine wpAny_bind (sliceApplied_gen hs pl pu ?_)
  have yes : (((sIx items.size 0 lo : Nat) : Int) == 0 && (1 : Int) == 1 && (sIx items.size items.size hi - sIx items.size 0 lo) == items.size) = true := by
    rw [hw.1, hw.2]; simp
  show wpAny _ _ (if (((sIx items.size 0 lo : Nat) : Int) == 0 && (1 : Int) == 1 && (sIx items.size items.size hi - sIx items.size 0 lo) == items.size) = true then _ else _) _ _ s
  rw [if_pos yes]
  unfold Builtin.Tuple.tupleIsExact
  refine wpAny_bind (wpAny_bind (wpAny_typeOf ht.typeIs (wpAny_pure ?_)))
  exact wpAny_bind (wpAny_rule (wpAny_pure ⟨_, rfl, wpAny_pure h⟩))
end
end HT
namespace L2
open PySem PySem.Spec PyProof.Rows
section
variable {X : Cx} {K : PySem.W.Frag}
/-- cutting a list of any items -/
def cutL {α : Type} (xs : List α) (lo hi : Option Int) : List α := (xs.drop (HT.sIx xs.length 0 lo)).take (HT.sIx xs.length xs.length hi - HT.sIx xs.length 0 lo)
theorem cutV_map (ns : List Int) (lo hi : Option Int) : cutV (ns.map V.int) lo hi = (cutL ns lo hi).map V.int := by
  unfold cutV cutL
  rw [List.length_map, List.map_take, List.map_drop]
theorem cutL_len {α : Type} (xs : List α) (lo hi : Option Int) : (cutL xs lo hi).length ≤ xs.length := by
  unfold cutL
  rw [List.length_take, List.length_drop]
  omega
theorem Same.tup {K : PySem.W.Frag} {H H' : Hp} {a : Addr} {xs : List V} (e : Same H H') (h : SqT K H a xs) : SqT K H' a xs := by
  rcases h with (h | ⟨o, h⟩) | h
  · exact .inl (.inl (e _ _ h))
  · exact .inl (.inr ⟨o, e _ _ h⟩)
  · exact .inr h
theorem Same.lay {H : Hp} {p : Addr} {o : HO} (h : H p = none) : Same H (upd H p o) := fun b o' e => by rw [upd_ne (ne_of_none e h)]; exact e
end
end L2

namespace L2
open PySem PySem.Spec PyProof.Rows
/-! ### min, max of a list, by a key or plain, with a default -/
def mmL (b : Bool) : String := if b then "min.loop" else "max.loop"
def mmI (b : Bool) : String := if b then "min" else "max"
def mmOp (b : Bool) : CmpOp := if b then .Lt else .Gt
/-- the place of the best of the first i: bt i j: i is better than j -/
def pick (bt : Nat → Nat → Bool) : Nat → Option Nat
  | 0 => none
  | i + 1 => match pick bt i with
    | none => some i
    | some j => if bt i j then some i else some j
theorem pick_lt {bt : Nat → Nat → Bool} : ∀ {n j : Nat}, pick bt n = some j → j < n
  | 0, _, h => by cases h
  | n + 1, j, h => by
    unfold pick at h
    cases e : pick bt n with
    | none => rw [e] at h; cases h; exact Nat.lt_succ_self _
    | some k =>
      rw [e] at h
      have := pick_lt e
      simp only at h
      split at h
      · cases h; exact Nat.lt_succ_self _
      · cases h; omega
theorem pick_none {bt : Nat → Nat → Bool} : ∀ {n : Nat}, pick bt n = none → n = 0
  | 0, _ => rfl
  | n + 1, h => by
    unfold pick at h
    cases e : pick bt n with
    | none => rw [e] at h; cases h
    | some k => rw [e] at h; simp only at h; split at h <;> cases h
theorem den_builtin {P : Program} {w : World} {id : String} {args : Args} {b : Builtin} (hb : entryFor table id = some b) : (model P w).den (.builtin id args) = b args := by
  show (match entryFor table id with | some b => b args | none => unsupported ((withoutEnding? id "#data").getD id)) = _
  rw [hb]
abbrev bestOb (its : Array Value) (c : Nat) : Obj := { cls := .type "list", data := .seq its c }
/-- what the loop keeps: nothing yet, or the best item with its key's value -/
def Kept (xs : List V) (KV : Nat → V → Prop) (jb : Option Nat) (its : Array Value) : Prop := match jb with
  | none => its = #[]
  | some j => ∃ x y u v, xs[j]? = some x ∧ RelV x u ∧ KV j y ∧ RelV y v ∧ its = #[u, v]
section
variable {X : Cx} {pins : List (Addr × Obj)} {σ : St} {H0 : Hp} {a I S : Addr} {xs : List V} {KV : Nat → V → Prop} {bt : Nat → Nat → Bool} {key : Value} {kw : List (Str × Value)} {R : Result → Shared → Prop}
theorem mm_loop (b : Bool) (hc : X.calm = true) (hSI : S ≠ I)
    (hl : SqL X.K H0 a xs)
    (hkey : (key = .none ∧ ∀ i x, xs[i]? = some x → KV i x) ∨ ∃ q, key = .ref q ∧ ∀ i x u (pins : List (Addr × Obj)) s H, xs[i]? = some x → Inv X pins σ H s → RelV x u → Same H0 H →
      wpAny (model X.prog X.w) X.A.in1 (call (.ref q) [u]) (fun v s' => ∃ y H', Inv X pins σ H' s' ∧ RelV y v ∧ KV i y ∧ Same H H') (fun _ _ => False) s)
    (hcmp : ∀ i j y z v u s H (pins : List (Addr × Obj)) (Q : Value → Shared → Prop) (E : Value → Shared → Prop), KV i y → KV j z → Inv X pins σ H s → Same H0 H → RelV y v → RelV z u → Q (.bool (bt i j)) s → wpAny (model X.prog X.w) X.A.in1 (richCompare (mmOp b) v u) Q E s)
    (hR : ∀ s' H', Inv X pins σ H' s' → Same H0 H' → match pick bt xs.length with
      | none => ∀ d dn r, kw = (dn, d) :: r → R (.ok (.ret d)) s'
      | some j => ∀ x u, xs[j]? = some x → RelV x u → R (.ok (.ret u)) s')
    (hkw : kw = [] → 0 < xs.length) {s : Shared} (I0 : Inv X pins σ H0 s) (it0 : s.heap.IsListIter I a 0) (fI : FpOk X pins H0 I) (fS : FpOk X pins H0 S) {c0 : Nat} (s0 : s.heap.get? S = some (bestOb #[] c0)) :
    codeAny (model X.prog X.w) X.A (.builtin (mmL b) ⟨[.ref I, key, .ref S], kw⟩) R s := by
  have hn1 : (toString "min" ++ toString ".loop" : String) = "min.loop" := by decide
  have hn2 : (toString "max" ++ toString ".loop" : String) = "max.loop" := by decide
  have stI : ∀ {H' : Hp}, H' I = none → FpOk X pins H' I := fun h => ⟨h, fI.2⟩
  have stS : ∀ {H' : Hp}, H' S = none → FpOk X pins H' S := fun h => ⟨h, fS.2⟩
  have quiet : (Code.builtin (mmL b) ⟨[.ref I, key, .ref S], kw⟩).quiet = true := by
    cases b
    · exact plainId_quiet PySem.F.plain_max_loop _
    · exact plainId_quiet PySem.F.plain_min_loop _
  refine codeAny_loop quiet (fun n s' => ∃ i H its c, Inv X pins σ H s' ∧ Same H0 H ∧ s'.heap.IsListIter I a i ∧ H I = none ∧ H S = none ∧ s'.heap.get? S = some (bestOb its c) ∧ Kept xs KV (pick bt i) its ∧ i ≤ xs.length ∧ n = xs.length - i) ?_ xs.length
    ⟨0, H0, #[], c0, I0, Same.refl _, it0, fI.1, fS.1, s0, rfl, Nat.zero_le _, rfl⟩
  rintro n s1 ⟨i, H, its, c, I1, S1, hit, hI, hS, hob, hk, hi, rfl⟩
  obtain ⟨vs, rv, pl, hz⟩ := I1.list (S1.seq hl)
  have hlen := rv.length
  have isz : its.size ≤ 2 := by
    cases e : pick bt i with
    | none => rw [e] at hk; rw [show its = #[] from hk]; decide
    | some j => rw [e] at hk; obtain ⟨_, _, _, _, _, _, _, _, rfl⟩ := hk; exact Nat.le_refl 2
  have hh : X.A.in1.handled = none := I1.ok.hd hc
  cases hv : vs[i]? with
  | none =>
    have hil : i = xs.length := by
      have := List.getElem?_eq_none_iff.mp hv
      omega
    cases b
    all_goals
      first | rw [show mmL false = "max.loop" from rfl] | rw [show mmL true = "min.loop" from rfl]
      first | rw [Around.under_plainId PySem.F.plain_max_loop _] | rw [Around.under_plainId PySem.F.plain_min_loop _]
      first | rw [den_builtin PySem.F.entry_max_loop] | rw [den_builtin PySem.F.entry_min_loop]
      show wpAny _ X.A.in1 (seqItems? (.ref S) >>= _) _ _ _
      refine wpAny_bind (wpAny_seqItems hob rfl ?_)
      show wpAny _ X.A.in1 (tryCatch (pyNext (.ref I)) _ >>= _) _ _ _
      refine wpAny_bind (wpAny_tryCatch (wpAny_pyNext_list_end hh hit pl.isList (by simpa using hv) fun h' k' => ?_))
      have I2 : Inv X pins σ H { s1 with heap := h' } := I1.turned (t' := s1.toks) (fun b' o hb e => k' b' o hb e) hI fI.2.1 fI.2.2.2.1 fI.2.2.2.2.1 fI.2.2.2.2.2
      have hob2 := k' S _ hSI hob
      cases e : pick bt i with
      | none =>
        rw [e] at hk
        have hk : its = #[] := hk
        subst hk
        cases kw with
        | nil => exact absurd (pick_none e) (by have := hkw rfl; omega)
        | cons p r =>
          refine wpAny_bind (wpAny_rule (wpAny_pure ?_))
          have := hR _ H I2 S1
          rw [← hil, e] at this
          exact this p.2 p.1 r rfl
      | some j =>
        rw [e] at hk
        obtain ⟨x, y, u, v, g1, g2, g3, g4, rfl⟩ := hk
        show wpAny _ X.A.in1 (updateSeq S (fun _ => #[]) >>= _) _ _ _
        refine wpAny_bind (wpAny_updateSeq hob2 rfl (wpAny_bind (wpAny_letGo (wpAny_pure ?_))))
        have := hR _ H (I2.turned (it := S) (h' := h'.update S (Obj.mapSeq fun _ => #[])) (t' := s1.toks) (fun b' o hb e => (Heap.get?_update_other _ _ (Ne.symm hb)).trans e) hS fS.2.1 fS.2.2.2.1 fS.2.2.2.2.1 fS.2.2.2.2.2) S1
        rw [← hil, e] at this
        exact this x u g1 g2
  | some u =>
    have hil : i < vs.length := (List.getElem?_eq_some_iff.mp hv).1
    obtain ⟨x, hx⟩ : ∃ x, xs[i]? = some x := ⟨xs[i]'(by omega), List.getElem?_eq_getElem (by omega)⟩
    obtain ⟨u', hu', ru⟩ := rv.get hx
    rw [hv] at hu'
    cases hu'
    -- behind the key: the comparison, the store
    have tail : ∀ (s2 : Shared) (H2 : Hp) (y : V) (v : Value) (o2 : Obj), Inv X (pins ++ [(I, o2), (S, bestOb its c)]) σ H2 s2 → Same H H2 → RelV y v → KV i y → (o2.cls = .type "list_iterator" ∧ o2.data = .fields #[.ref a, .int ((i + 1 : Nat) : Int) 0]) →
        ∀ jn, jn = pick bt (i + 1) → ∀ its', Kept xs KV jn its' → its'.size = 2 → ∀ T : Nat, ∃ m, m < xs.length - i ∧ ∃ i' H' its c, Inv X pins σ H' { s2 with heap := s2.heap.update S (Obj.mapSeq fun _ => its'), toks := T } ∧ Same H0 H' ∧ (s2.heap.update S (Obj.mapSeq fun _ => its')).IsListIter I a i' ∧ H' I = none ∧ H' S = none ∧ (s2.heap.update S (Obj.mapSeq fun _ => its')).get? S = some (bestOb its c) ∧ Kept xs KV (pick bt i') its ∧ i' ≤ xs.length ∧ m = xs.length - i' := by
      intro s2 H2 y v o2 J S2 ry hy ho jn hj its' hk' hz' T
      have q1 := J.pin (I, o2) (by simp)
      have q2 := J.pin (S, bestOb its c) (by simp)
      have J1 : Inv X pins σ H2 s2 := J.unpinned
      have g := get?_update_seq (c := "list") q2.1 (fun _ => its')
      refine ⟨xs.length - (i + 1), by omega, i + 1, H2, its', _, J1.turned (it := S) (fun b' o hb e => (Heap.get?_update_other _ _ (Ne.symm hb)).trans e) q2.2.1 fS.2.1 fS.2.2.2.1 fS.2.2.2.2.1 fS.2.2.2.2.2, S1.trans S2, ⟨o2, (Heap.get?_update_other _ _ hSI).trans q1.1, ho.1, ho.2⟩, q1.2.1, q2.2.1, g, by rw [← hj]; exact hk', by omega, rfl⟩
    have tail0 : ∀ (s2 : Shared) (H2 : Hp) (o2 : Obj), Inv X (pins ++ [(I, o2), (S, bestOb its c)]) σ H2 s2 → Same H H2 → (o2.cls = .type "list_iterator" ∧ o2.data = .fields #[.ref a, .int ((i + 1 : Nat) : Int) 0]) → Kept xs KV (pick bt (i + 1)) its →
        ∃ m, m < xs.length - i ∧ ∃ i' H' its c, Inv X pins σ H' s2 ∧ Same H0 H' ∧ s2.heap.IsListIter I a i' ∧ H' I = none ∧ H' S = none ∧ s2.heap.get? S = some (bestOb its c) ∧ Kept xs KV (pick bt i') its ∧ i' ≤ xs.length ∧ m = xs.length - i' := by
      intro s2 H2 o2 J S2 ho hk'
      have q1 := J.pin (I, o2) (by simp)
      have q2 := J.pin (S, bestOb its c) (by simp)
      exact ⟨xs.length - (i + 1), by omega, i + 1, H2, its, c, J.unpinned, S1.trans S2, ⟨o2, q1.1, ho.1, ho.2⟩, q1.2.1, q2.2.1, q2.1, hk', by omega, rfl⟩
    cases b
    all_goals
      first | rw [show mmL false = "max.loop" from rfl] | rw [show mmL true = "min.loop" from rfl]
      first | rw [Around.under_plainId PySem.F.plain_max_loop _] | rw [Around.under_plainId PySem.F.plain_min_loop _]
      first | rw [den_builtin PySem.F.entry_max_loop] | rw [den_builtin PySem.F.entry_min_loop]
      show wpAny _ X.A.in1 (seqItems? (.ref S) >>= _) _ _ _
      refine wpAny_bind (wpAny_seqItems hob rfl ?_)
      show wpAny _ X.A.in1 (tryCatch (pyNext (.ref I)) _ >>= _) _ _ _
      refine wpAny_bind (wpAny_tryCatch (wpAny_pyNext_list_item hit pl.isList (x := u) (by simpa using hv) fun h' hit' k' => ?_))
      have I2 : Inv X pins σ H { s1 with heap := h' } := I1.turned (t' := s1.toks) (fun b' o hb e => (k'.2 b' hb).trans e) hI fI.2.1 fI.2.2.2.1 fI.2.2.2.2.1 fI.2.2.2.2.2
      obtain ⟨o2, ho2, hoc, hod⟩ := hit'
      have hob2 : h'.get? S = some (bestOb its c) := (k'.2 S hSI).trans hob
      have I3 : Inv X (pins ++ [(I, o2), (S, bestOb its c)]) σ H { s1 with heap := h' } := I2.pins_of fun p hp => by
        rcases List.mem_append.mp hp with z | z
        · exact I2.pin p (List.mem_append_right _ z)
        · simp only [List.mem_cons, List.not_mem_nil, or_false] at z
          rcases z with rfl | rfl
          · exact ⟨ho2, hI, fI.2.1, fI.2.2.1, fun v q => by rw [hod] at q; cases q⟩
          · exact ⟨hob2, hS, fS.2.1, fS.2.2.1, fun v q => by cases q⟩
      rcases hkey with ⟨rfl, hk0⟩ | ⟨q, rfl, hq⟩
      · refine wpAny_bind (wpAny_pure ?_)
        have hy := hk0 i x hx
        cases e : pick bt i with
        | none =>
          rw [e] at hk
          have hk : its = #[] := hk
          subst hk
          have ep : pick bt (i + 1) = some i := by unfold pick; rw [e]
          refine wpAny_bind (wpAny_updateSeq hob2 rfl ?_)
          first | rw [hn1] | rw [hn2]
          exact wpAny_pure ⟨rfl, tail _ H x u o2 I3 (Same.refl _) ru hy ⟨hoc, hod⟩ _ ep.symm _ ⟨x, x, u, u, hx, ru, hy, ru, rfl⟩ rfl _⟩
        | some j =>
          rw [e] at hk
          obtain ⟨xo, yo, uo, vo, g1, g2, g3, g4, rfl⟩ := hk
          show wpAny _ X.A.in1 (tryCatch (holding [u, u] (richCompare _ u vo >>= _)) _ >>= _) _ _ _
          refine wpAny_bind (wpAny_tryCatch (wpAny_holding (wpAny_bind (hcmp i j x yo u vo _ H _ _ _ hy g3 I3 S1 ru g4 (wpAny_bind (wpAny_holding (wpAny_truthy_bool (wpAny_bind (wpAny_letGo (wpAny_pure ?_)))))))))) 
          cases eb : bt i j with
          | true =>
            have ep : pick bt (i + 1) = some i := by unfold pick; rw [e]; simp only [eb, if_true]
            refine wpAny_bind (wpAny_updateSeq hob2 rfl (wpAny_bind (wpAny_letGo ?_)))
            first | rw [hn1] | rw [hn2]
            exact wpAny_pure ⟨rfl, tail _ H x u o2 I3 (Same.refl _) ru hy ⟨hoc, hod⟩ _ ep.symm _ ⟨x, x, u, u, hx, ru, hy, ru, rfl⟩ rfl _⟩
          | false =>
            have ep : pick bt (i + 1) = some j := by unfold pick; rw [e]; simp only [eb, Bool.false_eq_true, if_false]
            refine wpAny_bind (wpAny_letGo ?_)
            first | rw [hn1] | rw [hn2]
            exact wpAny_pure ⟨rfl, tail0 _ H o2 I3 (Same.refl _) ⟨hoc, hod⟩ (by rw [ep]; exact ⟨xo, yo, uo, vo, g1, g2, g3, g4, rfl⟩)⟩
      · show wpAny _ X.A.in1 (tryCatch (holding [u] (call (.ref q) [u])) _ >>= _) _ _ _
        refine wpAny_bind (wpAny_tryCatch (wpAny_holding (wpAny_mono (hq i x u _ _ H hx I3 ru S1) (fun v s2 ⟨y, H2, J, ry, hy, S2⟩ => ?_) fun _ _ z => z.elim)))
        have hob3 := (J.pin (S, bestOb its c) (by simp)).1
        cases e : pick bt i with
        | none =>
          rw [e] at hk
          have hk : its = #[] := hk
          subst hk
          have ep : pick bt (i + 1) = some i := by unfold pick; rw [e]
          refine wpAny_bind (wpAny_updateSeq hob3 rfl ?_)
          first | rw [hn1] | rw [hn2]
          exact wpAny_pure ⟨rfl, tail _ H2 y v o2 J S2 ry hy ⟨hoc, hod⟩ _ ep.symm _ ⟨x, y, u, v, hx, ru, hy, ry, rfl⟩ rfl _⟩
        | some j =>
          rw [e] at hk
          obtain ⟨xo, yo, uo, vo, g1, g2, g3, g4, rfl⟩ := hk
          show wpAny _ X.A.in1 (tryCatch (holding [u, v] (richCompare _ v vo >>= _)) _ >>= _) _ _ _
          refine wpAny_bind (wpAny_tryCatch (wpAny_holding (wpAny_bind (hcmp i j y yo v vo _ H2 _ _ _ hy g3 J (S1.trans S2) ry g4 (wpAny_bind (wpAny_holding (wpAny_truthy_bool (wpAny_bind (wpAny_letGo (wpAny_pure ?_))))))))))
          cases eb : bt i j with
          | true =>
            have ep : pick bt (i + 1) = some i := by unfold pick; rw [e]; simp only [eb, if_true]
            refine wpAny_bind (wpAny_updateSeq hob3 rfl (wpAny_bind (wpAny_letGo ?_)))
            first | rw [hn1] | rw [hn2]
            exact wpAny_pure ⟨rfl, tail _ H2 y v o2 J S2 ry hy ⟨hoc, hod⟩ _ ep.symm _ ⟨x, y, u, v, hx, ru, hy, ry, rfl⟩ rfl _⟩
          | false =>
            have ep : pick bt (i + 1) = some j := by unfold pick; rw [e]; simp only [eb, Bool.false_eq_true, if_false]
            refine wpAny_bind (wpAny_letGo ?_)
            first | rw [hn1] | rw [hn2]
            exact wpAny_pure ⟨rfl, tail0 _ H2 o2 J S2 ⟨hoc, hod⟩ (by rw [ep]; exact ⟨xo, yo, uo, vo, g1, g2, g3, g4, rfl⟩)⟩
end
end L2

namespace L2
open PySem PySem.Spec PyProof.Rows
theorem argsD (b : Bool) (a d : Value) : argsOk (mmI b) ⟨[a], [(Str.ofString "default", d)]⟩ := by cases b <;> (unfold argsOk; kernel_rfl)
theorem argsKD (b : Bool) (a v d : Value) : argsOk (mmI b) ⟨[a], [(Str.ofString "key", v), (Str.ofString "default", d)]⟩ := by cases b <;> (unfold argsOk; kernel_rfl)
theorem args1 (b : Bool) (a : Value) : argsOk (mmI b) ⟨[a], []⟩ := by cases b <;> (unfold argsOk; kernel_rfl)
section
variable {X : Cx} {pins : List (Addr × Obj)} {σ : St} {H : Hp} {s : Shared} {a : Addr} {xs : List V} {KV : Nat → V → Prop} {bt : Nat → Nat → Bool} {Q : VK}
/-- the three forms of a call: plain; with a default; with a key and a default -/
inductive MmKw : List (Str × Value) → Value → List (Str × Value) → Prop
  | one : MmKw [] .none []
  | dflt (d : Value) : MmKw [(Str.ofString "default", d)] .none [(Str.ofString "default", d)]
  | key (q : Addr) (d : Value) : MmKw [(Str.ofString "key", .ref q), (Str.ofString "default", d)] (.ref q) [(Str.ofString "default", d)]
theorem mm_call (b : Bool) {kws kw : List (Str × Value)} {key : Value} (hkw : MmKw kws key kw) (hc : X.calm = true) (I0 : Inv X pins σ H s) (hl : SqL X.K H a xs)
    (hkey : (key = .none ∧ ∀ i x, xs[i]? = some x → KV i x) ∨ ∃ q, key = .ref q ∧ ∀ i x u (pins : List (Addr × Obj)) s H', xs[i]? = some x → Inv X pins σ H' s → RelV x u → Same H H' →
      wpAny (model X.prog X.w) X.A.in1 (call (.ref q) [u]) (fun v s' => ∃ y H2, Inv X pins σ H2 s' ∧ RelV y v ∧ KV i y ∧ Same H' H2) (fun _ _ => False) s)
    (hcmp : ∀ i j y z v u s H' (pins : List (Addr × Obj)) (Q : Value → Shared → Prop) (E : Value → Shared → Prop), KV i y → KV j z → Inv X pins σ H' s → Same H H' → RelV y v → RelV z u → Q (.bool (bt i j)) s → wpAny (model X.prog X.w) X.A.in1 (richCompare (mmOp b) v u) Q E s)
    (hn : kw = [] → 0 < xs.length) (hd : ∀ dn d r, kw = (dn, d) :: r → d = .none)
    (hQ : ∀ H', Same H H' → match pick bt xs.length with | none => Q .non H' | some j => ∀ x, xs[j]? = some x → Q x H') :
    wpAny (model X.prog X.w) X.A (call (.builtin (mmI b)) [.ref a] kws) (EP X pins σ Q) X.xe s := by
  have hn1 : (toString "min" ++ toString ".loop" : String) = "min.loop" := by decide
  have hn2 : (toString "max" ++ toString ".loop" : String) = "max.loop" := by decide
  obtain ⟨vs, rv, pl, hz⟩ := I0.list hl
  have hls := pl.isList
  have e1 : (s.heap.push { cls := .type "list_iterator", data := .fields #[.ref a, .int 0 0] }).objs.size = s.heap.objs.size + 1 := Heap.size_push ..
  have I1 : Inv X pins σ H { s with heap := (s.heap.push { cls := .type "list_iterator", data := .fields #[.ref a, .int 0 0] }).push (bestOb #[] 0) } := I0.kept (t' := s.toks) fun b' o e => Heap.get?_push_of_some _ (Heap.get?_push_of_some _ e)
  have gI : ((s.heap.push { cls := .type "list_iterator", data := .fields #[.ref a, .int 0 0] }).push (bestOb #[] 0)).IsListIter s.heap.objs.size a 0 := ⟨_, Heap.get?_push_of_some _ (Heap.get?_push_size _ rfl), rfl, rfl⟩
  have gS : ((s.heap.push { cls := .type "list_iterator", data := .fields #[.ref a, .int 0 0] }).push (bestOb #[] 0)).get? (s.heap.push { cls := .type "list_iterator", data := .fields #[.ref a, .int 0 0] }).objs.size = some (bestOb #[] 0) := Heap.get?_push_size _ rfl
  have fI : FpOk X pins H s.heap.objs.size := I0.fpOk (Nat.le_refl _) (I0.hok.fresh (Nat.le_refl _))
  have fS : FpOk X pins H (s.heap.push { cls := .type "list_iterator", data := .fields #[.ref a, .int 0 0] }).objs.size := by
    rw [e1]; exact I0.fpOk (Nat.le_succ _) (I0.hok.fresh (Nat.le_succ _))
  have nSI : (s.heap.push { cls := .type "list_iterator", data := .fields #[.ref a, .int 0 0] }).objs.size ≠ s.heap.objs.size := by rw [e1]; exact Nat.ne_of_gt (Nat.lt_succ_self _)
  have lp : codeAny (model X.prog X.w) X.A (.builtin (mmL b) ⟨[.ref s.heap.objs.size, key, .ref (s.heap.push { cls := .type "list_iterator", data := .fields #[.ref a, .int 0 0] }).objs.size], kw⟩)
      (fun r s' => match r with | .ok (.ret v) => EP X pins σ Q v s' | .ok _ => False | .error e => X.xe e s') { s with heap := (s.heap.push { cls := .type "list_iterator", data := .fields #[.ref a, .int 0 0] }).push (bestOb #[] 0) } := by
    refine mm_loop b hc nSI hl hkey hcmp ?_ hn I1 gI fI fS gS
    intro s' H' I' S'
    have q := hQ H' S'
    cases e : pick bt xs.length with
    | none =>
      rw [e] at q
      intro d dn r hk
      have hd' := hd dn d r hk
      subst hd'
      exact ⟨.non, H', I', rfl, q⟩
    | some j =>
      rw [e] at q
      intro x u hx ru
      exact ⟨x, H', I', ru, q x hx⟩
  cases b with
  | false =>
    cases hkw with
    | one =>
      refine PyProof.Rows.kmk_tree PySem.F.kind_max PySem.F.plain_max PySem.F.entry_max (args1 false _) ?_
      show wpAny _ X.A.in1 (Builtin.Builtins.bindParams "max" ["key", "default"] 0 ⟨[], []⟩ >>= _) _ _ s
      refine wpAny_bind (wpAny_of_eq (show Builtin.Builtins.bindParams "max" ["key", "default"] 0 ⟨[], []⟩ = pure [none, none] from rfl) ?_)
      refine wpAny_bind (wpAny_pure ?_)
      refine wpAny_bind (wpAny_pyIter_list hls ?_)
      refine wpAny_bind (wpAny_newList ?_ (Nat.zero_le _))
      rw [hn2]
      exact wpAny_pure ⟨plainId_quiet PySem.F.plain_max_loop _, lp⟩
    | dflt d =>
      refine PyProof.Rows.kmk_tree PySem.F.kind_max PySem.F.plain_max PySem.F.entry_max (argsD false _ _) ?_
      show wpAny _ X.A.in1 (Builtin.Builtins.bindParams "max" ["key", "default"] 0 ⟨[], [(Str.ofString "default", d)]⟩ >>= _) _ _ s
      refine wpAny_bind (wpAny_of_eq (show Builtin.Builtins.bindParams "max" ["key", "default"] 0 ⟨[], [(Str.ofString "default", d)]⟩ = pure [none, some d] from rfl) ?_)
      refine wpAny_bind (wpAny_pure ?_)
      refine wpAny_bind (wpAny_pyIter_list hls ?_)
      refine wpAny_bind (wpAny_newList ?_ (Nat.zero_le _))
      rw [hn2]
      exact wpAny_pure ⟨plainId_quiet PySem.F.plain_max_loop _, lp⟩
    | key q d =>
      refine PyProof.Rows.kmk_tree PySem.F.kind_max PySem.F.plain_max PySem.F.entry_max (argsKD false _ _ _) ?_
      show wpAny _ X.A.in1 (Builtin.Builtins.bindParams "max" ["key", "default"] 0 ⟨[], [(Str.ofString "key", .ref q), (Str.ofString "default", d)]⟩ >>= _) _ _ s
      refine wpAny_bind (wpAny_of_eq (show Builtin.Builtins.bindParams "max" ["key", "default"] 0 ⟨[], [(Str.ofString "key", .ref q), (Str.ofString "default", d)]⟩ = pure [some (.ref q), some d] from rfl) ?_)
      refine wpAny_bind (wpAny_pure ?_)
      refine wpAny_bind (wpAny_pyIter_list hls ?_)
      refine wpAny_bind (wpAny_newList ?_ (Nat.zero_le _))
      rw [hn2]
      exact wpAny_pure ⟨plainId_quiet PySem.F.plain_max_loop _, lp⟩
  | true =>
    cases hkw with
    | one =>
      refine PyProof.Rows.kmk_tree PySem.F.kind_min PySem.F.plain_min PySem.F.entry_min (args1 true _) ?_
      show wpAny _ X.A.in1 (Builtin.Builtins.bindParams "min" ["key", "default"] 0 ⟨[], []⟩ >>= _) _ _ s
      refine wpAny_bind (wpAny_of_eq (show Builtin.Builtins.bindParams "min" ["key", "default"] 0 ⟨[], []⟩ = pure [none, none] from rfl) ?_)
      refine wpAny_bind (wpAny_pure ?_)
      refine wpAny_bind (wpAny_pyIter_list hls ?_)
      refine wpAny_bind (wpAny_newList ?_ (Nat.zero_le _))
      rw [hn1]
      exact wpAny_pure ⟨plainId_quiet PySem.F.plain_min_loop _, lp⟩
    | dflt d =>
      refine PyProof.Rows.kmk_tree PySem.F.kind_min PySem.F.plain_min PySem.F.entry_min (argsD true _ _) ?_
      show wpAny _ X.A.in1 (Builtin.Builtins.bindParams "min" ["key", "default"] 0 ⟨[], [(Str.ofString "default", d)]⟩ >>= _) _ _ s
      refine wpAny_bind (wpAny_of_eq (show Builtin.Builtins.bindParams "min" ["key", "default"] 0 ⟨[], [(Str.ofString "default", d)]⟩ = pure [none, some d] from rfl) ?_)
      refine wpAny_bind (wpAny_pure ?_)
      refine wpAny_bind (wpAny_pyIter_list hls ?_)
      refine wpAny_bind (wpAny_newList ?_ (Nat.zero_le _))
      rw [hn1]
      exact wpAny_pure ⟨plainId_quiet PySem.F.plain_min_loop _, lp⟩
    | key q d =>
      refine PyProof.Rows.kmk_tree PySem.F.kind_min PySem.F.plain_min PySem.F.entry_min (argsKD true _ _ _) ?_
      show wpAny _ X.A.in1 (Builtin.Builtins.bindParams "min" ["key", "default"] 0 ⟨[], [(Str.ofString "key", .ref q), (Str.ofString "default", d)]⟩ >>= _) _ _ s
      refine wpAny_bind (wpAny_of_eq (show Builtin.Builtins.bindParams "min" ["key", "default"] 0 ⟨[], [(Str.ofString "key", .ref q), (Str.ofString "default", d)]⟩ = pure [some (.ref q), some d] from rfl) ?_)
      refine wpAny_bind (wpAny_pure ?_)
      refine wpAny_bind (wpAny_pyIter_list hls ?_)
      refine wpAny_bind (wpAny_newList ?_ (Nat.zero_le _))
      rw [hn1]
      exact wpAny_pure ⟨plainId_quiet PySem.F.plain_min_loop _, lp⟩
end
end L2

namespace L2
open PySem PySem.Spec PyProof.Rows
section
variable {X : Cx} {K : PySem.W.Frag} {x : Str} {p pos : Pos} {e : Expr} {es : List Expr} {kws : List Keyword} {t tk : TA} {id : String} {ks : List Str}
/-- what the best is: None of no items, else the item at its place -/
def Best (bt : Nat → Nat → Bool) (xs : List V) (H : Hp) (Q : VK) : Prop := ∀ H', Same H H' → match pick bt xs.length with | none => Q .non H' | some j => ∀ x, xs[j]? = some x → Q x H'
/-- min or max of a list of ints that has some -/
def rMm1 (K : PySem.W.Frag) (b : Bool) : List V → Hp → VK → Prop := fun vs H Q => ∃ (a : Addr) (ns : List Int), vs = [.ref a] ∧ SqL K H a (ns.map V.int) ∧ 0 < ns.length ∧ Best (fun i j => if b then decide (ns.getD i 0 < ns.getD j 0) else decide (ns.getD j 0 < ns.getD i 0)) (ns.map V.int) H Q
theorem cMm1 (b : Bool) (hK : X.K = K) (hc : X.calm = true) : CallR X (.builtin (mmI b)) (rMm1 K b) := by
  subst hK
  intro pins s σ H vs us Q I r1 h
  obtain ⟨a, ns, rfl, hl, h0, hb⟩ := h
  obtain ⟨u, rfl, ru⟩ := vals1 r1
  cases ru
  refine mm_call (b := b) (KV := fun i y => y = .int (ns.getD i 0)) (bt := fun i j => if b then decide (ns.getD i 0 < ns.getD j 0) else decide (ns.getD j 0 < ns.getD i 0)) .one hc I hl (.inl ⟨rfl, fun i x hx => ?_⟩) ?_ (fun _ => by rw [List.length_map]; exact h0) (fun dn d r z => nomatch z) hb
  · rw [List.getElem?_map] at hx
    cases e : ns[i]? with
    | none => rw [e] at hx; cases hx
    | some n => rw [e] at hx; cases hx; simp [List.getD, e]
  · rintro i j y z v w' s' H' pins' Q' E' rfl rfl I' S' ry rz hq
    obtain ⟨t1, rfl⟩ := ry
    obtain ⟨t2, rfl⟩ := rz
    cases b with
    | true =>
      show wpAny _ _ (compareOp .Lt _ _) _ _ _
      exact lt_int hq
    | false =>
      show wpAny _ _ (compareOp .Gt _ _) _ _ _
      exact gt_int hq
end
end L2

namespace L2
open PySem PySem.Spec PyProof.Rows
section
variable {X : Cx} {K : PySem.W.Frag}
end
end L2

namespace L2
open PySem PySem.Spec PyProof.Rows
/-- // by a positive divisor below 2^64 -/
def CDivW (i j : Int) : Prop := 0 < j ∧ j < 18446744073709551616
theorem op_fdivW {X : Cx} : OpR X (binaryOp .FloorDiv) (rI CDivW fun i j => .int (i / j)) := opI fun i j _ _ _ _ _ hc q => by
  have h1 : (0 : Int) < j := hc.1
  have h2 : j < 18446744073709551616 := hc.2
  refine floordiv_int (by omega) (by rw [Int.fdiv_eq_ediv_of_nonneg i (by omega)]; exact q) (.inl (PyProof.noPylong_of_log2 ?_))
  have h0 : j.natAbs ≠ 0 := by omega
  have : j.natAbs.log2 < 64 := (Nat.log2_lt h0).mpr (by omega)
  omega
end L2

namespace L2
open PySem PySem.Spec PyProof.Rows
/-! ### a, b = a list of that length -/
section
variable {prog : Program} {w : World} {A : Around} {E : Value → Shared → Prop} {s : Shared}
end
section
variable {X : Cx} {K : PySem.W.Frag} {pos : Pos}
end
end L2

namespace L2
open PySem PySem.Spec PyProof.Rows
/-! ### lists of pairs as tables -/
section
variable {κ : Type} [DecidableEq κ]
def valV (kvs : List (κ × V)) (k : κ) : Option V := (kvs.find? fun kv => decide (kv.1 = k)).map (·.2)
/-- in its place, or at the end -/
def putK (kvs : List (κ × V)) (k : κ) (v : V) : List (κ × V) :=
  if (kvs.any fun kv => decide (kv.1 = k)) = true then kvs.map (fun kv => if kv.1 = k then (kv.1, v) else kv) else kvs ++ [(k, v)]
def dropK (kvs : List (κ × V)) (k : κ) : List (κ × V) := kvs.filter fun kv => decide (kv.1 ≠ k)

theorem valV_pos {p : κ × V} {r : List (κ × V)} {k : κ} (e : p.1 = k) : valV (p :: r) k = some p.2 := by simp [valV, List.find?_cons, e]
theorem valV_neg {p : κ × V} {r : List (κ × V)} {k : κ} (e : ¬ p.1 = k) : valV (p :: r) k = valV r k := by simp [valV, List.find?_cons, e]
theorem valV_any (k : κ) : ∀ kvs : List (κ × V), (kvs.any fun kv => decide (kv.1 = k)) = (valV kvs k).isSome
  | [] => rfl
  | p :: r => by
    rw [List.any_cons]
    by_cases e : p.1 = k
    · simp only [valV_pos e, decide_eq_true e, Bool.true_or, Option.isSome_some]
    · rw [valV_neg e, decide_eq_false e, Bool.false_or]; exact valV_any k r
theorem RelO.isSome_eq {o : Option V} {u : Option Value} (r : RelO o u) : o.isSome = u.isSome := by
  cases o with
  | none => cases u with
    | none => rfl
    | some _ => exact (show False from r).elim
  | some _ => cases u with
    | none => exact (show False from r).elim
    | some _ => rfl
theorem RelO.getD {o : Option V} {u : Option Value} {d : V} {d' : Value} (r : RelO o u) (rd : RelV d d') : RelV (o.getD d) (u.getD d') := by
  cases o with
  | none => cases u with
    | none => exact rd
    | some _ => exact (show False from r).elim
  | some _ => cases u with
    | none => exact (show False from r).elim
    | some _ => exact r

/-- raw tables of the same keys -/
theorem KV.val {kvs : List (κ × V)} {vs : List (κ × Value)} (r : KV kvs vs) (k : κ) : RelO (valV kvs k) (valueAt vs k) := by
  unfold KV at r
  induction r with
  | nil => exact True.intro
  | @cons p q ps qs h t ih =>
    obtain ⟨h1, h2⟩ := h
    by_cases e : p.1 = k
    · have e' : q.1 = k := h1.symm.trans e
      have b : valueAt (q :: qs) k = some q.2 := by simp [valueAt, List.find?_cons, e']
      rw [valV_pos e, b]; exact h2
    · have e' : ¬ q.1 = k := fun z => e (h1.trans z)
      have b : valueAt (q :: qs) k = valueAt qs k := by simp [valueAt, List.find?_cons, e']
      rw [valV_neg e, b]; exact ih
theorem KV.any {kvs : List (κ × V)} {vs : List (κ × Value)} (r : KV kvs vs) (k : κ) : (kvs.any fun kv => decide (kv.1 = k)) = vs.any fun kv => decide (kv.1 = k) := by
  unfold KV at r
  induction r with
  | nil => rfl
  | cons h t ih => rw [List.any_cons, List.any_cons, ih, h.1]
theorem KV.repl {kvs : List (κ × V)} {vs : List (κ × Value)} (r : KV kvs vs) (k : κ) {y : V} {u : Value} (ry : RelV y u) :
    KV (kvs.map fun kv => if kv.1 = k then (kv.1, y) else kv) (vs.map fun kv => if kv.1 = k then (kv.1, u) else kv) := by
  unfold KV at r ⊢
  induction r with
  | nil => exact .nil
  | @cons p q ps qs h t ih =>
    rw [List.map_cons, List.map_cons]
    refine .cons ?_ ih
    obtain ⟨h1, h2⟩ := h
    by_cases e : p.1 = k
    · rw [if_pos e, if_pos (h1.symm.trans e)]; exact ⟨h1, ry⟩
    · rw [if_neg e, if_neg (fun z => e (h1.trans z))]; exact ⟨h1, h2⟩
theorem KV.put {kvs : List (κ × V)} {vs : List (κ × Value)} (r : KV kvs vs) (k : κ) {y : V} {u : Value} (ry : RelV y u) : KV (putK kvs k y) (stored vs k u) := by
  unfold putK stored
  rw [r.any k]
  by_cases e : (vs.any fun kv => decide (kv.1 = k)) = true
  · rw [if_pos e, if_pos e]; exact r.repl k ry
  · rw [if_neg e, if_neg e]; exact Paired.snoc r ⟨rfl, ry⟩
theorem KV.drop {kvs : List (κ × V)} {vs : List (κ × Value)} (r : KV kvs vs) (k : κ) : KV (dropK kvs k) (without vs k) := by
  unfold KV at r ⊢
  unfold dropK without
  induction r with
  | nil => exact .nil
  | @cons p q ps qs h t ih =>
    obtain ⟨h1, h2⟩ := h
    rw [List.filter_cons, List.filter_cons]
    by_cases e : p.1 = k
    · have a : ¬ decide (p.1 ≠ k) = true := by simp [e]
      have b : ¬ decide (q.1 ≠ k) = true := by simp [h1.symm.trans e]
      rw [if_neg a, if_neg b]; exact ih
    · have e' : ¬ q.1 = k := fun z => e (h1.trans z)
      have a : decide (p.1 ≠ k) = true := by simp [e]
      have b : decide (q.1 ≠ k) = true := by simp [e']
      rw [if_pos a, if_pos b]; exact .cons ⟨h1, h2⟩ ih
theorem KV.keys {kvs : List (κ × V)} {vs : List (κ × Value)} (r : KV kvs vs) : kvs.map (·.1) = vs.map (·.1) := by
  unfold KV at r
  induction r with
  | nil => rfl
  | cons h t ih => rw [List.map_cons, List.map_cons, ih, h.1]
theorem KV.length {kvs : List (κ × V)} {vs : List (κ × Value)} (r : KV kvs vs) : kvs.length = vs.length := Paired.length r
end


/-! ### a tracked dict, its keys ints and texts or tuples of these -/
/-- raw entries of a dict with tuple keys -/
abbrev KT (H : Hp) : List (List Key × V) → List (List Key × Addr × Value) → Prop := Paired fun p q => p.1 = q.1 ∧ H q.2.1 = some (.tup (p.1.map kV)) ∧ RelV p.2 q.2.2
theorem KT.val {H : Hp} {kvs : List (List Key × V)} {xs : List (List Key × Addr × Value)} (r : KT H kvs xs) (k : List Key) : RelO (valV kvs k) ((atKey xs k).map (·.2)) := by
  induction r with
  | nil => exact True.intro
  | @cons p q ps qs h t ih =>
    obtain ⟨h1, _, h2⟩ := h
    by_cases e : p.1 = k
    · have e' : q.1 = k := h1.symm.trans e
      have b : atKey (q :: qs) k = some q.2 := by simp [atKey, List.find?_cons, e']
      rw [valV_pos e, b]; exact h2
    · have e' : ¬ q.1 = k := fun z => e (h1.trans z)
      have b : atKey (q :: qs) k = atKey qs k := by simp [atKey, List.find?_cons, e']
      rw [valV_neg e, b]; exact ih
theorem KT.repl {H : Hp} {kvs : List (List Key × V)} {xs : List (List Key × Addr × Value)} (r : KT H kvs xs) (k : List Key) {y : V} {u : Value} (ry : RelV y u) :
    KT H (kvs.map fun kv => if kv.1 = k then (kv.1, y) else kv) (xs.map (putAt k u)) := by
  induction r with
  | nil => exact .nil
  | @cons p q ps qs h t ih =>
    rw [List.map_cons, List.map_cons]
    refine .cons ?_ ih
    obtain ⟨h1, h2, h3⟩ := h
    unfold putAt
    by_cases e : p.1 = k
    · rw [if_pos e, if_pos (h1.symm.trans e)]; exact ⟨h1, h2, ry⟩
    · rw [if_neg e, if_neg (fun z => e (h1.trans z))]; exact ⟨h1, h2, h3⟩
theorem KT.put {H : Hp} {kvs : List (List Key × V)} {xs : List (List Key × Addr × Value)} (r : KT H kvs xs) (k : List Key) {b : Addr} {y : V} {u : Value} (hb : H b = some (.tup (k.map kV))) (ry : RelV y u) :
    KT H (putK kvs k y) (storedH xs k b u) := by
  have e : (kvs.any fun kv => decide (kv.1 = k)) = (atKey xs k).isSome := by
    rw [valV_any, (r.val k).isSome_eq, Option.isSome_map]
  unfold putK storedH
  rw [e]
  by_cases q : (atKey xs k).isSome = true
  · rw [if_pos q, if_pos q]; exact r.repl k ry
  · rw [if_neg q, if_neg q]; exact Paired.snoc r ⟨rfl, hb, ry⟩
theorem KT.keeps {H H' : Hp} {kvs : List (List Key × V)} {xs : List (List Key × Addr × Value)} (r : KT H kvs xs) (ht : ∀ b ys, H b = some (.tup ys) → H' b = some (.tup ys)) : KT H' kvs xs :=
  Paired.mapP r fun _ _ z => ⟨z.1, ht _ _ z.2.1, z.2.2⟩

section
variable {P : Program} {w : World} {H : Hp} {h : Heap} {a : Addr}
end

/-- what the dict at a holds at the key y -/
def DGet (H : Hp) (a : Addr) (y : V) (r : Option V) : Prop :=
  (∃ kvs k, Rd H a (.dK kvs) ∧ y = kV k ∧ r = valV kvs k) ∨ ∃ kvs k b, Rd H a (.dT kvs) ∧ y = .ref b ∧ H b = some (.tup (k.map kV)) ∧ r = valV kvs k
/-- the heap behind a[y] = v -/
def DPut (H : Hp) (a : Addr) (y v : V) (H' : Hp) : Prop :=
  (∃ kvs k, H a = some (.dK kvs) ∧ y = kV k ∧ kvs.length < sizeLine ∧ H' = upd H a (.dK (putK kvs k v))) ∨
  ∃ kvs k b, H a = some (.dT kvs) ∧ y = .ref b ∧ H b = some (.tup (k.map kV)) ∧ kvs.length < sizeLine ∧ H' = upd H a (.dT (putK kvs k v))
theorem DGet.k {H : Hp} {a : Addr} {kvs : List (Key × V)} {k : Key} (e : H a = some (.dK kvs)) : DGet H a (kV k) (valV kvs k) := .inl ⟨kvs, k, .inl e, rfl, rfl⟩
theorem DGet.t {H : Hp} {a b : Addr} {kvs : List (List Key × V)} {k : List Key} (e : H a = some (.dT kvs)) (eb : H b = some (.tup (k.map kV))) : DGet H a (.ref b) (valV kvs k) := .inr ⟨kvs, k, b, .inl e, rfl, eb, rfl⟩
theorem DPut.k {H : Hp} {a : Addr} {kvs : List (Key × V)} {k : Key} {v : V} (e : H a = some (.dK kvs)) (hl : kvs.length < sizeLine) : DPut H a (kV k) v (upd H a (.dK (putK kvs k v))) := .inl ⟨kvs, k, e, rfl, hl, rfl⟩
theorem DPut.t {H : Hp} {a b : Addr} {kvs : List (List Key × V)} {k : List Key} {v : V} (e : H a = some (.dT kvs)) (eb : H b = some (.tup (k.map kV))) (hl : kvs.length < sizeLine) :
    DPut H a (.ref b) v (upd H a (.dT (putK kvs k v))) := .inr ⟨kvs, k, b, e, rfl, eb, hl, rfl⟩


section
variable {X : Cx} {pins : List (Addr × Obj)} {σ : St} {H : Hp} {s : Shared} {a : Addr} {y v : V} {u r : Value} {o : Option V} {A : Around} {E : Value → Shared → Prop}

end

section
variable {X : Cx} {pins : List (Addr × Obj)} {σ : St} {H : Hp} {s : Shared} {a : Addr} {kvs : List (Key × V)} {k : Key} {u : Value} {A : Around} {E : Value → Shared → Prop}
end


/-! ### readings and rules -/
section
variable {X : Cx} {o i e value : Expr} {pos pos' tpos : Pos} {td ty tv : TE}
end


/-! ### displays -/
section
variable {X : Cx} {pos : Pos}
end
end L2

namespace L2
open PySem PySem.Spec PyProof.Rows
/-! ### a dict's keys one by one, whatever they are -/
def RawD (h : Heap) (d : Addr) (es : Array DictEntry) (ep : Nat) : Prop := ∃ o, h.get? d = some o ∧ o.ExactDict ∧ o.data = .dict es ep
theorem RawD.typeIs {s : Shared} {d : Addr} {es : Array DictEntry} {ep : Nat} (h : RawD s.heap d es ep) : s.TypeIs (.ref d) "dict" := let ⟨o, e, hx, _⟩ := h; ⟨o, e, hx.1⟩
theorem RawD.at {h h' : Heap} {d : Addr} {es : Array DictEntry} {ep : Nat} (x : RawD h d es ep) (k : ∀ o, h.get? d = some o → h'.get? d = some o) : RawD h' d es ep := let ⟨o, e, r⟩ := x; ⟨o, k _ e, r⟩
section
variable {prog : Program} {w : World} {A : Around} {E : Value → Shared → Prop} {s : Shared} {d it : Addr} {es : Array DictEntry} {ep i : Nat}
end
end L2

namespace L2
open PySem PySem.Spec PyProof.Rows
/-! ### the sort of what is in order already -/
section
variable {prog : Program} {w : World} {A : Around} {E : Value → Shared → Prop} {κ : SortKind} {it : Array Keyed}
end
section
variable {prog : Program} {w : World} {A : Around} {E : Value → Shared → Prop} {s : Shared} {a : Addr} {vs : List Value}
end
end L2

namespace L2
open PySem PySem.Spec PyProof.Rows
/-! ### sorted(d): a dict whose keys are pairs of ints, in order -/
theorem Paired.at' {α β : Type} {F : α → β → Prop} : ∀ {l : List α} {m : List β} {i : Nat} {x : α}, Paired F l m → l[i]? = some x → ∃ y, m[i]? = some y ∧ F x y
  | _, _, _, _, .nil, e => by simp at e
  | _, _, 0, _, .cons r _, e => by simp at e; subst e; exact ⟨_, rfl, r⟩
  | _, _, i + 1, x, .cons _ t, e => by simp at e; obtain ⟨y, h1, h2⟩ := Paired.at' t e; exact ⟨y, by simpa using h1, h2⟩
end L2

namespace L2
open PySem PySem.Spec PyProof.Rows
/-! ### d != {}, d == {} -/
section
variable {prog : Program} {w : World} {A : Around} {E : Value → Shared → Prop} {s : Shared} {a b : Addr} {es : Array DictEntry} {ep ep' : Nat}
end
end L2

namespace L2
open PySem PySem.Spec PyProof.Rows
/-! ### t < u, tuples whose items are compared one by one -/
inductive LexAt (A : Around) (s : Shared) (fin : Bool) : List (Value × Value) → Bool → Prop
  | nil : LexAt A s fin [] fin
  | eq {p q : Value} {r : List (Value × Value)} {b : Bool} : SeqAt.EqAt A s p q true → LexAt A s fin r b → LexAt A s fin ((p, q) :: r) b
  | ne {p q : Value} {r : List (Value × Value)} {b : Bool} : SeqAt.EqAt A s p q false → (∀ (prog : Program) (w : World) (E : Value → Shared → Prop) (Q : Value → Shared → Prop), Q (.bool b) s → wpAny (model prog w) A (richCompare .Lt p q) Q E s) → LexAt A s fin ((p, q) :: r) b
section
open PySem.SeqAt
open PySem.AutoSeq1 (wpAny_loadPart')
open PySem.MeetsSeq PySem.MeetsSeq2 PySem.MeetsSeq3
end
end L2

namespace L2
open PySem PySem.Spec PyProof.Rows
end L2

namespace L2
open PySem PySem.Spec PyProof.Rows
/-! ### for v in d.values() -/
section
variable {prog : Program} {w : World} {A : Around} {E : Value → Shared → Prop} {s : Shared} {d it vw : Addr} {es : Array DictEntry} {ep i : Nat}
end
end L2

namespace L2
open PySem PySem.Spec PyProof.Rows
/-! ### the same of a dict that may be frozen -/
end L2

namespace L2
open PySem PySem.Spec PyProof.Rows
section
variable {X : Cx} {a b c d : Expr} {ta tb tc td : TE} {pos : Pos}
end
/-! ### sorted(xs), fewer than 64 ints -/
end L2

namespace HT
open PySem PyProof.Rows
section
variable {prog : Program} {w : World} {A : Around} {E : Value → Shared → Prop} {s : Shared}
end
end HT
namespace L2
open PySem PySem.Spec PyProof.Rows
section
variable {X : Cx} {K : PySem.W.Frag} {e st : Expr} {te ts : TE} {p2 pos : Pos}
end
end L2

namespace L2
open PySem PySem.Spec PyProof.Rows
end L2

namespace L2
open PySem PySem.Spec PyProof.Rows
/-! ### t > u, tuples whose items are compared one by one -/
inductive LexG (A : Around) (s : Shared) (fin : Bool) : List (Value × Value) → Bool → Prop
  | nil : LexG A s fin [] fin
  | eq {p q : Value} {r : List (Value × Value)} {b : Bool} : SeqAt.EqAt A s p q true → LexG A s fin r b → LexG A s fin ((p, q) :: r) b
  | ne {p q : Value} {r : List (Value × Value)} {b : Bool} : SeqAt.EqAt A s p q false → (∀ (prog : Program) (w : World) (E : Value → Shared → Prop) (Q : Value → Shared → Prop), Q (.bool b) s → wpAny (model prog w) A (richCompare .Gt p q) Q E s) → LexG A s fin ((p, q) :: r) b
section
open PySem.SeqAt
open PySem.AutoSeq1 (wpAny_loadPart')
open PySem.MeetsSeq PySem.MeetsSeq2 PySem.MeetsSeq3
end
end L2

namespace L2
open PySem PySem.Spec PyProof.Rows
end L2

namespace L2
open PySem PySem.Spec PyProof.Rows
/-! ### lo, lo + st, lo + 2 st, .. (n of them) -/
def Itrs (lo st : Int) (n : Nat) : It := ⟨fun i _ => i < n, fun i H x H' => H' = H ∧ x = .int (lo + i * st), fun i _ => n ≤ i⟩
theorem turn_rangeS {P : Program} {w : World} {K : PySem.W.Frag} {tg : Expr} (it : Addr) (lo st : Int) (n : Nat) : Turn P w K tg (Itrs lo st n) [it] it (fun i h => IsRangeIter h it (lo + (i : Nat) * st) ((n : Int) - (i : Nat)) st) where
  mem := by simp
  obj := fun i h st b hb => by
    have e : b = it := by simpa using hb
    subst e
    exact ⟨_, st, fun v z => by
      have z' : Data.fields _ = Data.cell v := z
      cases z'⟩
  keep := fun i h h' st k => k it (by simp) _ st
  item := by
    intro X hP hw hK hc i pins s σ H E I hf stt hg
    subst hP hw hK
    obtain ⟨f0, f1, f2, f3, f4, f5⟩ := hf it (by simp)
    have W := Walks.range (prog := X.prog) (w := X.w) (I.ok.hd hc) it lo st n
    refine W.item i s _ _ hg stt fun v h' tk hv st' kk => ?_
    obtain ⟨t, rfl⟩ := hv
    have I1 : Inv X pins σ H { s with heap := h', toks := tk } := I.turned (fun b o hb e => kk b o (by simpa using hb) e) f0 f1 f3 f4 f5
    exact ⟨_, rfl, go_of (s := { s with heap := h', toks := tk }) (n := "range_iterator") st' rfl rfl (by decide) ⟨.int (lo + i * st), H, I1, ⟨t, rfl⟩, ⟨rfl, rfl⟩, st', fun b hb => (hf b hb).1⟩⟩
  done := by
    intro X hP hw hK hc i pins s σ H E I hf st hg
    subst hP hw hK
    obtain ⟨f0, f1, f2, f3, f4, f5⟩ := hf it (by simp)
    exact wpAny_pyNext_range_end (I.ok.hd hc) st (by have : n ≤ i := hg; omega) fun h' eb => ⟨rfl, I.turned (t' := s.toks) (fun b o hb e => eb b o hb e) f0 f1 f3 f4 f5⟩
  self := fun _ _ _ _ _ st h => wpAny_pyIter_rangeiter st h
theorem for_rangeS {lo st : Int} {n : Nat} {g : TG} {tb : TS} {D : Ends} {σ : St} {H : Hp} (Pv : Nat → St → Hp → Prop) (h0 : Pv 0 σ H)
    (hs : ∀ i σ H, i < n → Pv i σ H → g (.int (lo + i * st)) σ H fun σ2 H2 => tb { D with nx := Pv (i + 1), ct := Pv (i + 1), bk := D.nx } σ2 H2) (hd : ∀ σ H, Pv n σ H → D.nx σ H) :
    ∃ W : Nat → Nat → St → Hp → Prop, (∃ m, W 0 m σ H) ∧ ∀ i m σ H, W i m σ H →
      ((Itrs lo st n).stop i H ∧ D.nx σ H) ∨ ((Itrs lo st n).go i H ∧ ∃ N : St → Hp → Prop, (∀ σ' H', N σ' H' → ∃ m', m' < m ∧ W (i + 1) m' σ' H') ∧ ∀ x H', (Itrs lo st n).yld i H x H' → g x σ H' fun σ2 H2 => tb { D with nx := N, ct := N, bk := D.nx } σ2 H2) := by
  refine ⟨fun i m σ H => m = n - i ∧ i ≤ n ∧ Pv i σ H, ⟨_, rfl, Nat.zero_le _, h0⟩, ?_⟩
  rintro i m σ H ⟨rfl, hi, p⟩
  by_cases hlt : i < n
  · refine .inr ⟨hlt, Pv (i + 1), fun σ' H' p' => ⟨_, by omega, rfl, hlt, p'⟩, fun x H' y => ?_⟩
    obtain ⟨rfl, rfl⟩ := y
    exact hs i σ _ hlt p
  · have e : i = n := by omega
    subst e
    exact .inl ⟨Nat.le_refl _, hd σ H p⟩
section
variable {X : Cx} {tg : Expr}
theorem fits_long {i : Int} (h1 : -(2 ^ 63) ≤ i) (h2 : i < 2 ^ 63) : Builtin.Range.rangeFitsLong i = true := by
  unfold Builtin.Range.rangeFitsLong
  rw [Bool.and_eq_true]
  exact ⟨decide_eq_true h1, decide_eq_true h2⟩
/-! ### reversed(list) -/
def Itrv (K : PySem.W.Frag) (a : Addr) (n : Nat) : It :=
  ⟨fun i H => i < n ∧ ∃ xs, SqL K H a xs ∧ xs.length = n, fun i H x H' => H' = H ∧ ∀ xs, SqL K H a xs → xs.length = n → xs[n - 1 - i]? = some x, fun i H => n = i⟩
theorem turn_rev {P : Program} {w : World} {K : PySem.W.Frag} {tg : Expr} (a it : Addr) (n : Nat) : Turn P w K tg (Itrv K a n) [it] it (fun i h => h.IsRevIter it a ((n : Int) - 1 - i)) where
  mem := by simp
  obj := fun i h st b hb => by
    have e : b = it := by simpa using hb
    subst e
    obtain ⟨o, e, c, d⟩ := st
    exact ⟨o, e, fun v z => by rw [d] at z; cases z⟩
  keep := fun i h h' st k => st.at fun o e => k it (by simp) o e
  item := by
    intro X hP hw hK hc i pins s σ H E I hf st hg
    subst hP hw hK
    obtain ⟨hi, xs, hq, hx⟩ := hg
    obtain ⟨its, rv, p, hz⟩ := I.list hq
    have hlt : n - 1 - i < xs.length := by omega
    obtain ⟨u, hu, ru⟩ := rv.get (List.getElem?_eq_getElem hlt)
    obtain ⟨f0, f1, f2, f3, f4, f5⟩ := hf it (by simp)
    have e0 : (n : Int) - 1 - i = ((n - 1 - i : Nat) : Int) := by omega
    rw [e0] at st
    refine wpAny_pyNext_rev_item st p.isList (x := u) (by simpa using hu) fun h' st' sb => ?_
    have I1 : Inv X pins σ H { s with heap := h' } := I.turned (t' := s.toks) (fun b o hb e => (sb.2 b hb).trans e) f0 f1 f3 f4 f5
    obtain ⟨o, e, c, d⟩ := id st'
    refine ⟨u, rfl, go_of (s := { s with heap := h' }) e c d (by decide) ⟨_, H, I1, ru, ⟨rfl, fun ys hy hl => by rw [I.list_inj hy hq]; exact List.getElem?_eq_getElem hlt⟩, ?_, fun b hb => (hf b hb).1⟩⟩
    have e1 : ((n - 1 - i : Nat) : Int) - 1 = (n : Int) - 1 - ((i + 1 : Nat) : Int) := by omega
    rw [e1] at st'
    exact st'
  done := by
    intro X hP hw hK hc i pins s σ H E I hf st hg
    subst hP hw hK
    obtain ⟨f0, f1, f2, f3, f4, f5⟩ := hf it (by simp)
    have e0 : (n : Int) - 1 - i = -1 := by have : n = i := hg; omega
    rw [e0] at st
    exact wpAny_pyNext_rev_end (I.ok.hd hc) st fun h' eb => ⟨rfl, I.turned (t' := s.toks) (fun b o hb e => eb b o hb e) f0 f1 f3 f4 f5⟩
  self := fun _ _ _ _ _ st h => wpAny_pyIter_revIter st h
def iRev (K : PySem.W.Frag) (ta : TA) : TI := fun σ H R => ta σ H fun vs H1 => ∃ a xs, vs = [.ref a] ∧ SqL K H1 a xs ∧ R (Itrv K a xs.length) H1
theorem pi_rev {a : Expr} {ta : TA} {p pos : Pos} {K : PySem.W.Frag} (hK : X.K = K) (hg : Gl X "reversed") (hm : X.mg "reversed" = none) (ha : PA X [a] ta) (hs : starEach [a] X.env = [(false, eval a X.env)] := by rfl) :
    PI X tg (.Call (.Name "reversed" p) [a] [] pos) (iRev K ta) := by
  subst hK
  intro pins s σ H R I h
  refine Call_ (ld_blt I hg hm boot_reversed (PyProof.Rows.callWith_type1 (thn (ha pos pins s σ H _ I h) fun us s1 ⟨vs, H1, I1, r1, q1⟩ => ?_) hs rfl))
  obtain ⟨l, xs, e, hq, q⟩ := q1
  subst e
  cases r1 with
  | cons r rr =>
    cases rr
    obtain rfl := r
    obtain ⟨its, rv, pl, hz⟩ := I1.list hq
    refine call_reversed_list pl.isList ?_
    have hl : (its.toArray.size : Int) - 1 = (xs.length : Int) - 1 - ((0 : Nat) : Int) := by rw [List.size_toArray, ← rv.length]; simp
    rw [hl]
    have hst : (s1.heap.push (revObj l ((xs.length : Int) - 1 - ((0 : Nat) : Int)))).IsRevIter s1.heap.objs.size l ((xs.length : Int) - 1 - ((0 : Nat) : Int)) := ⟨_, Heap.get?_push_size _ rfl, rfl, rfl⟩
    refine wpAny_pyIter_revIter hst ?_
    refine ⟨s1.heap.objs.size, [s1.heap.objs.size], _, _, H1, rfl, I1.kept (t' := s1.toks) fun b o e => Heap.get?_push_of_some _ e, turn_rev l _ xs.length, hst, fun b hb => ?_, q⟩
    have e : b = s1.heap.objs.size := by simpa using hb
    subst e
    exact I1.fpOk (Nat.le_refl _) (I1.hok.fresh (Nat.le_refl _))
theorem for_rev {K : PySem.W.Frag} {a : Addr} {xs : List V} {g : TG} {tb : TS} {D : Ends} {σ : St} {H : Hp} (Pv : Nat → St → Hp → Prop) (h0 : Pv xs.length σ H) (hl : ∀ i σ H, Pv i σ H → SqL K H a xs)
    (hs : ∀ i x σ H, xs[i]? = some x → Pv (i + 1) σ H → g x σ H fun σ2 H2 => tb { D with nx := Pv i, ct := Pv i, bk := D.nx } σ2 H2) (hd : ∀ σ H, Pv 0 σ H → D.nx σ H) :
    ∃ W : Nat → Nat → St → Hp → Prop, (∃ m, W 0 m σ H) ∧ ∀ i m σ H, W i m σ H →
      ((Itrv K a xs.length).stop i H ∧ D.nx σ H) ∨ ((Itrv K a xs.length).go i H ∧ ∃ N : St → Hp → Prop, (∀ σ' H', N σ' H' → ∃ m', m' < m ∧ W (i + 1) m' σ' H') ∧ ∀ x H', (Itrv K a xs.length).yld i H x H' → g x σ H' fun σ2 H2 => tb { D with nx := N, ct := N, bk := D.nx } σ2 H2) := by
  refine ⟨fun i m σ H => m = xs.length - i ∧ i ≤ xs.length ∧ Pv (xs.length - i) σ H, ⟨_, rfl, Nat.zero_le _, h0⟩, ?_⟩
  rintro i m σ H ⟨rfl, hi, p⟩
  have q := hl _ σ H p
  by_cases hlt : i < xs.length
  · have e1 : xs.length - i = (xs.length - 1 - i) + 1 := by omega
    rw [e1] at p
    refine .inr ⟨⟨hlt, xs, q, rfl⟩, Pv (xs.length - 1 - i), fun σ' H' p' => ⟨_, by omega, rfl, hlt, by rw [show xs.length - (i + 1) = xs.length - 1 - i by omega]; exact p'⟩, fun x H' y => ?_⟩
    obtain ⟨rfl, y2⟩ := y
    exact hs _ x σ _ (y2 xs q rfl) p
  · have e : i = xs.length := by omega
    subst e
    rw [Nat.sub_self] at p
    exact .inl ⟨rfl, hd σ H p⟩
/-! ### reversed(range(n)) -/
theorem meets_range_reversed (r : Addr) (a b c : Int) (t u v : Tok) (hc : ¬ (!(Builtin.Range.rangeFitsLong a && Builtin.Range.rangeFitsLong b && Builtin.Range.rangeFitsLong c && Builtin.Range.rangeFitsLong (-c) && Builtin.Range.rangeFitsLong (a - c) && Builtin.Range.rangeFitsLong (Builtin.Range.rangeSize a b c))) = true) :
    Meets (Builtin.«range.__reversed__» ⟨[.ref r], []⟩) (fun _ R s => s.heap.get? r = some { cls := .type "range", dict := none, data := .fields #[.int a t, .int b u, .int c v], slots := #[] } ∧
      R (.ok (.ret (Value.ref s.heap.objs.size))) { s with heap := s.heap.push { cls := Value.type (if (Builtin.Range.rangeFitsLong a && Builtin.Range.rangeFitsLong b && Builtin.Range.rangeFitsLong c && Builtin.Range.rangeFitsLong (-c) && Builtin.Range.rangeFitsLong (a - c) && Builtin.Range.rangeFitsLong (Builtin.Range.rangeSize a b c)) = true then "range_iterator" else "longrange_iterator"), data := .fields #[rawInt (a + (Builtin.Range.rangeSize a b c - 1) * c), rawInt (Builtin.Range.rangeSize a b c), rawInt (-c)] } }) :=
  .of_wp fun prog w A R s h => by obtain ⟨hp, g, d, tk, os⟩ := s; obtain ⟨hl, h⟩ := h; wp_walk; exact ⟨_, rfl, h⟩
theorem call_range_reversed {M : Program} {w : World} {A : Around} {E : Value → Shared → Prop} {s : Shared} {r : Addr} {hi : Int} {t u v : Tok} {Q : Value → Shared → Prop} (hr : IsRange s.heap r 0 hi 1 t u v) (h1 : 0 ≤ hi) (h2 : hi < 2 ^ 61)
    (h : Q (.ref s.heap.objs.size) { s with heap := s.heap.push { cls := .type "range_iterator", data := .fields #[rawInt (hi - 1), rawInt hi, rawInt (-1)] } }) : wpAny (model M w) A (call (.builtin "range.__reversed__") [.ref r]) Q E s := by
  have hT : s.TypeIs (.ref r) "range" := ⟨_, hr, rfl⟩
  have hsz : Builtin.Range.rangeSize 0 hi 1 = hi := by
    rw [rangeSize_one]; split <;> omega
  have hsm : (Builtin.Range.rangeFitsLong 0 && Builtin.Range.rangeFitsLong hi && Builtin.Range.rangeFitsLong 1 && Builtin.Range.rangeFitsLong (-1) && Builtin.Range.rangeFitsLong (0 - 1) && Builtin.Range.rangeFitsLong (Builtin.Range.rangeSize 0 hi 1)) = true := by
    rw [hsz, fits_long (i := hi) (by omega) (by omega)]; decide
  refine call_meets F.slot_range_reversed hT F.entry_range_reversed (F.args_range_reversed_1 _) (meets_range_reversed r 0 hi 1 t u v (by rw [hsm]; decide)) ⟨hr, ?_⟩
  rw [hsm, if_pos rfl, hsz]
  have e : (0 : Int) + (hi - 1) * 1 = hi - 1 := by omega
  rw [e]
  exact h
theorem code_reversed_range {M : Program} {w : World} {A : Around} {E : Value → Shared → Prop} {s : Shared} {r : Addr} {hi : Int} {t u v : Tok} {Q₁ : Value → Shared → Prop} (hr : IsRange s.heap r 0 hi 1 t u v) (h1 : 0 ≤ hi) (h2 : hi < 2 ^ 61)
    (h : Q₁ (.ref s.heap.objs.size) { s with heap := s.heap.push { cls := .type "range_iterator", data := .fields #[rawInt (hi - 1), rawInt hi, rawInt (-1)] } }) :
    codeAny (model M w) A (.call (.builtin "reversed.__new__") ⟨[.type "reversed", .ref r], []⟩) (wants Q₁ E) s := by
  have hT : s.TypeIs (.ref r) "range" := ⟨_, hr, rfl⟩
  refine codeAny_of_tree ?_
  show wpAny _ A.in1 (do checkBuiltinCall "reversed.__new__" ⟨[.type "reversed", .ref r], []⟩; again (.builtin "reversed.__new__" ⟨[.type "reversed", .ref r], []⟩)) _ _ s
  refine wpAny_bind (wpAny_of_eq (F.newCall_reversed_1 _) (wpAny_pure ⟨plainId_quiet F.plain_reversed_new _, codeAny_builtin F.entry_reversed_new ?_⟩))
  rw [Around.under_plainId F.plain_reversed_new _]
  unfold Builtin.«reversed.__new__»
  refine wpAny_bind (wpAny_of_eq (newClass_reversed _) ?_)
  try dsimp only
  refine wpAny_bind (wpAny_of_eq (a := ()) (by first | rfl | kernel_rfl) ?_)
  refine wpAny_bind (wpAny_of_eq (a := ()) (by first | rfl | kernel_rfl) ?_)
  try dsimp only
  refine wpAny_bind (wpAny_specialOf hT F.slot_range_reversed.lookup ?_)
  try dsimp only
  refine wpAny_bind (wpAny_of_eq (F.slot_range_reversed.bind _) ?_)
  try dsimp only
  first
  | rw [if_neg (show ¬ ((Value.builtin "range.__reversed__" == Value.none) = true) from Bool.false_ne_true)]
  | (show wpAny _ _ (if (Value.builtin "range.__reversed__" == Value.none) = true then _ else _) _ _ _; rw [if_neg (show ¬ ((Value.builtin "range.__reversed__" == Value.none) = true) from Bool.false_ne_true)])
  refine wpAny_bind (wpAny_rule ?_)
  refine wpAny_bind (m := runValue (.call (.builtin "range.__reversed__") ⟨[.ref r], []⟩)) (show wpAny _ _ (call (.builtin "range.__reversed__") [.ref r]) _ _ _ from call_range_reversed hr h1 h2 ?_)
  first
  | exact wpAny_pure h
  | exact wpAny_bind (wpAny_pure (wpAny_pure h))
theorem sub_ri_reversed : isSubtype (.type "range_iterator") (.type "reversed") = pure false := by rw [isSubtype_type]; kernel_rfl
theorem call_reversed_range {M : Program} {w : World} {A : Around} {E : Value → Shared → Prop} {s : Shared} {r : Addr} {hi : Int} {t u v : Tok} {Q : Value → Shared → Prop} (hr : IsRange s.heap r 0 hi 1 t u v) (h1 : 0 ≤ hi) (h2 : hi < 2 ^ 61)
    (h : Q (.ref s.heap.objs.size) { s with heap := s.heap.push { cls := .type "range_iterator", data := .fields #[rawInt (hi - 1), rawInt hi, rawInt (-1)] } }) : wpAny (model M w) A (call (.type "reversed") [.ref r]) Q E s := by
  refine callType_other (U := "range_iterator") (Q₁ := fun obj s₁ => obj = .ref s.heap.objs.size ∧ s₁ = { s with heap := s.heap.push { cls := .type "range_iterator", data := .fields #[rawInt (hi - 1), rawInt hi, rawInt (-1)] } }) (by decide +kernel) F.create_reversed ⟨_, _, F.mro_reversed⟩ F.made_reversed sub_ri_reversed (F.typeCall_reversed_1 _) (code_reversed_range hr h1 h2 ⟨rfl, rfl⟩) ?_
  rintro obj s₁ ⟨rfl, rfl⟩
  exact ⟨⟨_, Heap.get?_push_size _ rfl, rfl⟩, h⟩
/-- reversed(range(n)) -/
def iRevR (ta : TA) : TI := fun σ H R => ta σ H fun vs H1 => ∃ n : Nat, vs = [.int n] ∧ n < 2 ^ 60 ∧ R (Itrs ((n : Int) - 1) (-1) n) H1
theorem pi_revR {a : Expr} {ta : TA} {p p2 pos pos2 : Pos} (hg : Gl X "reversed") (hm : X.mg "reversed" = none) (hg2 : Gl X "range") (hm2 : X.mg "range" = none) (ha : PA X [a] ta) (hs : starEach [a] X.env = [(false, eval a X.env)] := by rfl)
    (hs2 : starEach [.Call (.Name "range" p2) [a] [] pos2] X.env = [(false, eval (.Call (.Name "range" p2) [a] [] pos2) X.env)] := by rfl) :
    PI X tg (.Call (.Name "reversed" p) [.Call (.Name "range" p2) [a] [] pos2] [] pos) (iRevR ta) := by
  intro pins s σ H R I h
  refine Call_ (ld_blt I hg hm boot_reversed (PyProof.Rows.callWith_type1 ?_ hs2 rfl))
  rw [hs2]
  show wpAny _ _ (spliced ((false, eval (.Call (.Name "range" p2) [a] [] pos2) X.env) :: [])) _ _ s
  refine Calls.spliced_cons ?_
  refine Call_ (ld_blt I hg2 hm2 boot_range (PyProof.Rows.callWith_type1 (thn (ha pos2 pins s σ H _ I h) fun us s1 ⟨vs, H1, I1, r1, q1⟩ => ?_) hs rfl))
  obtain ⟨n, e, hn, q⟩ := q1
  subst e
  cases r1 with
  | cons r rr =>
    cases rr
    obtain ⟨t, rfl⟩ := r
    refine call_range_1 (Calls.spliced_nil ?_)
    refine call_reversed_range (IsRange.new ..) (by omega) (by omega) ?_
    dsimp only
    have hst : ∀ h0 : Heap, IsRangeIter (h0.push { cls := .type "range_iterator", data := .fields #[rawInt ((n : Int) - 1), rawInt n, rawInt (-1)] }) h0.objs.size (((n : Int) - 1) + ((0 : Nat) : Int) * (-1)) ((n : Int) - ((0 : Nat) : Int)) (-1) := fun h0 => by
      have e1 : ((n : Int) - 1) + ((0 : Nat) : Int) * (-1) = (n : Int) - 1 := by simp
      have e2 : (n : Int) - ((0 : Nat) : Int) = n := by simp
      rw [e1, e2]
      exact Heap.get?_push_size _ rfl
    refine wpAny_pyIter_rangeiter (hst _) ?_
    have I2 := I1.kept (t' := s1.toks + 2) (h' := s1.heap.push { cls := .type "range", data := .fields #[.int 0 s1.toks, .int n t, .int 1 (s1.toks + 1)] }) fun b o e => Heap.get?_push_of_some _ e
    refine ⟨_, [_], _, _, H1, rfl, I2.kept (t' := s1.toks + 2) fun b o e => Heap.get?_push_of_some _ e, turn_rangeS _ _ _ n, hst _, fun b hb => ?_, q⟩
    have e := List.mem_singleton.mp hb
    subst e
    exact I2.fpOk (Nat.le_refl _) (I2.hok.fresh (Nat.le_refl _))
/-! ### {k: v} -/
end
end L2

namespace L2
open PySem PySem.Spec PyProof.Rows
section
variable {X : Cx} {K : PySem.W.Frag}
/-- xs[j], by values, ahead of xs[j] += e -/
def rGetL (K : PySem.W.Frag) : V → V → Hp → VK → Prop := fun o i H Q => ∃ p xs, ∃ j : Nat, ∃ v, o = .ref p ∧ i = .int (j : Int) ∧ SqL K H p xs ∧ xs[j]? = some v ∧ Q v H
theorem get_listN (hK : X.K = K) : PGet X (rGetL K) := by
  subst hK
  intro pins s σ H o i ov iv Q I ro ri h
  obtain ⟨p, xs, j, v, rfl, rfl, hq, hx, q⟩ := h
  cases ro
  obtain ⟨t, rfl⟩ := ri
  obtain ⟨its, r, pl, hz⟩ := I.list hq
  obtain ⟨u, hu, ru⟩ := r.get hx
  have hl := (List.getElem?_eq_some_iff.mp hx).1
  have hn := line63
  exact wpAny_getItem_list pl.isList (by omega) (by omega) (by rw [Int.toNat_natCast]; simpa using hu) ⟨v, H, I, ru, q⟩
/-! ### a list of ints, by places -/
def fl (n : Nat) (f : Nat → Int) : List V := (List.range n).map fun j => V.int (f j)
def updf (f : Nat → Int) (i : Nat) (x : Int) : Nat → Int := fun j => if j = i then x else f j
theorem fl_len (n : Nat) (f : Nat → Int) : (fl n f).length = n := by simp [fl]
theorem fl_get {n j : Nat} {f : Nat → Int} (h : j < n) : (fl n f)[j]? = some (.int (f j)) := by
  simp [fl, h]
theorem fl_at {n j : Nat} {f : Nat → Int} (h : j < n) : atI (fl n f) (j : Int) = some (.int (f j)) := atI_nat (fl_get h)
theorem fl_set {n i : Nat} {f : Nat → Int} {x : Int} : (fl n f).set i (.int x) = fl n (updf f i x) := by
  apply List.ext_getElem?
  intro j
  by_cases hj : j < n
  · rw [fl_get hj, List.getElem?_set]
    by_cases e : i = j
    · subst e
      rw [if_pos rfl, if_pos (by rw [fl_len]; exact hj)]
      simp [updf]
    · rw [if_neg e, fl_get hj]
      simp [updf, Ne.symm e]
  · rw [List.getElem?_eq_none (by rw [List.length_set, fl_len]; omega), List.getElem?_eq_none (by rw [fl_len]; omega)]
theorem ixN_nat {n j : Nat} (h : j < n) : ixN n (j : Int) = some j := by
  unfold ixN
  rw [if_pos (by omega), if_pos (by omega), Int.toNat_natCast]
end
end L2

namespace L2
open PySem PySem.Spec PyProof.Rows
/-! ### min, max of a list of ints -/
theorem pick_le {f : Nat → Int} : ∀ {n j : Nat}, pick (fun i j => decide (f i < f j)) n = some j → ∀ i, i < n → f j ≤ f i
  | 0, _, h => by cases h
  | n + 1, j, h => by
    unfold pick at h
    cases e : pick (fun i j => decide (f i < f j)) n with
    | none =>
      rw [e] at h; cases h
      have := pick_none e
      intro i hi
      have : i = n := by omega
      subst this
      exact Int.le_refl _
    | some k =>
      rw [e] at h
      have ih := pick_le e
      simp only [decide_eq_true_eq] at h
      intro i hi
      split at h
      · cases h
        by_cases z : i = n
        · subst z; exact Int.le_refl _
        · have := ih i (by omega); omega
      · cases h
        by_cases z : i = n
        · subst z; omega
        · exact ih i (by omega)
section
variable {X : Cx} {K : PySem.W.Frag}
/-- b: min, else max -/
def rMmI (K : PySem.W.Frag) (b : Bool) : List V → Hp → VK → Prop := fun vs H Q => ∃ (a : Addr) (ns : List Int), vs = [.ref a] ∧ SqL K H a (ns.map V.int) ∧ 0 < ns.length ∧
  ∀ m H', m ∈ ns → (∀ x ∈ ns, if b then m ≤ x else x ≤ m) → Same H H' → Q (.int m) H'
theorem cMmI (b : Bool) (hK : X.K = K) (hc : X.calm = true) : CallR X (.builtin (mmI b)) (rMmI K b) := by
  intro pins s σ H xs us Q I r h
  refine cMm1 b hK hc pins s σ H xs us Q I r ?_
  obtain ⟨a, ns, e, hl, hn, k⟩ := h
  refine ⟨a, ns, e, hl, hn, fun H' S => ?_⟩
  cases b with
  | true =>
    cases e : pick (fun i j => if true = true then decide (ns.getD i 0 < ns.getD j 0) else decide (ns.getD j 0 < ns.getD i 0)) (ns.map V.int).length with
    | none => have := pick_none e; rw [List.length_map] at this; omega
    | some j =>
      simp only [if_true] at e
      have hj := pick_lt e
      have hle := pick_le (f := fun i => ns.getD i 0) e
      intro x hx
      rw [List.length_map] at hj hle
      rw [List.getElem?_map, List.getElem?_eq_getElem hj] at hx
      cases hx
      refine k _ _ (List.getElem_mem hj) (fun x hx => ?_) S
      obtain ⟨i, hi, rfl⟩ := List.getElem_of_mem hx
      have := hle i hi
      simpa [List.getD, List.getElem?_eq_getElem hj, List.getElem?_eq_getElem hi] using this
  | false =>
    cases e : pick (fun i j => if false = true then decide (ns.getD i 0 < ns.getD j 0) else decide (ns.getD j 0 < ns.getD i 0)) (ns.map V.int).length with
    | none => have := pick_none e; rw [List.length_map] at this; omega
    | some j =>
      simp only [Bool.false_eq_true, if_false] at e
      have hj := pick_lt e
      have e' : pick (fun i j => decide ((fun i => - ns.getD i 0) i < (fun i => - ns.getD i 0) j)) (ns.map V.int).length = some j := by
        rw [← e]; congr 1; funext i j; congr 1; apply propext; show -_ < -_ ↔ _; omega
      have hle := pick_le (f := fun i => - ns.getD i 0) e'
      intro x hx
      rw [List.length_map] at hj hle
      rw [List.getElem?_map, List.getElem?_eq_getElem hj] at hx
      cases hx
      refine k _ _ (List.getElem_mem hj) (fun x hx => ?_) S
      obtain ⟨i, hi, rfl⟩ := List.getElem_of_mem hx
      have := hle i hi
      simp only [List.getD, List.getElem?_eq_getElem hj, List.getElem?_eq_getElem hi, Option.getD_some] at this
      rw [if_neg (by decide)]
      omega
end
end L2

namespace L2
open PySem PySem.Spec PyProof.Rows
/-! ### a call of what a name holds -/
def tCalV (i : Nat) (f : Addr) (sp : Sp) (t : TA) : TE := fun σ H Q => σ[i]? = some (some (.ref f)) ∧ t σ H fun vs H1 => sp vs H1 Q E0
def CalOk (P : Program) (w : World) (K : PySem.W.Frag) (mg : Str → Option Value) (base : Heap) (f : Addr) (k : Nat) (sp : Sp) : Prop :=
  ∀ (X : Cx), X.prog = P → X.w = w → X.K = K → X.mg = mg → X.base = base → Room k X.A → ∀ (i : Nat) (x : Str) (p pos : Pos) (e : Expr) (t : TA), X.N[i]? = some x → Vis X.env.scope x → (x == ("__debug__" : Str)) = false → (x == ("__classdict__" : Str)) = false → PA X [e] t →
    starEach [e] X.env = [(false, eval e X.env)] → PE X (.Call (.Name x p) [e] [] pos) (tCalV i f sp t)
theorem cal_fn {P : Program} {w : World} {K : PySem.W.Frag} {mg : Str → Option Value} {base : Heap} {k : Nat} {f : Addr} {fd : FuncData} {y : Str} {sp : Sp} (F : FnOk P w K mg base CX0 k f fd [y] sp) (hk : PySem.W.keepIn K (.ref f) = true) (hb : Binds K fd [y] []) : CalOk P w K mg base f k sp := by
  intro X h1 h2 h3 h4 h5 hr i x p pos e t hN hv hd hcd ha hs pins s σ H Q I h
  subst h1 h2 h3 h4 h5
  obtain ⟨hi, h⟩ := h
  refine wpAny_Call_Name_kw (thn (pe_var hN hv hd hcd pins s σ H (fun v H' => v = .ref f ∧ H' = H) I ⟨_, hi, rfl, rfl⟩) fun u s0 ⟨v, H', I0, r0, e1, e2⟩ => ?_)
  subst e1 e2
  obtain rfl : u = Value.ref f := r0
  refine PySem.W.callWith_K (h₀ := X.base) I0.ok.mod.kin hk (thn (ha pos pins s0 σ H' _ I0 h) fun us s1 ⟨vs, H1, I1, r, q⟩ => ⟨I1.kIn, ?_⟩) hs rfl
  exact run_fn F hr hb .nil pass0 I1 r (by rw [List.append_nil]; exact q)
theorem pe_calV {X : Cx} {P : Program} {w : World} {K : PySem.W.Frag} {mg : Str → Option Value} {base : Heap} {k : Nat} {f : Addr} {sp : Sp} (C : CalOk P w K mg base f k sp) (h1 : X.prog = P) (h2 : X.w = w) (h3 : X.K = K) (h4 : X.mg = mg) (h5 : X.base = base) (hr : Room k X.A)
    (i : Nat) {x : Str} {p pos : Pos} {e : Expr} {t : TA} (ha : PA X [e] t) (hN : X.N[i]? = some x := by rfl) (hv : Vis X.env.scope x := by first | exact Or.inl rfl | exact Or.inr (Or.inl rfl) | exact Or.inr (Or.inr rfl)) (hd : (x == ("__debug__" : Str)) = false := by decide)
    (hcd : (x == ("__classdict__" : Str)) = false := by decide) (hs : starEach [e] X.env = [(false, eval e X.env)] := by rfl) : PE X (.Call (.Name x p) [e] [] pos) (tCalV i f sp t) := C X h1 h2 h3 h4 h5 hr i x p pos e t hN hv hd hcd ha hs
end L2

namespace L2
open PySem PySem.Spec PyProof.Rows
section
variable {X : Cx} {K : PySem.W.Frag}
/-- t[lo:hi] of a tracked tuple is a tracked one -/
def rSlTB : V → Option Int → Option Int → Hp → VK → Prop := fun x lo hi H Q => ∃ a xs, x = .ref a ∧ H a = some (.tup xs) ∧ ∀ q H', Same H H' → H' q = some (.tup (cutV xs lo hi)) → Q (.ref q) H'
theorem slTB : SlR X rSlTB := by
  intro pins s σ H x v vl vu lo hi sl Q I rx hs pl pu h
  obtain ⟨a, xs, rfl, hx, q1⟩ := h
  by_cases hw : HT.sIx xs.length 0 lo = 0 ∧ HT.sIx xs.length xs.length hi = xs.length
  · cases rx
    obtain ⟨its, r, ht, hz⟩ := I.tuple (SqT.of hx)
    have hlen : its.toArray.size = xs.length := by rw [List.size_toArray]; exact r.length.symm
    refine ⟨"tuple", _, PyProof.Rows.slot_tuple_getitem.lookup, ht.typeIs, HT.getItem_tuple_all ht hs pl pu (by rw [hlen]; exact hw) ⟨.ref a, H, I, rfl, q1 a H (Same.refl H) ?_⟩⟩
    have e : cutV xs lo hi = xs := by
      unfold cutV
      rw [hw.1, hw.2]; simp
    rw [e]; exact hx
  · exact sl_tup pins s σ H (.ref a) v vl vu lo hi sl Q I rx hs pl pu ⟨a, xs, rfl, SqT.of hx, hw, fun p hp => q1 p _ (fun b o e => by rw [upd_ne (ne_of_none e hp)]; exact e) upd_same⟩
/-- t + u of tracked tuples -/
def rCatB : R2 := fun x y H Q => ∃ a b xs ys, x = .ref a ∧ y = .ref b ∧ H a = some (.tup xs) ∧ H b = some (.tup ys) ∧ xs.length + ys.length ≤ sizeLine ∧ ∀ q H', Same H H' → H' q = some (.tup (xs ++ ys)) → Q (.ref q) H'
theorem oCatB : OpR X (binaryOp .Add) rCatB := by
  intro pins s σ H x y v u Q I rx ry h
  obtain ⟨a, b, xs, ys, rfl, rfl, ha, hb, hz, q⟩ := h
  by_cases hx : xs = []
  · subst hx
    cases rx
    cases ry
    obtain ⟨its, r1, p1, _⟩ := I.tuple (SqT.of ha)
    obtain ⟨its2, r2, p2, _⟩ := I.tuple (SqT.of hb)
    cases r1
    obtain ⟨⟨cls, dd, data, sl⟩, ho, hc, n, hd⟩ := id p1
    obtain ⟨⟨cls2, dd2, data2, sl2⟩, ho2, hc2, n2, hd2⟩ := id p2
    simp only at hc hd hc2 hd2
    subst hc hd hc2 hd2
    exact concat_meets ⟨_, ho, rfl⟩ ⟨_, ho2, rfl⟩ noFill_tuple_add seq_tuple_add PySem.F.slot_tuple_add PySem.F.entry_tuple_add (PySem.F.args_tuple_add_2 _ _)
      (tuple_addW0 a b _ _ n n2 dd dd2 sl sl2 rfl) ⟨ho, ho2, ⟨.ref b, H, I, rfl, q b H (Same.refl _) hb⟩⟩
  · exact op_catT pins s σ H (.ref a) (.ref b) v u Q I rx ry ⟨a, b, xs, ys, rfl, rfl, SqT.of ha, SqT.of hb, hx, hz, fun e => by subst e; exact q a H (Same.refl _) (by rw [List.append_nil]; exact ha), fun _ p hp => q p _ (Same.lay hp) upd_same⟩
/-- cutting: from the begin, from a place, all but the last -/
theorem cut_to {α : Type} (xs : List α) (k : Nat) (h : k ≤ xs.length) : cutL xs none (some (k : Int)) = xs.take k := by
  unfold cutL
  have e1 : HT.sIx xs.length 0 none = 0 := rfl
  have e2 : HT.sIx xs.length xs.length (some (k : Int)) = k := by
    unfold HT.sIx
    simp only
    split <;> omega
  rw [e1, e2, List.drop_zero, Nat.sub_zero]
end
end L2

namespace L2
open PySem PySem.Spec PyProof.Rows
/-! ### == and != of what is nested: tuples, lists, None, to a depth -/
def EqD (K : PySem.W.Frag) (H : Hp) : Nat → V → V → Bool → Prop
  | 0, x, y, b => flatV x = true ∧ flatV y = true ∧ b = eqV x y
  | n + 1, x, y, b => (flatV x = true ∧ flatV y = true ∧ b = eqV x y) ∨
    (∃ (c : Bool) (p q : Addr) (xs ys : List V) (e : Nat → Bool), x = .ref p ∧ y = .ref q ∧ SqB K c H p xs ∧ SqB K c H q ys ∧ (∀ (j : Nat) (x' y' : V), xs[j]? = some x' → ys[j]? = some y' → EqD K H n x' y' (e j)) ∧
      b = ((xs.length == ys.length) && (List.range xs.length).all e) ∧ (p = q → b = true)) ∨
    (∃ (c : Bool) (p : Addr) (xs : List V), x = .ref p ∧ y = .non ∧ SqB K c H p xs ∧ b = false) ∨
    (∃ (c : Bool) (p : Addr) (xs : List V), x = .non ∧ y = .ref p ∧ SqB K c H p xs ∧ b = false)
section
variable {X : Cx} {pins : List (Addr × Obj)} {σ : St} {H : Hp} {s : Shared}
theorem getA {its : List Value} {j : Nat} {u : Value} (h : j < its.toArray.size) (e : its[j]? = some u) : its.toArray[j] = u := by
  have := List.getElem?_eq_some_iff.mp e
  simpa using this.2
theorem eqAt_D (I : Inv X pins σ H s) : ∀ (n : Nat) (A : Around) {x y : V} {b : Bool} {v u : Value}, EqD X.K H n x y b → RelV x v → RelV y u → A.units + n < cLine → SeqAt.EqAt A s v u b := by
  intro n
  induction n with
  | zero =>
    intro A x y b v u h rx ry _
    obtain ⟨f1, f2, rfl⟩ := h
    exact eqAt_V rx ry f1 f2
  | succ n ih =>
    intro A x y b v u h rx ry hu
    rcases h with ⟨f1, f2, rfl⟩ | ⟨c, p, q, xs, ys, e, rfl, rfl, hp, hq, he, hb, hpq⟩ | ⟨c, p, xs, rfl, rfl, hp, rfl⟩ | ⟨c, p, xs, rfl, rfl, hp, rfl⟩
    · exact eqAt_V rx ry f1 f2
    · cases rx
      cases ry
      by_cases epq : p = q
      · subst epq
        rw [hpq rfl]
        exact SeqAt.EqAt.same _
      · refine SeqAt.EqAt.of_refs epq ?_
        obtain ⟨its, r1, z1, _⟩ := I.seqB hp
        obtain ⟨its2, r2, z2, _⟩ := I.seqB hq
        have l1 := r1.length
        have l2 := r2.length
        have items : ∀ (j : Nat) (h1 : j < its.toArray.size) (h2 : j < its2.toArray.size), SeqAt.EqAt A.in1 s its.toArray[j] its2.toArray[j] (e j) := fun j h1 h2 => by
          have h1' : j < xs.length := by rw [List.size_toArray] at h1; omega
          have h2' : j < ys.length := by rw [List.size_toArray] at h2; omega
          obtain ⟨u1, e1, q1⟩ := r1.get (List.getElem?_eq_getElem h1')
          obtain ⟨u2, e2, q2⟩ := r2.get (List.getElem?_eq_getElem h2')
          rw [getA h1 e1, getA h2 e2]
          exact ih A.in1 (he j _ _ (List.getElem?_eq_getElem h1') (List.getElem?_eq_getElem h2')) q1 q2 (by show A.units + 1 + n < cLine; omega)
        cases c with
        | false =>
          by_cases hl : xs.length = ys.length
          · have := SeqAt.RcAt.lists (A := A) (e := e) z1 z2 (by rw [List.size_toArray, List.size_toArray]; omega) (by omega) items
            rw [List.size_toArray, ← l1] at this
            rw [hb, hl, beq_self_eq_true, Bool.true_and, ← hl]
            exact this
          · rw [hb, beq_eq_false_iff_ne.mpr hl, Bool.false_and]
            exact SeqAt.RcAt.lists_lengths z1 z2 (by rw [List.size_toArray, List.size_toArray, bne_iff_ne]; omega) (by omega)
        | true =>
          have := SeqAt.RcAt.tuples (A := A) (e := e) z1 z2 (by omega) items
          rw [List.size_toArray, List.size_toArray, ← l1, ← l2] at this
          by_cases hl : xs.length = ys.length
          · rw [hl, Nat.min_self, beq_self_eq_true, Bool.and_true] at this
            rw [hb, hl, beq_self_eq_true, Bool.true_and]
            exact this
          · rw [beq_eq_false_iff_ne.mpr hl, Bool.and_false] at this
            rw [hb, beq_eq_false_iff_ne.mpr hl, Bool.false_and]
            exact this
    · cases rx
      cases ry
      obtain ⟨its, r1, z1, _⟩ := I.seqB hp
      cases c with
      | false => exact SeqAt.EqAt.list_none z1 (by omega)
      | true => exact SeqAt.EqAt.tuple_none z1 (by omega)
    · cases rx
      cases ry
      obtain ⟨its, r1, z1, _⟩ := I.seqB hp
      cases c with
      | false => exact SeqAt.EqAt.none_list z1 (by omega)
      | true => exact SeqAt.EqAt.none_tuple z1 (by omega)
/-- what is compared first -/
def SeqD (x y : V) : Prop := (∃ p, x = .ref p) ∨ ∃ q, y = .ref q
theorem rc_D (I : Inv X pins σ H s) {n : Nat} {x y : V} {b : Bool} {v u : Value} (h : EqD X.K H (n + 1) x y b) (hs : SeqD x y) (rx : RelV x v) (ry : RelV y u) (hu : X.A.units + (n + 1) < cLine) : SeqAt.RcAt X.A s v u b ∧ SeqAt.RcNeAt X.A s v u (!b) := by
  have hu1 : X.A.units < cLine := by omega
  rcases h with ⟨f1, f2, rfl⟩ | ⟨c, p, q, xs, ys, e, rfl, rfl, hp, hq, he, hb, hpq⟩ | ⟨c, p, xs, rfl, rfl, hp, rfl⟩ | ⟨c, p, xs, rfl, rfl, hp, rfl⟩
  · rcases hs with ⟨p, rfl⟩ | ⟨p, rfl⟩
    · exact absurd (show false = true from f1) Bool.false_ne_true
    · exact absurd (show false = true from f2) Bool.false_ne_true
  · cases rx
    cases ry
    obtain ⟨its, r1, z1, _⟩ := I.seqB hp
    obtain ⟨its2, r2, z2, _⟩ := I.seqB hq
    have l1 := r1.length
    have l2 := r2.length
    have items : ∀ (j : Nat) (h1 : j < its.toArray.size) (h2 : j < its2.toArray.size), SeqAt.EqAt X.A.in1 s its.toArray[j] its2.toArray[j] (e j) := fun j h1 h2 => by
      have h1' : j < xs.length := by rw [List.size_toArray] at h1; omega
      have h2' : j < ys.length := by rw [List.size_toArray] at h2; omega
      obtain ⟨u1, e1, q1⟩ := r1.get (List.getElem?_eq_getElem h1')
      obtain ⟨u2, e2, q2⟩ := r2.get (List.getElem?_eq_getElem h2')
      rw [getA h1 e1, getA h2 e2]
      exact eqAt_D I n X.A.in1 (he j _ _ (List.getElem?_eq_getElem h1') (List.getElem?_eq_getElem h2')) q1 q2 (by show X.A.units + 1 + n < cLine; omega)
    cases c with
    | false =>
      by_cases hl : xs.length = ys.length
      · have h1 := SeqAt.RcAt.lists (A := X.A) (e := e) z1 z2 (by rw [List.size_toArray, List.size_toArray]; omega) (by omega) items
        have h2 := SeqAt.RcNeAt.lists (A := X.A) (e := e) z1 z2 (by rw [List.size_toArray, List.size_toArray]; omega) (by omega) items
        rw [List.size_toArray, ← l1] at h1 h2
        rw [hb, hl, beq_self_eq_true, Bool.true_and, ← hl]
        exact ⟨h1, h2⟩
      · rw [hb, beq_eq_false_iff_ne.mpr hl, Bool.false_and]
        exact ⟨SeqAt.RcAt.lists_lengths z1 z2 (by rw [List.size_toArray, List.size_toArray, bne_iff_ne]; omega) hu1, SeqAt.RcNeAt.lists_lengths z1 z2 (by rw [List.size_toArray, List.size_toArray, bne_iff_ne]; omega) hu1⟩
    | true =>
      have h1 := SeqAt.RcAt.tuples (A := X.A) (e := e) z1 z2 (by omega) items
      have h2 := SeqAt.RcNeAt.tuples (A := X.A) (e := e) z1 z2 (by omega) items
      rw [List.size_toArray, List.size_toArray, ← l1, ← l2] at h1 h2
      by_cases hl : xs.length = ys.length
      · rw [hl, Nat.min_self, beq_self_eq_true, Bool.and_true] at h1 h2
        rw [hb, hl, beq_self_eq_true, Bool.true_and]
        exact ⟨h1, h2⟩
      · rw [beq_eq_false_iff_ne.mpr hl, Bool.and_false] at h1 h2
        rw [hb, beq_eq_false_iff_ne.mpr hl, Bool.false_and]
        exact ⟨h1, h2⟩
  · cases rx
    cases ry
    obtain ⟨its, r1, z1, _⟩ := I.seqB hp
    cases c with
    | false => exact ⟨SeqAt.RcAt.list_none z1 hu1, SeqAt.RcNeAt.list_none z1 hu1⟩
    | true => exact ⟨SeqAt.RcAt.tuple_none z1 hu1, SeqAt.RcNeAt.tuple_none z1 hu1⟩
  · cases rx
    cases ry
    obtain ⟨its, r1, z1, _⟩ := I.seqB hp
    cases c with
    | false => exact ⟨SeqAt.RcAt.none_list z1 hu1, SeqAt.RcNeAt.none_list z1 hu1⟩
    | true => exact ⟨SeqAt.RcAt.none_tuple z1 hu1, SeqAt.RcNeAt.none_tuple z1 hu1⟩
end
/-- x == y, x != y, one of them a list or a tuple -/
def rEqD (K : PySem.W.Frag) (neg : Bool) : R2 := fun x y H Q => ∃ (n : Nat) (b : Bool), n < 60 ∧ EqD K H (n + 1) x y b ∧ SeqD x y ∧ Q (.bl (if neg then !b else b)) H
theorem oNeD {X : Cx} {K : PySem.W.Frag} (hK : X.K = K) (hu : X.A.units + 64 < cLine) : OpR X (compareOp .NotEq) (rEqD K true) := by
  subst hK
  intro pins s σ H x y v u Q I rx ry h
  obtain ⟨n, b, hn, hd, hs, k⟩ := h
  exact (rc_D I hd hs rx ry (by omega)).2 _ _ _ _ ⟨.bl (!b), H, I, rfl, k⟩
section
variable {K : PySem.W.Frag} {H : Hp}
theorem EqD.flat {n : Nat} {x y : V} (h1 : flatV x = true) (h2 : flatV y = true) : EqD K H n x y (eqV x y) := by
  cases n with
  | zero => exact ⟨h1, h2, rfl⟩
  | succ n => exact .inl ⟨h1, h2, rfl⟩
theorem EqD.int {n : Nat} (i j : Int) : EqD K H n (.int i) (.int j) (i == j) := EqD.flat rfl rfl
theorem EqD.int_t {n : Nat} (i : Int) : EqD K H n (.int i) (.int i) true := by
  have := EqD.int (K := K) (H := H) (n := n) i i
  rw [beq_self_eq_true] at this
  exact this
/-- two lists, or two tuples, alike item by item -/
theorem EqD.seq {n : Nat} {c : Bool} {p q : Addr} {xs ys : List V} (hp : SqB K c H p xs) (hq : SqB K c H q ys) (hl : xs.length = ys.length) (h : ∀ (j : Nat) (x y : V), xs[j]? = some x → ys[j]? = some y → EqD K H n x y true) : EqD K H (n + 1) (.ref p) (.ref q) true := by
  refine .inr (.inl ⟨c, p, q, xs, ys, fun _ => true, rfl, rfl, hp, hq, h, ?_, fun _ => rfl⟩)
  rw [hl, beq_self_eq_true, Bool.true_and]
  exact (List.all_eq_true.mpr fun _ _ => rfl).symm
theorem EqD.ints {n : Nat} {c : Bool} {p q : Addr} {ns : List Int} (hp : SqB K c H p (ns.map V.int)) (hq : SqB K c H q (ns.map V.int)) : EqD K H (n + 1) (.ref p) (.ref q) true :=
  EqD.seq hp hq rfl fun j x y h1 h2 => by
    rw [h1] at h2
    cases h2
    rw [List.getElem?_map] at h1
    obtain ⟨i, _, rfl⟩ := Option.map_eq_some_iff.mp h1
    exact EqD.int_t i
theorem SqB.t {p : Addr} {xs : List V} (h : H p = some (.tup xs)) : SqB K true H p xs := SqT.of h
theorem SqB.l {p : Addr} {xs : List V} (h : H p = some (.lst xs)) : SqB K false H p xs := SqL.of h
end
end L2

namespace L2
open PySem PySem.Spec PyProof.Rows
/-! ### xs[::-1] of a list -/
section
variable {X : Cx} {K : PySem.W.Frag} {e st : Expr} {te ts : TE} {p2 pos : Pos}
end
end L2

/-! # isinstance of an exception of an own class -/
namespace L2
open PySem PySem.Spec PyProof.Rows

/-- what a class of exceptions must have, as the fragment's deciders tell it -/
structure XCls (K : PySem.W.Frag) (C : Addr) : Prop where
  ga : PySem.W.findIn K (.ref C) "__getattribute__" = some (some (.builtin "BaseException.__getattribute__"))
  gn : PySem.W.findIn K (.ref C) "__getattr__" = some none
  cl : PySem.W.findIn K (.ref C) "__class__" = some (some (.builtin "object.__class__"))
  ob : PySem.W.mroIn K C (.type "object") = some true
  bx : PySem.W.mroIn K C (.type "BaseException") = some true
  is : (PySem.W.clsIn K C).isSome = true

section
variable {prog : Program} {w : World} {A : Around} {E : Value → Shared → Prop} {h : Heap} {g : Array GenState} {d : Drawn} {t : Nat} {os : OsState} {a C : Addr} {o : Obj} {K : PySem.W.Frag}

end

end L2

namespace L2
open PySem PySem.Spec PyProof.Rows

/-! ### isinstance of an exception -/
section
variable {X : Cx}
end

/-! ### an exception on its way: its record, its traceback -/
/-- the exception at a, of the class at C; its traceback (the record at T), if there is one -/
def XRec (h : Heap) (a C : Addr) (T : Option Addr) : Prop := ∃ oe vs, h.get? a = some oe ∧ oe.cls = .ref C ∧ oe.data = .fields vs ∧
  match T with
  | none => vs[1]? = some .none
  | some t => vs[1]? = some (.ref t) ∧ t ≠ a ∧ ∃ oT ts, h.get? t = some oT ∧ oT.data = .fields ts ∧ ts[3]? = some .none

section
variable {X : Cx} {pins : List (Addr × Obj)} {σ : St} {H H' : Hp} {s : Shared} {h' : Heap} {ch : List Addr}
/-- records that are newer than the entry may have turned (or been filled anew) -/
abbrev Cx.exs (X : Cx) (ch : List Addr) : Cx := { X with ex := X.ex ++ ch }
theorem Inv.exs (I : Inv X pins σ H s) (hch : ∀ b ∈ ch, X.s₀.heap.get? b = none ∧ b ≠ X.env.locals ∧ (∀ x c, X.env.cells.lookup x = some c → c ≠ b)) : Inv (X.exs ch) pins σ H s := by
  have nb : ∀ b o, X.s₀.heap.get? b = some o → b ∉ ch := fun b o e hb => by rw [(hch b hb).1] at e; cases e
  have ok := I.ok
  refine ⟨⟨ok.mod, ok.kind, ok.glob, ok.blt, ok.above, ok.inj, ok.has, ok.cab, ok.hd, ok.frames, ok.stk, fun b hb => ?_, ok.bs, ok.bsz, fun b o e hb => ?_, fun b hb hf => ?_, ok.funs, ok.frf⟩, I.os, I.bare,
    ⟨fun b o e n hb hx => I.base.keep b o e n hb fun z => hx (List.mem_append_left _ z), fun b o e n hb hx => I.base.slot b o e n hb fun z => hx (List.mem_append_left _ z), fun b o e n hx => I.base.free b o e n fun z => hx (List.mem_append_left _ z), fun b o e hx => I.base.there b o e fun z => hx (List.mem_append_left _ z), I.base.tups, I.base.frzs, I.base.tbls⟩,
    I.loc, I.cell, I.free, I.freeC, I.pin, I.hok, I.len⟩
  · rcases List.mem_append.mp hb with z | z
    · exact ok.exf b z
    · exact ⟨(hch b z).2.1, (hch b z).2.2⟩
  · rcases List.mem_append.mp hb with z | z
    · exact ok.noex b o e z
    · exact nb b o (ok.bs b o e).1 z
  · rcases List.mem_append.mp hb with z | z
    · exact ok.exfs b z hf
    · obtain ⟨_, o, ho, _⟩ := ok.funs.mem hf
      exact nb b o ho z
theorem Inv.unexs (I : Inv (X.exs ch) pins σ H s) (ok : X.Ok) (hch : ∀ b ∈ ch, X.s₀.heap.get? b = none) : Inv X pins σ H s := by
  have nb : ∀ b o, X.s₀.heap.get? b = some o → b ∉ X.ex → b ∉ X.ex ++ ch := fun b o e n hb => by
    rcases List.mem_append.mp hb with z | z
    · exact n z
    · rw [hch b z] at e; cases e
  exact ⟨ok, I.os, I.bare, ⟨fun b o e n hb hx => I.base.keep b o e n hb (nb b o e hx), fun b o e n hb hx => I.base.slot b o e n hb (nb b o e hx), fun b o e n hx => I.base.free b o e n (nb b o e hx), fun b o e hx => I.base.there b o e (nb b o e hx), I.base.tups, I.base.frzs, I.base.tbls⟩,
    I.loc, I.cell, I.free, I.freeC, I.pin, I.hok, I.len⟩
/-- what was there when the state was s is neither of these: so they are no frame, no cell, no pin -/
theorem Inv.news (I : Inv X pins σ H s) (hn : ∀ b ∈ ch, X.s₀.heap.get? b = none ∧ H b = none ∧ b ∉ frs X.stack ∧ b ≠ X.env.locals ∧ (∀ x c, X.env.cells.lookup x = some c → c ≠ b) ∧ ∀ p ∈ X.pn ++ pins, p.1 ≠ b)
    (hk : (PySem.W.hideAll s.heap (ch ++ frs X.stack)).StaysIn h') (hs : ∀ b o, s.heap.get? b = some o → (∀ vs, o.data ≠ .fields vs) → ∃ sl, h'.get? b = some { o with slots := sl }) (t' : Nat) :
    Inv X pins σ H { s with heap := h', toks := t' } := by
  have kp : ∀ b o, s.heap.get? b = some o → b ∉ frs X.stack → b ∉ ch → h'.get? b = some o := fun b o e n1 n2 => hk b o (PySem.W.hideAll_get _ e fun z => (List.mem_append.mp z).elim n2 n1)
  have fs : ∀ b o, s.heap.get? b = some o → b ∈ frs X.stack → ∃ sl, h'.get? b = some { o with slots := sl } := fun b o e hb => by
    obtain ⟨_, o', ho', hd⟩ := I.stack.mem hb
    rw [e] at ho'; cases ho'
    exact hs b o e hd
  have hch' : ∀ b ∈ ch, X.s₀.heap.get? b = none ∧ b ≠ X.env.locals ∧ (∀ x c, X.env.cells.lookup x = some c → c ≠ b) := fun b hb => ⟨(hn b hb).1, (hn b hb).2.2.2.1, (hn b hb).2.2.2.2.1⟩
  refine Inv.unexs (ch := ch) ((I.exs hch').call (g' := s.gens) (d' := s.drawn) (ch := ch) ⟨fun b o e n hb hx => kp b o e hb hx, fun b o e n hb hx => fs b o e hb, fun b o e n hx => n, fun b o e hx => ?_, fun b xs e => e, fun b o u e => e, fun b ps e => ⟨#[], by rw [e]; simp⟩⟩ (fun b u e => ?_) I.bare fun b hb => ?_) I.ok fun b hb => (hn b hb).1
  · by_cases hf : b ∈ frs X.stack
    · obtain ⟨sl, q⟩ := fs b o e hf
      exact ⟨_, q⟩
    · exact ⟨o, kp b o e hf hx⟩
  · have nf : ∀ c u, H c = some u → c ∉ frs X.stack ∧ c ∉ ch := fun c u q => ⟨fun z => (by rw [I.stkFree c z] at q; cases q), fun z => (by rw [(hn c z).2.1] at q; cases q)⟩
    refine (I.hok b u e).stay (fun c v hc q => ?_) (fun _ q => q) fun _ _ q => q
    rcases hc with z | z
    · exact kp c v q (z ▸ nf b u e).1 (z ▸ nf b u e).2
    · exact kp c v q (nf c _ z).1 (nf c _ z).2
  · exact ⟨.inl (List.mem_append_right _ hb), (hn b hb).2.2.2.1, (hn b hb).2.2.2.2.1, (hn b hb).2.2.2.2.2⟩
end
end L2

namespace L2
open PySem PySem.Spec PyProof.Rows

/-- new since the entry, and no frame, no cell, no pin, not tracked -/
def Nw (X : Cx) (pins : List (Addr × Obj)) (H : Hp) (b : Addr) : Prop :=
  X.s₀.heap.get? b = none ∧ H b = none ∧ b ∉ frs X.stack ∧ b ≠ X.env.locals ∧ (∀ x c, X.env.cells.lookup x = some c → c ≠ b) ∧ ∀ p ∈ X.pn ++ pins, p.1 ≠ b
/-- the exception at a, of the class at C, is on its way -/
structure Fly (X : Cx) (pins : List (Addr × Obj)) (σ : St) (H : Hp) (s : Shared) (a C : Addr) (T : Option Addr) : Prop where
  inv : Inv X pins σ H s
  xrec : XRec s.heap a C T
  na : Nw X pins H a
  nt : ∀ t, T = some t → Nw X pins H t
/-- a def's body -/
structure Full (X : Cx) : Prop where
  stk : X.stack = X.env :: X.outer
  fr : X.env.frame = some X.env.locals
  ex : X.ex = []

section
variable {X : Cx} {pins : List (Addr × Obj)} {σ : St} {H : Hp} {s : Shared} {a C : Addr} {T : Option Addr} {h' : Heap}
/-- what was not there is new -/
theorem Inv.nw (I : Inv X pins σ H s) (f : Full X) {b : Addr} (e : s.heap.get? b = none) : Nw X pins H b := by
  have ne : ∀ c o, s.heap.get? c = some o → c ≠ b := fun c o q z => by rw [z, e] at q; cases q
  refine ⟨?_, ?_, fun z => ?_, fun z => ?_, fun x c q z => ?_, fun p hp z => ?_⟩
  · cases q : X.s₀.heap.get? b with
    | none => rfl
    | some o =>
      obtain ⟨o', q'⟩ := I.base.there b o q (by rw [f.ex]; simp)
      exact absurd rfl (ne b o' q')
  · cases q : H b with
    | none => rfl
    | some u =>
      have lt := I.hok.lt q
      exfalso
      have ok := I.hok b u q
      cases u with
      | lst xs => obtain ⟨_, _, _, _, q'⟩ := ok; exact ne b _ q' rfl
      | tup xs => obtain ⟨_, _, _, ⟨o, q', _⟩⟩ := ok; exact ne b _ q' rfl
      | dK kvs => obtain ⟨_, _, _, _, o, _, _, q', _⟩ := ok; exact ne b _ q' rfl
      | dT kvs => obtain ⟨_, _, _, _, o, _, _, q', _⟩ := ok; exact ne b _ q' rfl
      | set S n => obtain ⟨o, _, _, _, q', _⟩ := ok; exact ne b _ q' rfl
      | ins C dx fs => obtain ⟨_, _, _, q', _⟩ := ok; exact ne b _ q' rfl
      | own y => obtain ⟨_, q'⟩ := ok; exact ne b _ q' rfl
      | xd fs => obtain ⟨_, ⟨_, _, _, q', _⟩, _⟩ := ok; exact ne b _ q' rfl
      | rng lo hi => obtain ⟨_, _, _, q'⟩ := ok; exact ne b _ q' rfl
      | frz ob u => obtain ⟨q', _⟩ := ok; exact ne b _ q' rfl
      | tbl ps => exact ne b _ (show s.heap.get? b = some _ from ok) rfl
      | met f y => exact ne b _ (show s.heap.get? b = some _ from ok) rfl
      | ext φ => obtain ⟨_, ⟨_, q'⟩, _⟩ := ok; exact ne b _ q' rfl
  · obtain ⟨_, o, ho, _⟩ := I.stack.mem z
    exact ne b o ho rfl
  · obtain ⟨m, ⟨o, _, _, ho, _⟩, _⟩ := I.loc
    exact ne _ o ho z.symm
  · obtain ⟨v, o, ho, _⟩ := I.cell x c q
    exact ne c o ho z
  · exact ne _ _ (I.pin p hp).1 z

/-- the heap but the exception, its traceback, the frames -/
abbrev bareX (X : Cx) (h : Heap) (a : Addr) (T : Option Addr) : Heap := PySem.W.hideAll h ((a :: T.toList) ++ frs X.stack)
theorem Fly.frames (F : Fly X pins σ H s a C T) : s.heap.FunFrames (bareX X s.heap a T) X.stack :=
  PySem.W.funFrames_hide F.inv.stack fun env he b hb => List.mem_append_right _ (List.mem_filterMap.mpr ⟨env, he, hb⟩)
theorem Fly.bareStays (F : Fly X pins σ H s a C T) : (bareX X s.heap a T).StaysIn s.heap := fun b o e => PySem.W.of_hideAll _ e
theorem Fly.bareNone (F : Fly X pins σ H s a C T) : (bareX X s.heap a T).get? a = none := PySem.W.hideAll_none _ (by simp)
/-- behind a step of the exception in this frame -/
theorem Fly.on (F : Fly X pins σ H s a C T) (f : Full X) (st : (bareX X s.heap a T).StaysIn h') (ff : h'.FunFrames (bareX X s.heap a T) X.stack) (tr : h'.Traced (bareX X s.heap a T) a (.ref C)) (sl : s.heap.UpToSlots h') :
    ∃ t', Fly X pins σ H { s with heap := h' } a C (some t') := by
  have I := F.inv
  have hch : ∀ b ∈ a :: T.toList, Nw X pins H b := fun b hb => by
    rcases List.mem_cons.mp hb with rfl | hb
    · exact F.na
    · exact F.nt b (by simpa using hb)
  have I' : Inv X pins σ H { s with heap := h' } := I.news hch st sl s.toks
  obtain ⟨oe, vs, t', oT, ts, he, hcl, hd, h1, hn, hne, hT, hdT, h3⟩ := tr
  refine ⟨t', I', ⟨oe, vs, he, hcl, hd, h1, hne, oT, ts, hT, hdT, h3⟩, F.na, fun t e => ?_⟩
  cases e
  cases q : s.heap.get? t' with
  | none => exact I.nw f q
  | some o =>
    by_cases hm : t' ∈ (a :: T.toList) ++ frs X.stack
    · rcases List.mem_append.mp hm with z | z
      · exact hch t' z
      · obtain ⟨_, o', ho', hnf⟩ := ff.mem z
        rw [hT] at ho'; cases ho'
        exact absurd hdT (hnf ts)
    · have := PySem.W.hideAll_get _ q hm
      rw [hn] at this
      cases this

theorem Fly.leave (F : Fly X pins σ H s a C T) (f : Full X) {M : Model} {Q : Unit → Shared → Prop} {E : Value → Shared → Prop} (k : ∀ s' t, Fly X pins σ H s' a C (some t) → Q () s') : wpAny M X.A (leaving X.env (.ref a)) Q E s := by
  have hfr : X.A.frames = some (X.env :: X.outer) := by rw [← f.stk]; exact F.inv.ok.frames
  have hl : s.heap.FunFrames (bareX X s.heap a T) (X.env :: X.outer) := by rw [← f.stk]; exact F.frames
  obtain ⟨oe, vs, he, hcl, hd, h1⟩ := F.xrec
  cases T with
  | none =>
    refine wpAny_leaving_first hfr hl f.fr he F.bareStays F.bareNone hd h1 fun h' ⟨k1, k2, k3, k4⟩ => ?_
    rw [hcl] at k3
    obtain ⟨t', F'⟩ := F.on f k1 (by rw [f.stk]; exact k2) k3 k4
    exact k _ t' F'
  | some t =>
    obtain ⟨h1, hne, oT, ts, hT, hdT, h3⟩ := h1
    refine wpAny_leaving_next hfr hl f.fr (cls := .ref C) ⟨oe, vs, t, oT, ts, he, hcl, hd, h1, PySem.W.hideAll_none _ (by simp), hne, hT, hdT, h3⟩ F.bareStays F.bareNone fun h' ⟨k1, k2, k3, k4⟩ => ?_
    obtain ⟨t', F'⟩ := F.on f k1 (by rw [f.stk]; exact k2) k3 k4
    exact k _ t' F'

end

/-! ### how an exception lies behind a call -/
def CXx (P : Program) (w : World) : CXT := fun outer H s E e s' => ∃ (a C t : Addr) (H' : Hp), e = .ref a ∧ s'.os = s.os ∧ AllBare s'.gens ∧ Un (frs outer) [] H H' s.heap s'.heap ∧ HOk P w H' s'.heap ∧
  XRec s'.heap a C (some t) ∧ s.heap.get? a = none ∧ s.heap.get? t = none ∧ H' a = none ∧ H' t = none ∧ E (.ref C) none H'
section
variable {X : Cx} {pins : List (Addr × Obj)} {σ : St} {H : Hp} {s s' : Shared} {a C : Addr} {E : XK} {e : Value}
/-- it leaves the frame -/
theorem Fly.out {T : Option Addr} (F : Fly X pins σ H s a C T) (f : Full X) {M : Model} {E' : Value → Shared → Prop} (q : E (.ref C) none H) :
    wpAny M X.A (leaving X.env (.ref a)) (fun _ s' => CXx X.prog X.w X.outer X.H₀ X.s₀ E (.ref a) s') E' s :=
  F.leave f fun s' t F' => ⟨a, C, t, H, rfl, F'.inv.os, F'.inv.bare, by have := F'.inv.base; rw [f.ex] at this; exact this, F'.inv.hok, F'.xrec, F'.na.1, (F'.nt t rfl).1, F'.na.2.1, (F'.nt t rfl).2.1, q⟩
end
section
variable {P : Program} {w : World} {K : PySem.W.Frag} {mg : Str → Option Value} {base : Heap} {N : List Str} {qual : Str} {scope : Scope} {f : Addr} {cd : Value} {A : Around} {outer : List Env} {s : Shared} {H : Hp} {E E' : XK}
end
end L2

namespace L2
open PySem PySem.Spec PyProof.Rows

/-! ### raise C(text) -/
section
variable {X : Cx}
end
end L2

namespace L2
open PySem PySem.Spec PyProof.Rows

/-- what the class behind except must have -/
structure XSup (K : PySem.W.Frag) (S : Addr) : Prop where
  ty : PySem.W.typeIn K (.ref S) = some (.type "type")
  bx : PySem.W.mroIn K S (.type "BaseException") = some true
  is : (PySem.W.clsIn K S).isSome = true
section
variable {X : Cx} {pins : List (Addr × Obj)} {σ : St} {H : Hp} {s : Shared} {a C t : Addr} {h' : Heap}
/-- the exception and its traceback are pinned -/
theorem Fly.pin (F : Fly X pins σ H s a C (some t)) : ∃ oe oT : Obj, Inv X (pins ++ [(a, oe), (t, oT)]) σ H s ∧ oe.cls = .ref C ∧
    ∀ (X' : Cx) (s' : Shared), Inv X' (pins ++ [(a, oe), (t, oT)]) σ H s' → Inv X pins σ H s' → s'.heap.get? a = some oe ∧ Fly X pins σ H s' a C (some t) := by
  obtain ⟨oe, vs, he, hcl, hd, h1, hne, oT, ts, hT, hdT, h3⟩ := F.xrec
  have ff : ∀ b ∈ frs X.stack, ∀ o vs, s.heap.get? b = some o → o.data = .fields vs → False := fun b hb o vs e q => by
    obtain ⟨_, o', ho', hnf⟩ := F.inv.stack.mem hb
    rw [e] at ho'; cases ho'
    exact hnf vs q
  have fs : ∀ b ∈ X.fs, b ∈ frs X.stack ∨ True := fun _ _ => .inr trivial
  have nfs : ∀ b o vs, s.heap.get? b = some o → o.data = .fields vs → b ∉ X.fs := fun b o vs e q hb => by
    obtain ⟨_, o', ho', hnf⟩ := F.inv.funs.mem hb
    rw [e] at ho'; cases ho'
    exact hnf vs q
  refine ⟨oe, oT, F.inv.pins_of fun p hp => ?_, hcl, fun X' s' I' I => ?_⟩
  · rcases List.mem_append.mp hp with z | z
    · exact F.inv.pin p (List.mem_append_right _ z)
    · rcases List.mem_cons.mp z with rfl | z
      · exact ⟨he, F.na.2.1, F.na.2.2.2.1, nfs _ _ _ he hd, fun v q => by rw [hd] at q; cases q⟩
      · rcases List.mem_cons.mp z with rfl | z
        · exact ⟨hT, (F.nt t rfl).2.1, (F.nt t rfl).2.2.2.1, nfs _ _ _ hT hdT, fun v q => by rw [hdT] at q; cases q⟩
        · exact nomatch z
  · have e1 := (I'.pin (a, oe) (List.mem_append_right _ (List.mem_append_right _ (.head _)))).1
    have e2 := (I'.pin (t, oT) (List.mem_append_right _ (List.mem_append_right _ (.tail _ (.head _))))).1
    exact ⟨e1, I, ⟨oe, vs, e1, hcl, hd, h1, hne, oT, ts, e2, hdT, h3⟩, F.na, F.nt⟩
end

/-! ### try .. except C as n -/
/-- the suite behind except -/
abbrev Cx.hnd (X : Cx) (e : Value) : Cx := { X with A := X.A.mark (some e), calm := false, xe := fun _ _ => False }
section
variable {X : Cx} {pins p2 : List (Addr × Obj)} {σ : St} {H : Hp} {s : Shared} {E : Value → Shared → Prop} {e : Value}
theorem Inv.hnd (I : Inv X pins σ H s) : Inv (X.hnd e) pins σ H s :=
  have ok := I.ok
  ⟨⟨ok.mod, ok.kind, ok.glob, ok.blt, ok.above, ok.inj, ok.has, ok.cab, fun z => Bool.noConfusion z, ok.frames, ok.stk, ok.exf, ok.bs, ok.bsz, ok.noex, ok.exfs, ok.funs, ok.frf⟩, I.os, I.bare, I.base, I.loc, I.cell, I.free, I.freeC, I.pin, I.hok, I.len⟩
end
end L2

namespace L2
open PySem PySem.Spec PyProof.Rows
section
variable {X : Cx}
/-! ### x is not True, for None and bools -/
end
end L2

namespace L2
open PySem PySem.Spec PyProof.Rows
/-! ### t > u, tuples whose items are compared one by one -/
inductive LexE (A : Around) (s : Shared) (fin : Bool) : List (Value × Value) → Bool → Prop
  | nil : LexE A s fin [] fin
  | eq {p q : Value} {r : List (Value × Value)} {b : Bool} : SeqAt.EqAt A s p q true → LexE A s fin r b → LexE A s fin ((p, q) :: r) b
  | ne {p q : Value} {r : List (Value × Value)} {b : Bool} : SeqAt.EqAt A s p q false → (∀ (prog : Program) (w : World) (E : Value → Shared → Prop) (Q : Value → Shared → Prop), Q (.bool b) s → wpAny (model prog w) A (richCompare .LtE p q) Q E s) → LexE A s fin ((p, q) :: r) b
section
open PySem.SeqAt
open PySem.AutoSeq1 (wpAny_loadPart')
open PySem.MeetsSeq PySem.MeetsSeq2 PySem.MeetsSeq3
end
end L2

namespace L2
open PySem PySem.Spec PyProof.Rows
/-! ### min, max of a tuple of ints -/
section
variable {X : Cx} {pins : List (Addr × Obj)} {σ : St} {H0 : Hp} {a I S : Addr} {xs : List V} {KV : Nat → V → Prop} {bt : Nat → Nat → Bool} {key : Value} {kw : List (Str × Value)} {R : Result → Shared → Prop}
end
section
variable {X : Cx} {pins : List (Addr × Obj)} {σ : St} {H : Hp} {s : Shared} {a : Addr} {xs : List V} {KV : Nat → V → Prop} {bt : Nat → Nat → Bool} {Q : VK}
end
section
variable {X : Cx} {K : PySem.W.Frag}
end
end L2

namespace L2
open PySem PySem.Spec PyProof.Rows
/-! ### the general sort: by a comparison that only answers -/
section
variable {prog : Program} {w : World} {A : Around} {E : Value → Shared → Prop} {s : Shared} {κ : SortKind} {LT : Keyed → Keyed → Bool} {S : Keyed → Prop}
end
end L2

namespace L2
open PySem PySem.Spec PyProof.Rows
section
variable {prog : Program} {w : World} {A : Around} {E : Value → Shared → Prop} {s : Shared} {κ : SortKind} {LT : Keyed → Keyed → Bool} {S : Keyed → Prop}
end
end L2

namespace L2
open PySem PySem.Spec PyProof.Rows
/-! ### two runs, merged -/
/-- LT orders what S has: le x y is LT y x = false -/
structure Ord {α : Type} (S : α → Prop) (LT : α → α → Bool) : Prop where
  asym : ∀ x y, S x → S y → LT x y = true → LT y x = false
  trans : ∀ x y z, S x → S y → S z → LT y x = false → LT z y = false → LT z x = false
abbrev leO {α : Type} (LT : α → α → Bool) (x y : α) : Prop := LT y x = false
/-- what is laid out, what is left of the two runs, all of it -/
structure MI {α : Type} (S : α → Prop) (LT : α → α → Bool) (T out ra rb : List α) : Prop where
  perm : (out ++ (ra ++ rb)).Perm T
  so : out.Pairwise (leO LT)
  sa : ra.Pairwise (leO LT)
  sb : rb.Pairwise (leO LT)
  below : ∀ x ∈ out, ∀ y ∈ ra ++ rb, leO LT x y
  all : ∀ x ∈ T, S x
section
variable {α : Type} {S : α → Prop} {LT : α → α → Bool} {T out ra rb ra' rb' : List α} {x y : α}
end
end L2

namespace L2
open PySem PySem.Spec PyProof.Rows
/-! ### the merge from below -/
theorem mem_at {α : Type} {a : Array α} {i : Nat} {x : α} (e : a[i]? = some x) : x ∈ a.toList := by
  obtain ⟨h, e⟩ := Array.getElem?_eq_some_iff.mp e
  rw [← e]; simp
structure Lo (S : Keyed → Prop) (LT : Keyed → Keyed → Bool) (a b out : Array Keyed) (ia ib : Nat) : Prop where
  mi : MI S LT (a.toList ++ b.toList) out.toList (a.toList.drop ia) (b.toList.drop ib)
  sz : out.size = ia + ib
  ha : ia ≤ a.size
  hb : ib ≤ b.size
section
variable {S : Keyed → Prop} {LT : Keyed → Keyed → Bool} {a b out : Array Keyed} {ia ib k : Nat} {x y : Keyed}
end
/-- but for minGallop the same -/
structure Sg (st st' : SortSt) : Prop where
  kind : kindOf st' = kindOf st
  arr : arrOf st' = arrOf st
  pend : pendingOf st' = pendingOf st
  failed : failedOf st' = failedOf st
theorem Sg.refl (st : SortSt) : Sg st st := ⟨rfl, rfl, rfl, rfl⟩
theorem Sg.set {st st' : SortSt} (h : Sg st st') (g : Nat) : Sg st (SortSt.mk' (kindOf st') (arrOf st') (pendingOf st') g (failedOf st')) := ⟨h.kind, h.arr, h.pend, h.failed⟩
section
variable {prog : Program} {w : World} {A : Around} {E : Value → Shared → Prop} {s : Shared} {κ : SortKind} {LT : Keyed → Keyed → Bool} {S : Keyed → Prop}
end
end L2

namespace L2
open PySem PySem.Spec PyProof.Rows
/-! ### the merge from above -/
structure Hi (S : Keyed → Prop) (LT : Keyed → Keyed → Bool) (a b : Array Keyed) (na nb : Nat) (out : Array Keyed) : Prop where
  mi : MI S (fun x y => LT y x) (a.toList ++ b.toList) out.toList (b.toList.take nb).reverse (a.toList.take na).reverse
  sz : out.size + na + nb = a.size + b.size
  ha : na ≤ a.size
  hb : nb ≤ b.size
section
variable {S : Keyed → Prop} {LT : Keyed → Keyed → Bool} {a b out : Array Keyed} {na nb k : Nat} {x y : Keyed}
end
section
variable {prog : Program} {w : World} {A : Around} {E : Value → Shared → Prop} {s : Shared} {κ : SortKind} {LT : Keyed → Keyed → Bool} {S : Keyed → Prop}
end
end L2

namespace L2
open PySem PySem.Spec PyProof.Rows
/-! ### two runs side by side, merged in their place -/
def SR (LT : Keyed → Keyed → Bool) (arr : Array Keyed) (lo hi : Nat) : Prop := ∀ i j x y, lo ≤ i → i < j → j < hi → arr[i]? = some x → arr[j]? = some y → leO LT x y
structure Mid (LT : Keyed → Keyed → Bool) (arr arr' : Array Keyed) (lo hi : Nat) : Prop where
  perm : arr'.toList.Perm arr.toList
  out : ∀ i, i < lo ∨ hi ≤ i → arr'[i]? = arr[i]?
  so : SR LT arr' lo hi
theorem ext_at {α : Type} {arr : Array α} {p q i : Nat} {x : α} (h : (arr.extract p q)[i]? = some x) : arr[p + i]? = some x ∧ p + i < q := by
  obtain ⟨h1, e⟩ := Array.getElem?_eq_some_iff.mp h
  rw [Array.size_extract] at h1
  rw [Array.getElem_extract] at e
  exact ⟨by rw [← e]; exact Array.getElem?_eq_getElem _, by omega⟩
theorem SR.pw {LT : Keyed → Keyed → Bool} {arr : Array Keyed} {lo hi p q : Nat} (h : SR LT arr lo hi) (h1 : lo ≤ p) (h2 : q ≤ hi) : (arr.extract p q).toList.Pairwise (leO LT) := by
  rw [List.pairwise_iff_getElem]
  intro i j hi hj hij
  have e1 : (arr.extract p q)[i]? = some (arr.extract p q).toList[i] := by rw [← Array.getElem?_toList]; exact List.getElem?_eq_getElem hi
  have e2 : (arr.extract p q)[j]? = some (arr.extract p q).toList[j] := by rw [← Array.getElem?_toList]; exact List.getElem?_eq_getElem hj
  obtain ⟨g1, g2⟩ := ext_at e1
  obtain ⟨g3, g4⟩ := ext_at e2
  exact h _ _ _ _ (by omega) (show p + i < p + j by omega) (by omega) g1 g3
section
variable {S : Keyed → Prop} {LT : Keyed → Keyed → Bool}
end
section
variable {prog : Program} {w : World} {A : Around} {E : Value → Shared → Prop} {s : Shared} {κ : SortKind} {LT : Keyed → Keyed → Bool} {S : Keyed → Prop}
end
end L2

namespace L2
open PySem PySem.Spec PyProof.Rows
/-! ### a run, counted and put in order from any place -/
structure Rn (a0 a : Array Keyed) (lo hi : Nat) : Prop where
  perm : a.toList.Perm a0.toList
  out : ∀ i, i < lo ∨ hi ≤ i → a[i]? = a0[i]?
theorem Rn.refl (a : Array Keyed) (lo hi : Nat) : Rn a a lo hi := ⟨.refl _, fun _ _ => rfl⟩
theorem Rn.size {a0 a : Array Keyed} {lo hi : Nat} (h : Rn a0 a lo hi) : a.size = a0.size := by have := h.perm.length_eq; simpa using this
theorem Rn.all {a0 a : Array Keyed} {lo hi : Nat} {S : Keyed → Prop} (h : Rn a0 a lo hi) (hall : ∀ (j : Nat) (x : Keyed), a0[j]? = some x → S x) : ∀ (j : Nat) (x : Keyed), a[j]? = some x → S x := fun j x e => by
  have := h.perm.mem_iff.mp (mem_at e)
  rw [Array.mem_toList_iff] at this
  obtain ⟨i, hi, e⟩ := Array.getElem_of_mem this
  exact hall i x (by rw [Array.getElem?_eq_getElem hi, e])
theorem Rn.mirror {a0 a : Array Keyed} {lo hi i j : Nat} (h : Rn a0 a lo hi) (h1 : lo ≤ i) (h2 : j ≤ hi) (h3 : j ≤ a.size) : Rn a0 (mirror a i j ((j - i) / 2)) lo hi := by
  refine ⟨(Array.perm_iff_toList_perm.mp (mirror_perm _ _ _ _)).trans h.perm, fun k hk => ?_⟩
  rw [getElem?_mirror_all h3, if_neg (by omega)]
  exact h.out k hk
/-- in order from above -/
def ND (LT : Keyed → Keyed → Bool) (arr : Array Keyed) (lo hi : Nat) : Prop := ∀ i j x y, lo ≤ i → i < j → j < hi → arr[i]? = some x → arr[j]? = some y → leO LT y x
/-- all alike -/
def AL (LT : Keyed → Keyed → Bool) (arr : Array Keyed) (lo hi : Nat) : Prop := ∀ i j x y, lo ≤ i → i < hi → lo ≤ j → j < hi → arr[i]? = some x → arr[j]? = some y → leO LT x y
section
variable {S : Keyed → Prop} {LT : Keyed → Keyed → Bool} {arr : Array Keyed} {lo hi n m : Nat}
theorem Ord.irr (o : Ord S LT) {x : Keyed} (hx : S x) : LT x x = false := by
  cases e : LT x x with
  | false => rfl
  | true => rw [o.asym x x hx hx e] at e; cases e
theorem SR.one : SR LT arr lo (lo + 1) := fun i j x y h1 h2 h3 => by omega
theorem SR.grow (o : Ord S LT) (hall : ∀ (j : Nat) (x : Keyed), arr[j]? = some x → S x) {x y : Keyed} (h : SR LT arr lo (lo + n)) (h1 : 1 ≤ n) (ex : arr[lo + n]? = some x) (ey : arr[lo + n - 1]? = some y) (e : LT x y = false) : SR LT arr lo (lo + n + 1) := by
  intro i j u v hi hij hj eu ev
  by_cases c : j < lo + n
  · exact h i j u v hi hij c eu ev
  · have : j = lo + n := by omega
    subst this
    rw [ex] at ev; cases ev
    by_cases c2 : i = lo + n - 1
    · subst c2
      rw [ey] at eu; cases eu
      exact e
    · exact o.trans u y x (hall _ _ eu) (hall _ _ ey) (hall _ _ ex) (h i (lo + n - 1) u y hi (by omega) (by omega) eu ey) e
theorem ND.grow (o : Ord S LT) (hall : ∀ (j : Nat) (x : Keyed), arr[j]? = some x → S x) {x y : Keyed} (h : ND LT arr lo (lo + n)) (h1 : 1 ≤ n) (ex : arr[lo + n]? = some x) (ey : arr[lo + n - 1]? = some y) (e : LT y x = false) : ND LT arr lo (lo + n + 1) := by
  intro i j u v hi hij hj eu ev
  by_cases c : j < lo + n
  · exact h i j u v hi hij c eu ev
  · have : j = lo + n := by omega
    subst this
    rw [ex] at ev; cases ev
    by_cases c2 : i = lo + n - 1
    · subst c2
      rw [ey] at eu; cases eu
      exact e
    · exact o.trans x y u (hall _ _ ex) (hall _ _ ey) (hall _ _ eu) e (h i (lo + n - 1) u y hi (by omega) (by omega) eu ey)
theorem ND.turn (h : ND LT arr lo hi) (hz : hi ≤ arr.size) : SR LT (PyProof.Rows.mirror arr lo hi ((hi - lo) / 2)) lo hi := by
  intro i j x y h1 h2 h3 ex ey
  rw [getElem?_mirror_all hz, if_pos (by omega)] at ex ey
  exact h (lo + hi - 1 - j) (lo + hi - 1 - i) y x (by omega) (by omega) (by omega) ey ex
theorem ND.alike (h : ND LT arr lo hi) (ha : AL LT arr n hi) (hn : lo ≤ n) (hz : hi ≤ arr.size) : ND LT (PyProof.Rows.mirror arr n hi ((hi - n) / 2)) lo hi := by
  intro i j x y h1 h2 h3 ex ey
  rw [getElem?_mirror_all hz] at ex ey
  by_cases ci : n ≤ i ∧ i < hi
  · rw [if_pos ci] at ex
    rw [if_pos (by omega)] at ey
    exact ha _ _ y x (by omega) (by omega) (by omega) (by omega) ey ex
  · rw [if_neg ci] at ex
    by_cases cj : n ≤ j ∧ j < hi
    · rw [if_pos cj] at ey
      exact h i _ x y h1 (by omega) (by omega) ex ey
    · rw [if_neg cj] at ey
      exact h i j x y h1 h2 h3 ex ey
theorem AL.one (o : Ord S LT) (hall : ∀ (j : Nat) (x : Keyed), arr[j]? = some x → S x) : AL LT arr n (n + 1) := fun i j x y h1 h2 h3 h4 ex ey => by
  have : i = j := by omega
  subst this
  rw [ex] at ey; cases ey
  exact o.irr (hall _ _ ex)
theorem AL.grow (o : Ord S LT) (hall : ∀ (j : Nat) (x : Keyed), arr[j]? = some x → S x) {x y : Keyed} (h : AL LT arr n hi) (h1 : n < hi) (ex : arr[hi]? = some x) (ey : arr[hi - 1]? = some y) (e1 : LT x y = false) (e2 : LT y x = false) : AL LT arr n (hi + 1) := by
  intro i j u v i1 i2 j1 j2 eu ev
  by_cases ci : i < hi
  · by_cases cj : j < hi
    · exact h i j u v i1 ci j1 cj eu ev
    · have : j = hi := by omega
      subst this
      rw [ex] at ev; cases ev
      exact o.trans u y x (hall _ _ eu) (hall _ _ ey) (hall _ _ ex) (h i (j - 1) u y i1 ci (by omega) (by omega) eu ey) e1
  · have : i = hi := by omega
    subst this
    rw [ex] at eu; cases eu
    by_cases cj : j < i
    · exact o.trans x y v (hall _ _ ex) (hall _ _ ey) (hall _ _ ev) e2 (h (i - 1) j y v (by omega) (by omega) j1 cj ey ev)
    · have : j = i := by omega
      subst this
      rw [ex] at ev; cases ev
      exact o.irr (hall _ _ ex)
end
section
variable {prog : Program} {w : World} {A : Around} {E : Value → Shared → Prop} {s : Shared} {κ : SortKind} {LT : Keyed → Keyed → Bool} {S : Keyed → Prop}
end
end L2

namespace L2
open PySem PySem.Spec PyProof.Rows
section
variable {prog : Program} {w : World} {A : Around} {E : Value → Shared → Prop} {s : Shared} {κ : SortKind} {LT : Keyed → Keyed → Bool} {S : Keyed → Prop}
end
/-! ### the runs that wait -/
abbrev Run3 : Type := Nat × Nat × Nat
def Runs (LT : Keyed → Keyed → Bool) (arr : Array Keyed) : List Run3 → Nat → Nat → Prop
  | [], lo, hi => lo = hi
  | (s, n, _) :: r, lo, hi => s = lo ∧ 1 ≤ n ∧ SR LT arr lo (lo + n) ∧ Runs LT arr r (lo + n) hi
section
variable {LT : Keyed → Keyed → Bool} {arr arr' : Array Keyed}
theorem Runs.le : ∀ {l : List Run3} {lo hi : Nat}, Runs LT arr l lo hi → lo + l.length ≤ hi
  | [], lo, hi, h => by have : lo = hi := h; simp [this]
  | (s, n, p) :: r, lo, hi, h => by have := Runs.le h.2.2.2; have := h.2.1; rw [List.length_cons]; omega
theorem SR.keep {lo hi : Nat} (h : SR LT arr lo hi) (e : ∀ i, lo ≤ i → i < hi → arr'[i]? = arr[i]?) : SR LT arr' lo hi := fun i j x y h1 h2 h3 ex ey => h i j x y h1 h2 h3 (by rw [← e i h1 (by omega)]; exact ex) (by rw [← e j (by omega) h3]; exact ey)
theorem Runs.keep : ∀ {l : List Run3} {lo hi : Nat}, Runs LT arr l lo hi → (∀ i, lo ≤ i → i < hi → arr'[i]? = arr[i]?) → Runs LT arr' l lo hi
  | [], lo, hi, h, _ => h
  | (s, n, p) :: r, lo, hi, h, e => by
    have := h.2.2.2.le
    exact ⟨h.1, h.2.1, h.2.2.1.keep fun i h1 h2 => e i h1 (by omega), h.2.2.2.keep fun i h1 h2 => e i (by omega) h2⟩
theorem Runs.append : ∀ {l m : List Run3} {lo mid hi : Nat}, Runs LT arr l lo mid → Runs LT arr m mid hi → Runs LT arr (l ++ m) lo hi
  | [], m, lo, mid, hi, h, h' => by have : lo = mid := h; subst this; exact h'
  | (s, n, p) :: r, m, lo, mid, hi, h, h' => ⟨h.1, h.2.1, h.2.2.1, h.2.2.2.append h'⟩
theorem Runs.split : ∀ {l m : List Run3} {lo hi : Nat}, Runs LT arr (l ++ m) lo hi → ∃ mid, Runs LT arr l lo mid ∧ Runs LT arr m mid hi
  | [], m, lo, hi, h => ⟨lo, rfl, h⟩
  | (s, n, p) :: r, m, lo, hi, h => by
    obtain ⟨mid, h1, h2⟩ := Runs.split (l := r) (m := m) h.2.2.2
    exact ⟨mid, ⟨h.1, h.2.1, h.2.2.1, h1⟩, h2⟩
theorem Runs.congr : ∀ {l m : List Run3} {lo hi : Nat}, l.map (fun p => (p.1, p.2.1)) = m.map (fun p => (p.1, p.2.1)) → Runs LT arr l lo hi → Runs LT arr m lo hi
  | [], [], _, _, _, h => h
  | [], _ :: _, _, _, e, _ => by simp at e
  | _ :: _, [], _, _, e, _ => by simp at e
  | (s, n, p) :: r, (s', n', p') :: r', lo, hi, e, h => by
    simp only [List.map_cons, List.cons.injEq, Prod.mk.injEq] at e
    obtain ⟨⟨rfl, rfl⟩, e⟩ := e
    exact ⟨h.1, h.2.1, h.2.2.1, Runs.congr e h.2.2.2⟩
end
end L2

namespace L2
open PySem PySem.Spec PyProof.Rows
section
variable {prog : Program} {w : World} {A : Around} {E : Value → Shared → Prop} {s : Shared} {κ : SortKind} {LT : Keyed → Keyed → Bool} {S : Keyed → Prop} {a0 : Array Keyed}
/-- the sort under way: a rearrangement, nothing failed, the runs up to lo -/
structure Sw (κ : SortKind) (LT : Keyed → Keyed → Bool) (a0 : Array Keyed) (lo : Nat) (st : SortSt) : Prop where
  perm : (arrOf st).toList.Perm a0.toList
  kind : kindOf st = κ
  failed : failedOf st = none
  runs : Runs LT (arrOf st) (pendingOf st).toList 0 lo
theorem Sw.size {lo : Nat} {st : SortSt} (h : Sw κ LT a0 lo st) : (arrOf st).size = a0.size := by have := h.perm.length_eq; simpa using this
theorem Sw.all {lo : Nat} {st : SortSt} (h : Sw κ LT a0 lo st) (hall : ∀ (j : Nat) (x : Keyed), a0[j]? = some x → S x) : ∀ (j : Nat) (x : Keyed), (arrOf st)[j]? = some x → S x := Rn.all (lo := 0) (hi := a0.size) ⟨h.perm, fun i hi => by
  have := h.size
  rw [Array.getElem?_eq_none (by omega), Array.getElem?_eq_none (by omega)]⟩ hall
theorem mod_last {p : Array Run3} {pw : Nat} : (p.modify (p.size - 1) fun (st, len, _) => (st, len, pw)).toList.map (fun p => (p.1, p.2.1)) = p.toList.map (fun p => (p.1, p.2.1)) := by
  apply List.ext_getElem?
  intro j
  rw [List.getElem?_map, List.getElem?_map, Array.getElem?_toList, Array.getElem?_toList, Array.getElem?_modify]
  split
  · cases p[j]? <;> rfl
  · rfl
theorem Sw.push {lo n : Nat} {st : SortSt} (sw : Sw κ LT a0 lo st) (sr : SR LT (arrOf st) lo (lo + n)) (hn : 1 ≤ n) : Sw κ LT a0 (lo + n) (setPending st ((pendingOf st).push (lo, n, 0))) := by
  refine ⟨sw.perm, sw.kind, sw.failed, ?_⟩
  show Runs LT (arrOf st) ((pendingOf st).push (lo, n, 0)).toList 0 (lo + n)
  rw [Array.toList_push]
  exact sw.runs.append ⟨rfl, hn, sr, rfl⟩
theorem Sw.mod {lo : Nat} {st : SortSt} (sw : Sw κ LT a0 lo st) (pw : Nat) : Sw κ LT a0 lo (setPending st ((pendingOf st).modify ((pendingOf st).size - 1) fun x => (x.1, x.2.1, pw))) :=
  ⟨sw.perm, sw.kind, sw.failed, Runs.congr mod_last.symm sw.runs⟩
end
end L2

namespace L2
open PySem PySem.Spec PyProof.Rows
/-! ### sorted, of any length -/
theorem Paired.perm {α β : Type} {F : α → β → Prop} {m m' : List β} (p : m'.Perm m) : ∀ {l : List α}, Paired F l m → ∃ l', Paired F l' m' ∧ l'.Perm l := by
  induction p with
  | nil => intro l h; exact ⟨l, h, .refl _⟩
  | cons x p ih =>
    intro l h
    cases h with
    | cons r t =>
      obtain ⟨l', h1, h2⟩ := ih t
      exact ⟨_ :: l', .cons r h1, h2.cons _⟩
  | swap x y l =>
    intro l h
    cases h with
    | cons r t =>
      cases t with
      | cons r' t' => exact ⟨_, .cons r' (.cons r t'), .swap ..⟩
  | trans p q ih1 ih2 =>
    intro l h
    obtain ⟨l1, h1, h2⟩ := ih2 h
    obtain ⟨l2, h3, h4⟩ := ih1 h1
    exact ⟨l2, h3, h4.trans h2⟩
section
variable {prog : Program} {w : World} {A : Around} {E : Value → Shared → Prop} {s : Shared} {κ : SortKind}
end
section
variable {prog : Program} {w : World} {A : Around} {E : Value → Shared → Prop} {s : Shared} {a : Addr} {vs : List Value} {LT : Value → Value → Bool}
end
end L2

namespace L2
open PySem PySem.Spec PyProof.Rows
/-- how a kind of values is coded for the sort -/
structure SCode (X : Cx) (VC : Hp → V → List Int → Prop) (HC : Heap → Value → List Int → Prop) : Prop where
  down : ∀ {pins : List (Addr × Obj)} {σ : St} {H : Hp} {s : Shared} {v : V} {u : Value} {c : List Int}, Inv X pins σ H s → VC H v c → RelV v u → HC s.heap u c
  uniq : ∀ {h : Heap} {u : Value} {c c' : List Int}, HC h u c → HC h u c' → c = c'
  keep : ∀ {h h' : Heap} {u : Value} {c : List Int}, (∀ b o, h.get? b = some o → h'.get? b = some o) → HC h u c → HC h' u c
  asks : ∀ {s : Shared} {vs : List Value}, (∀ v ∈ vs, ∃ c, HC s.heap v c) → 2 ≤ vs.length → ∃ κ : SortKind, (∀ Q : SortKind → Shared → Prop, Q κ s → wpAny (model X.prog X.w) X.A.in1.in1 (keyKind' vs.toArray) Q (fun _ _ => False) s) ∧
    ∀ u v c c' (C : Bool → Shared → Prop), HC s.heap u c → HC s.heap v c' → C (HT.lexLt c c') s → wpAny (model X.prog X.w) X.A.in1.in1 (keyLt' κ u v) C (fun _ _ => False) s
/-! ints -/
/-! pairs of ints -/
/-! (n, (a, b)) -/
end L2

namespace L2
open PySem PySem.Spec PyProof.Rows
theorem SCode.of {X : Cx} {VC VC' : Hp → V → List Int → Prop} {HC : Heap → Value → List Int → Prop} (sc : SCode X VC HC) (h : ∀ H v c, VC' H v c → VC H v c) : SCode X VC' HC :=
  ⟨fun I c r => sc.down I (h _ _ _ c) r, sc.uniq, sc.keep, sc.asks⟩
/-! ### isinstance of an exception, or of None -/
end L2

namespace L2
open PySem PySem.Spec PyProof.Rows
/-! ### for k in d: the keys of a dict that is not written any more -/
/-! ### list(range(n)) -/
end L2

namespace L2
open PySem PySem.Spec PyProof.Rows
/-! ### a lambda: its function, its code, the table of the def that makes it -/
def LamO (f : Addr) (fd : FuncData) : HO := .ext fun h => ∃ o, h.get? f = some o ∧ o.data = .func fd
def CodeO (c : Addr) (qual : Str) : HO := .ext fun h => h.CodeRec (.ref c) qual
theorem lamO_at {X : Cx} {pins : List (Addr × Obj)} {σ : St} {H : Hp} {s : Shared} {f : Addr} {fd : FuncData} (I : Inv X pins σ H s) (h : H f = some (LamO f fd)) : ∃ o, s.heap.get? f = some o ∧ o.data = .func fd :=
  (show ObjOk X.prog X.w H s.heap f (LamO f fd) from I.hok f _ h).1
/-- THE RULE for a lambda that keeps no name: its body as a term of rules, and the reading -/
theorem lam_of {P : Program} {w : World} {K : PySem.W.Frag} {mg : Str → Option Value} {base : Heap} {k : Nat} {f c : Addr} {name qual : Str} {params : Arguments} {body : Expr} {scope : Scope} {pm ct : Value} {N ps : List Str} {sp : Sp} (S : FnScope N ps scope)
    (len : ∀ vs H Q E, sp vs H Q E → vs.length = ps.length) (hH : ∀ vs H Q E, sp vs H Q E → H f = some (LamO f (PySem.W.kla_fn name qual params body scope [] pm (.ref c) ct)) ∧ H c = some (CodeO c qual))
    (hbody : ∀ (A : Around) (outer : List Env) (s : Shared) (H : Hp) (vs : List V) (Q : VK) (E : XK), Room k (A.deeper (envOfC qual scope s.heap.objs.size f (.ref c))) → sp vs H Q E →
      ∃ t, PE (cxOf CX0 P w K mg base N qual scope f (.ref c) A outer s H E) body t ∧ t (start N vs) H Q) :
    FnOk P w K mg base CX0 (k + 1) f (PySem.W.kla_fn name qual params body scope [] pm (.ref c) ct) ps sp := by
  refine ⟨len, fun A outer s H args us vs Q E hr e0 hb r hsp => ?_⟩
  have hl := len _ _ _ _ hsp
  obtain ⟨hf, hc⟩ := hH _ _ _ _ hsp
  have lim : s.heap.NoLimit := e0.mod.nolimit.keeps fun b o e => (e0.bs b o e).1
  have hkind : ∀ y ∈ ps.zip us, scope.names.lookup y.1 = some .local ∨ (scope.names.lookup y.1 = some .cell ∧ ((cellsFrom (s.heap.objs.size + 1) scope.names []).lookup y.1).isSome = true) := fun ⟨n, v⟩ hy => by
    rcases S.par n (List.of_mem_zip hy).1 with q | q
    · exact .inl q
    · exact .inr ⟨q, PySem.W.cellsFrom_some _ _ _ (.inl q)⟩
  obtain ⟨o, ho, hd⟩ := (show ObjOk P w H s.heap f (LamO f _) from e0.hok f _ hf).1
  have hcd := (show ObjOk P w H s.heap c (CodeO c qual) from e0.hok c _ hc).1
  refine PySem.W.kla_callFunE hr.depth ho hd S.co S.gen rfl hcd (hb _ _ _ _ ?_)
  refine wpAny_newFunctionEnv_cells S.kind hkind fun env he s1 x => ?_
  subst he
  refine ⟨lim.keeps x.toInCall.keep, PySem.W.kla_codeExpr ?_⟩
  obtain ⟨t, ht, hq⟩ := hbody A outer s H vs Q E (hr.deeper _) hsp
  have I : Inv (cxOf CX0 P w K mg base N qual scope f (.ref c) A outer s H E) [] (start N vs) H s1 := inv_start S hr.hd e0 hl r x
  refine wpAny_mono (ht [] s1 (start N vs) H _ I hq) (fun u s' hs => ?_) fun e s' hs => hs
  obtain ⟨v, H', J, rv, q⟩ := hs
  exact ⟨v, H', J.os, J.bare, J.base, J.hok, rv, q⟩
/-- one promise of many -/
theorem FnOk.ex {P : Program} {w : World} {K : PySem.W.Frag} {mg : Str → Option Value} {base : Heap} {CX : CXT} {k : Nat} {f : Addr} {fd : FuncData} {ps : List Str} {ι : Type} {sp : ι → Sp} (F : ∀ i, FnOk P w K mg base CX k f fd ps (sp i)) : FnOk P w K mg base CX k f fd ps (fun vs H Q E => ∃ i, sp i vs H Q E) :=
  ⟨fun vs H Q E ⟨i, h⟩ => (F i).len vs H Q E h, fun A outer s H args us vs Q E hr e0 hb r ⟨i, h⟩ => (F i).run A outer s H args us vs Q E hr e0 hb r h⟩
theorem cal_lam {P : Program} {w : World} {K : PySem.W.Frag} {mg : Str → Option Value} {base : Heap} {k : Nat} {f : Addr} {fd : FuncData} {y : Str} {sp : Sp} (F : FnOk P w K mg base CX0 k f fd [y] sp) (hH : ∀ vs H Q E, sp vs H Q E → H f = some (LamO f fd)) (hb : Binds K fd [y] []) : CalOk P w K mg base f k sp := by
  intro X h1 h2 h3 h4 h5 hr i x p pos e t hN hv hd hcd ha hs pins s σ H Q I h
  subst h1 h2 h3 h4 h5
  obtain ⟨hi, h⟩ := h
  refine wpAny_Call_Name_kw (thn (pe_var hN hv hd hcd pins s σ H (fun v H' => v = .ref f ∧ H' = H) I ⟨_, hi, rfl, rfl⟩) fun u s0 ⟨v, H', I0, r0, e1, e2⟩ => ?_)
  subst e1 e2
  obtain rfl : u = Value.ref f := r0
  rw [hs]
  refine PySem.W.callWith_of rfl PySem.W.keeps_F (PySem.Calls.evalArgs_plain ?_)
  have ha' := ha pos pins s0 σ H' _ I0 h
  rw [hs] at ha'
  refine thn ha' fun us s1 ⟨vs, H1, I1, r, q⟩ => ⟨?_, ?_⟩
  · obtain ⟨⟨oc, od, dt, sl⟩, ho, hdt⟩ := lamO_at I1 (hH _ _ _ _ q)
    simp only at hdt
    subst hdt
    exact ⟨_, _, _, _, ho⟩
  · exact run_fn F hr hb .nil pass0 I1 r (by rw [List.append_nil]; exact q)
end L2

namespace L2
open PySem PySem.Spec PyProof.Rows
/-- the module's own __builtins__ -/
def BmAt (mg : Str → Option Value) (base : Heap) : Prop := ∃ bm o, mg "__builtins__" = some (.ref bm) ∧ bm ≠ builtinsNs ∧ bm ≠ mainGlobals ∧ base.get? bm = some o ∧ o.cls = .type "module" ∧ o.dict = some builtinsNs ∧ o.data = .plain
abbrev tab1 (pos : Pos) (c : Addr) : Array Value := #[rawInt pos.line, rawInt pos.col, .ref c]
/-- lambda: the first one lays its code down in the table, the others find it -/
def tLam (P : Addr) (pos : Pos) (qual : Str) (fd : Addr → Value → FuncData) : TE := fun σ H Q =>
  (H P = some (.tbl #[]) ∧ ∀ f c ct, H f = none → H c = none → f ≠ c → Q (.ref f) (upd (upd (upd H P (.tbl (tab1 pos c))) c (CodeO c qual)) f (LamO f (fd c ct)))) ∨
  ∃ c, H P = some (.tbl (tab1 pos c)) ∧ H c = some (CodeO c qual) ∧ ∀ f ct, H f = none → Q (.ref f) (upd H f (LamO f (fd c ct)))
section
variable {X : Cx} {c P : Addr} {params : Arguments} {body : Expr} {scope : Scope} {pos : Pos}
theorem pe_lam (hcode : X.env.code = .ref c) (hC : PySem.W.codeHdIn X.K c P = true) (hB : BmAt X.mg X.base) (hcl : closureFor scope X.env = pure [] := by rfl) (hdef : defaultsOf params X.env = ([], []) := by rfl) :
    PE X (.Lambda params body scope pos) (tLam P pos (X.env.qual ++ "<lambda>") fun c' ct => PySem.W.kla_fn "<lambda>" (X.env.qual ++ "<lambda>") params body scope [] ((X.mg "__name__").getD .none) (.ref c') ct) := by
  intro pins s σ H Q I h
  refine PySem.W.kla_eval hdef ?_
  have hP : ∀ ps, H P = some (.tbl ps) → s.heap.get? P = some (PySem.W.tabObj ps) ∧ mainGlobals ≠ P ∧ s.heap.BuiltinsAt X.mg P := fun ps hp => by
    have e : s.heap.get? P = some (PySem.W.tabObj ps) := I.hok P _ hp
    have nb : ∀ b o, X.base.get? b = some o → b ≠ P := fun b o q z => by
      subst z
      rw [(I.bs b o q).2] at hp; cases hp
    obtain ⟨og, eg, ep, g1, g2, _⟩ := I.mod.glob
    obtain ⟨bm, o, b1, b2, b3, b4, b5⟩ := hB
    exact ⟨e, nb _ _ g1, bm, o, b1, b2, b3, nb _ _ b4, I.bk _ _ b4, b5⟩
  have hg : s.heap.Ns mainGlobals X.mg := I.mod.glob.keeps I.bk
  have C : PySem.W.CodeHd s.heap c P := PySem.W.codeHd_of_K I.kIn hC
  rcases h with ⟨hp, qq⟩ | ⟨c', hp, hc', qq⟩
  · obtain ⟨e, ng, bb⟩ := hP _ hp
    refine PySem.W.kla_makeFunction (mg := X.mg) hcl I.ok.glob hg hcode C e True.intro rfl ng bb fun c' ct h' tk hx hge hlt hrec htb => ?_
    have hcn : H c' = none := I.hok.fresh hge
    have hfn : H h'.objs.size = none := I.hok.fresh (Nat.le_of_lt (Nat.lt_of_le_of_lt hge hlt))
    have nfc : h'.objs.size ≠ c' := Nat.ne_of_gt hlt
    have nPc : P ≠ c' := ne_of_none hp hcn
    have nPf : P ≠ h'.objs.size := ne_of_none hp hfn
    have hkp : ∀ b o, b ≠ P → s.heap.get? b = some o → (h'.push (PySem.W.kla_obj "<lambda>" (X.env.qual ++ "<lambda>") params body scope [] ((X.mg "__name__").getD .none) c' ct)).get? b = some o := fun b o n q => Heap.get?_push_of_some _ (hx b o n q)
    have neP : ∀ b u, H b = some u → (∀ ps, u ≠ .tbl ps) → b ≠ P := fun b u q n z => by subst z; rw [hp] at q; cases q; exact n _ rfl
    have at' : ∀ b, b ≠ P → b ≠ c' → b ≠ h'.objs.size → (upd (upd (upd H P (.tbl (tab1 pos c'))) c' (CodeO c' (X.env.qual ++ "<lambda>"))) h'.objs.size (LamO h'.objs.size (PySem.W.kla_fn "<lambda>" (X.env.qual ++ "<lambda>") params body scope [] ((X.mg "__name__").getD .none) (.ref c') ct))) b = H b := fun b n1 n2 n3 => by
      rw [upd_ne n3, upd_ne n2, upd_ne n1]
    have ofs : ∀ b u, H b = some u → b ≠ c' ∧ b ≠ h'.objs.size := fun b u q => ⟨ne_of_none q hcn, ne_of_none q hfn⟩
    have hPn : (h'.push (PySem.W.kla_obj "<lambda>" (X.env.qual ++ "<lambda>") params body scope [] ((X.mg "__name__").getD .none) c' ct)).get? P = some (PySem.W.tabObj (tab1 pos c')) := by
      refine Heap.get?_push_of_some _ ?_
      rw [htb]
      rfl
    have old : ∀ b o, s.heap.get? b = some o → b ≠ c' ∧ b ≠ h'.objs.size := fun b o q => by
      have := Heap.lt_size q
      exact ⟨Nat.ne_of_lt (Nat.lt_of_lt_of_le this hge), Nat.ne_of_lt (Nat.lt_trans (Nat.lt_of_lt_of_le this hge) hlt)⟩
    have un : Un X.fs [] H (upd (upd (upd H P (.tbl (tab1 pos c'))) c' (CodeO c' (X.env.qual ++ "<lambda>"))) h'.objs.size (LamO h'.objs.size (PySem.W.kla_fn "<lambda>" (X.env.qual ++ "<lambda>") params body scope [] ((X.mg "__name__").getD .none) (.ref c') ct))) s.heap (h'.push (PySem.W.kla_obj "<lambda>" (X.env.qual ++ "<lambda>") params body scope [] ((X.mg "__name__").getD .none) c' ct)) := by
      have nP : ∀ b, H b = none → b ≠ P := fun b n z => by subst z; rw [n] at hp; cases hp
      refine ⟨fun b o q n _ _ => hkp b o (nP b n) q, fun b o q n _ _ => ⟨o.slots, hkp b o (nP b n) q⟩, fun b o q n _ => by rw [at' b (nP b n) (old b o q).1 (old b o q).2]; exact n, fun b o q _ => ?_, fun b xs q => ?_, fun b o u q => ?_, fun b ps q => ?_⟩
      · by_cases z : b = P
        · subst z; exact ⟨_, hPn⟩
        · exact ⟨o, hkp b o z q⟩
      · rw [at' b (neP b _ q (by intro ps z; cases z)) (ofs b _ q).1 (ofs b _ q).2]; exact q
      · rw [at' b (neP b _ q (by intro ps z; cases z)) (ofs b _ q).1 (ofs b _ q).2]; exact q
      · by_cases z : b = P
        · subst z
          rw [hp] at q; cases q
          refine ⟨tab1 pos c', ?_⟩
          rw [upd_ne (ofs b _ hp).2, upd_ne (ofs b _ hp).1, upd_same]
          simp
        · exact ⟨#[], by rw [at' b z (ofs b _ q).1 (ofs b _ q).2, q]; simp⟩
    have hok : HOk X.prog X.w (upd (upd (upd H P (.tbl (tab1 pos c'))) c' (CodeO c' (X.env.qual ++ "<lambda>"))) h'.objs.size (LamO h'.objs.size (PySem.W.kla_fn "<lambda>" (X.env.qual ++ "<lambda>") params body scope [] ((X.mg "__name__").getD .none) (.ref c') ct))) (h'.push (PySem.W.kla_obj "<lambda>" (X.env.qual ++ "<lambda>") params body scope [] ((X.mg "__name__").getD .none) c' ct)) := by
      intro b u hb
      by_cases z1 : b = h'.objs.size
      · subst z1
        rw [upd_same] at hb
        cases hb
        exact ⟨⟨_, Heap.get?_push_size _ rfl, rfl⟩, ⟨_, Heap.get?_push_size _ rfl⟩, fun h1 h2 ⟨o, e1, e2⟩ k => ⟨o, k _ e1, e2⟩⟩
      · rw [upd_ne z1] at hb
        by_cases z2 : b = c'
        · subst z2
          rw [upd_same] at hb
          cases hb
          have hrec' : (h'.push (PySem.W.kla_obj "<lambda>" (X.env.qual ++ "<lambda>") params body scope [] ((X.mg "__name__").getD .none) b ct)).CodeRec (.ref b) (X.env.qual ++ "<lambda>") := hrec.push _
          refine ⟨hrec', ?_, fun h1 h2 ⟨c2, o, vs, t, e1, e2, e3⟩ k => ?_⟩
          · obtain ⟨c2, o, vs, t, e1, e2, _⟩ := hrec'
            cases e1
            exact ⟨o, e2⟩
          · cases e1
            exact ⟨b, o, vs, t, rfl, k _ e2, e3⟩
        · rw [upd_ne z2] at hb
          by_cases z3 : b = P
          · subst z3
            rw [upd_same] at hb
            cases hb
            exact hPn
          · rw [upd_ne z3] at hb
            refine (I.hok b u hb).stay (fun d v hd e => hkp d v ?_ e) (fun d hd => ?_) fun d xs hd => ?_
            · rcases hd with rfl | hd
              · exact z3
              · exact neP d _ hd (by intro ps z; cases z)
            · rw [at' d (neP d _ hd (by intro ps z; cases z)) (ofs d _ hd).1 (ofs d _ hd).2]; exact hd
            · rw [at' d (neP d _ hd (by intro ps z; cases z)) (ofs d _ hd).1 (ofs d _ hd).2]; exact hd
    exact ⟨.ref h'.objs.size, _, I.un un hok, rfl, qq _ c' ct hfn hcn nfc⟩
  · obtain ⟨e, ng, bb⟩ := hP _ hp
    refine PySem.W.kla_makeFunctionHit (mg := X.mg) (cv := .ref c') hcl I.ok.glob hg hcode C e True.intro (by simp [codeAmong, rawInt]) bb fun ct h' tk hk hsz => ?_
    refine ⟨.ref h'.objs.size, _, I.laid (a := h'.objs.size) (o := LamO h'.objs.size (PySem.W.kla_fn "<lambda>" (X.env.qual ++ "<lambda>") params body scope [] ((X.mg "__name__").getD .none) (.ref c') ct)) (t' := tk) (fun b u e => Heap.get?_push_of_some _ (hk b u e)) hsz ⟨⟨_, Heap.get?_push_size _ rfl, rfl⟩, ⟨_, Heap.get?_push_size _ rfl⟩, fun h1 h2 ⟨o, e1, e2⟩ k => ⟨o, k _ e1, e2⟩⟩, rfl, qq _ ct (I.hok.fresh hsz)⟩
end
end L2

namespace L2
open PySem PySem.Spec PyProof.Rows
/-! ### a def that makes a lambda: its code is known -/
structure FunC (K : PySem.W.Frag) (x qual : Str) (st : Stmt) (f : Addr) (fd : FuncData) (c P : Addr) : Prop where
  ex : ∃ (oc : Value) (od : Option Addr) (kV doc pm : Value) (an : Option Addr) (ct : Value) (osl : Array (Option Value)),
    fd = PySem.W.fnOf x qual (defArgs st) (defBody st) (defScope st) .none kV doc pm an (.ref c) ct ∧ K.lookup f = some ⟨oc, od, .func fd, osl⟩ ∧ PySem.W.codeIn K (.ref c) qual = true
  kp : PySem.W.keepIn K (.ref f) = true
  hd : PySem.W.codeHdIn K c P = true
theorem FunC.ok {P0 : Program} {w : World} {K : PySem.W.Frag} {mg : Str → Option Value} {base : Heap} {x qual : Str} {st : Stmt} {f : Addr} {fd : FuncData} {c P : Addr} {N ps : List Str} {k : Nat} {sp : Sp} (F : FunC K x qual st f fd c P) (S : FnScope N ps (defScope st)) (len : ∀ vs H Q E, sp vs H Q E → vs.length = ps.length)
    (hbody : ∀ (A : Around) (outer : List Env) (s : Shared) (H : Hp) (vs : List V) (Q : VK) (E : XK), Room k (A.deeper (envOfC qual (defScope st) s.heap.objs.size f (.ref c))) → sp vs H Q E →
      ∃ t, PSs (cxOf CX0 P0 w K mg base N qual (defScope st) f (.ref c) A outer s H E).nox (defBody st) t ∧ t { nx := fun _ H' => Q .non H', rt := Q } (start N vs) H) : FnOk P0 w K mg base CX0 (k + 1) f fd ps sp := by
  obtain ⟨oc, od, kV, doc, pm, an, ct, osl, rfl, lk, hcd⟩ := F.ex
  refine fn_of lk hcd S len fun A outer s H vs Q E hr hsp => ?_
  obtain ⟨t, h, q⟩ := hbody A outer s H vs Q E hr hsp
  exact ⟨t, h.nox, q⟩
/-! ### the law's call where tables are tracked -/
def OnlyT (tabs : List Addr) (H : Hp) : Prop := ∀ b, H b = none ∨ (∃ o xs, H b = some (.frz o (.lst xs))) ∨ (b ∈ tabs ∧ H b = some (.tbl #[]))
theorem law_callT {P : Program} {w : World} {K : PySem.W.Frag} {mg mb : Str → Option Value} {k : Nat} {fa a : Addr} {fd : FuncData} {x : Str} {sp : Sp} {s₁ : Shared} {vs : List Value} {ns : List Int} {tabs : List Addr}
    (KX : K.In s₁.heap) (hns : s₁.heap.Ns mainGlobals mg) (hb : s₁.heap.Ns builtinsNs mb) (hbb : ∀ x : Str, x ≠ "__name__" → mb x = bootBuiltins x) (hlim : s₁.heap.NoLimit) (hg : s₁.gens = #[]) (hB : BmAt mg s₁.heap)
    (hT : ∀ P ∈ tabs, s₁.heap.get? P = some (PySem.W.tabObj #[]) ∧ isCodeTable s₁.heap P ∧ K.lookup P = none)
    (ha : s₁.heap.get? a = some { cls := .type "list", data := .seq vs.toArray }) (hi : IntsAre vs ns) (hl : ns.length ≤ sizeLine) (hr : Room k callerA)
    (F : ∀ base : Heap, K.In base → base.Ns mainGlobals mg → BmAt mg base → FnOk P w K mg base CX0 k fa fd [x] sp) (hbind : ∀ (s : Shared) (u : Value), BindsTo s fd ⟨[u], []⟩ [(x, u)])
    (hsp : ∀ H : Hp, SqL K H a (ns.map V.int) → (∀ P ∈ tabs, H P = some (.tbl #[])) → sp [.ref a] H (fun v _ => v = .bl true) fun _ _ _ => False) :
    codeAny (model P w) callerA (.call (.ref fa) ⟨[.ref a], []⟩) (fun r s' => r = .ok (.ret (.bool true)) ∧ OldK s₁.heap s'.heap ∧ s'.os = s₁.os ∧ AllBare s'.gens) s₁ := by
  have rv := vals_ints hi
  have lenV := hi.length
  have naT : a ∉ tabs := fun z => by
    have e := (hT a z).1
    rw [ha] at e; cases e
  have core : ∀ H : Hp, OnlyT tabs H → SqL K H a (ns.map V.int) → HOk P w H s₁.heap → (∀ b, H b ≠ none → b = a ∨ b ∈ tabs) → (H a ≠ none → K.lookup a = none) → (∀ P ∈ tabs, H P = some (.tbl #[])) →
      codeAny (model P w) callerA (.call (.ref fa) ⟨[.ref a], []⟩) (fun r s' => r = .ok (.ret (.bool true)) ∧ OldK s₁.heap s'.heap ∧ s'.os = s₁.os ∧ AllBare s'.gens) s₁ := by
    intro H hO hS hok hA hK hH
    have base_of : ∀ {b : Addr} {o : Obj}, s₁.heap.get? b = some o → H b = none → (hidT s₁.heap H).get? b = some o := fun e n => hidT_get e n
    have noT : ∀ {b : Addr} {o : Obj}, s₁.heap.get? b = some o → o.cls ≠ .none → o.cls ≠ .type "list" → H b = none := fun {b o} e h1 h2 => by
      cases q : H b with
      | none => rfl
      | some u =>
        rcases hA b (by rw [q]; simp) with e' | e'
        · subst e'
          rw [ha] at e; cases e
          exact absurd rfl h2
        · have := (hT b e').1
          rw [e] at this; cases this
          exact absurd rfl h1
    have noA : ∀ {b : Addr} {o : Obj} {es : Array DictEntry} {ep : Nat}, s₁.heap.get? b = some o → o.data = .dict es ep → H b = none := fun {b o es ep} e d => by
      cases q : H b with
      | none => rfl
      | some u =>
        rcases hA b (by rw [q]; simp) with e' | e'
        · subst e'
          rw [ha] at e; cases e
          cases (show Data.seq vs.toArray _ = Data.dict es ep from d)
        · have := (hT b e').1
          rw [e] at this; cases this
          cases (show Data.fields #[] = Data.dict es ep from d)
    have nsK : ∀ {b : Addr} {m : Str → Option Value}, s₁.heap.Ns b m → (hidT s₁.heap H).Ns b m := fun {b m} ⟨o, es, ep, e, d, r⟩ => ⟨o, es, ep, base_of e (noA e d), d, r⟩
    have hKb : K.In (hidT s₁.heap H) := fun b o e => base_of (KX b o e) (by
      cases q : H b with
      | none => rfl
      | some u =>
        rcases hA b (by rw [q]; simp) with e' | e'
        · subst e'
          rw [hK (by rw [q]; simp)] at e; cases e
        · rw [(hT b e').2.2] at e; cases e)
    have hM : Mod K mg (hidT s₁.heap H) := ⟨hKb, nsK hns, ⟨mb, nsK hb, hbb⟩, let ⟨mc, h1, h2⟩ := hlim; ⟨mc, nsK h1, h2⟩⟩
    have hBb : BmAt mg (hidT s₁.heap H) := by
      obtain ⟨bm, o, b1, b2, b3, b4, b5, b6⟩ := hB
      exact ⟨bm, o, b1, b2, b3, base_of b4 (noT b4 (by rw [b5]; intro z; cases z) (by rw [b5]; decide)), b5, b6⟩
    have e0 : Env0 P w K mg (hidT s₁.heap H) callerA [] s₁ H := ⟨rfl, hM, fun b o e => of_hidT e, Nat.le_of_eq (hidT_size _ _), trivial, fun b hb => absurd (show b ∈ ([] : List Addr) from hb) (by simp), hok, .of_eq hg⟩
    refine codeAny_mono ((F _ hKb (nsK hns) hBb).run callerA [] s₁ H ⟨[.ref a], []⟩ [.ref a] [.ref a] _ _ hr e0 (hbind s₁ (.ref a)) (.cons rfl .nil) (hsp H hS hH)) fun r s' h => ?_
    cases r with
    | error e => exact False.elim h
    | ok fl =>
      cases fl with
      | next => exact False.elim h
      | brk => exact False.elim h
      | cont => exact False.elim h
      | ret u =>
        obtain ⟨v, H', os, bare, un, hok', r', q⟩ := h
        have q' : v = .bl true := q
        subst q'
        obtain rfl : u = Value.bool true := r'
        refine ⟨rfl, ⟨fun b o e => ?_, fun b o e => un.there b o e (by simp)⟩, os, bare⟩
        rcases hO b with z | ⟨ob, xs, z⟩ | ⟨hm, z⟩
        · exact .inl (un.keep b o e z (by intro z; exact absurd (show b ∈ ([] : List Addr) from z) (by simp)) (by simp))
        · have z2 := un.frzs b ob _ z
          obtain ⟨e1, _⟩ := hok b _ z
          obtain ⟨e2, _⟩ := hok' b _ z2
          rw [e] at e1; cases e1
          exact .inl e2
        · obtain ⟨more, z2⟩ := un.tbls b _ z
          have e1 := (hT b hm).1
          rw [e] at e1; cases e1
          have e2 := hok' b _ z2
          exact .inr (.inl ⟨(hT b hm).2.1, rfl, #[], more, rfl, e2⟩)
  cases hk : K.lookup a with
  | some o =>
    have e := KX a o hk
    rw [ha] at e
    cases e
    refine core (fun b => if b ∈ tabs then some (.tbl #[]) else none) (fun b => ?_) (.inr ⟨_, vs.toArray, _, hk, rfl, rfl, rfl, by rw [List.size_toArray, lenV]; exact hl, by simpa using rv⟩) (fun b u z => ?_) (fun b z => ?_) (fun z => absurd (if_neg naT) z) fun P hP => if_pos hP
    · by_cases hb : b ∈ tabs
      · exact .inr (.inr ⟨hb, if_pos hb⟩)
      · exact .inl (if_neg hb)
    · by_cases hb : b ∈ tabs
      · have z' := (if_pos hb).symm.trans z
        cases z'
        exact (hT b hb).1
      · have z' := (if_neg hb).symm.trans z
        cases z'
    · by_cases hb : b ∈ tabs
      · exact .inr hb
      · exact absurd (if_neg hb) z
  | none =>
    refine core (fun b => if b = a then some (.frz { cls := .type "list", data := .seq vs.toArray } (.lst (ns.map V.int))) else if b ∈ tabs then some (.tbl #[]) else none) (fun b => ?_) (.inl (.inr ⟨{ cls := .type "list", data := .seq vs.toArray }, if_pos rfl⟩)) (fun b u z => ?_) (fun b z => ?_) (fun _ => hk) fun P hP => ?_
    · by_cases hb : b = a
      · exact .inr (.inl ⟨_, _, if_pos hb⟩)
      · by_cases hb2 : b ∈ tabs
        · exact .inr (.inr ⟨hb2, (if_neg hb).trans (if_pos hb2)⟩)
        · exact .inl ((if_neg hb).trans (if_neg hb2))
    · by_cases hb : b = a
      · have z' := (if_pos hb).symm.trans z
        cases z'
        subst hb
        exact ⟨ha, by rw [List.length_map]; exact hl, vs, _, rv, ha⟩
      · by_cases hb2 : b ∈ tabs
        · have z' := ((if_neg hb).trans (if_pos hb2)).symm.trans z
          cases z'
          exact (hT b hb2).1
        · have z' := ((if_neg hb).trans (if_neg hb2)).symm.trans z
          cases z'
    · by_cases hb : b = a
      · exact .inl hb
      · by_cases hb2 : b ∈ tabs
        · exact .inr hb2
        · exact absurd ((if_neg hb).trans (if_neg hb2)) z
    · have n : P ≠ a := fun z => naT (z ▸ hP)
      exact (if_neg n).trans (if_pos hP)
theorem walk_ofT {l : PySem.W.OpenLaw} {n k : Nat} {q : Program} {loose : List Str} {XP : (Str → Option Value) → Heap → Prop} {YP : World → Heap → Prop} {d : DefRec} {K : Params → PySem.W.Frag} {sp : World → List Addr → Sp} {x : Str} {ts : List Addr}
    (hn : l.most = some n) (hn2 : n ≤ sizeLine) (hdf : d.params.defaults = []) (hr : Room k callerA)
    (hY : ∀ (w : World) (h : Heap), YP w h → (K w.params).In h ∧ ∀ P ∈ ts, h.get? P = some (PySem.W.tabObj #[]))
    (F : ∀ (w : World) (mg : Str → Option Value) (fa : Addr) (h : Heap), (K w.params).In h → h.Ns mainGlobals mg → mg d.name = some (.ref fa) →
      ∃ (fd : FuncData) (tabs : List Addr), (∀ P ∈ tabs, P ∈ ts ∧ (K w.params).lookup P = none ∧ ∃ c, PySem.W.codeHdIn (K w.params) c P = true) ∧ (∀ (s : Shared) (u : Value), BindsTo s fd ⟨[u], []⟩ [(x, u)]) ∧
        (∀ base : Heap, (K w.params).In base → base.Ns mainGlobals mg → BmAt mg base → FnOk l.prog w (K w.params) mg base CX0 k fa fd [x] (sp w tabs)) ∧
        ∀ (H : Hp) (a : Addr) (ns : List Int), ns.length ≤ n → SqL (K w.params) H a (ns.map V.int) → (∀ P ∈ tabs, H P = some (.tbl #[])) → sp w tabs [.ref a] H (fun v _ => v = .bl true) fun _ _ _ => False) :
    PySem.W.WalkO q loose XP YP l.row.toRowW d [] (fun f vs => PySem.call f vs) := by
  refine Att.attach_call hn hdf fun w s₀ s₁ mg mb fa o pm cd doc a vs ns G Y ho hd hcd hmg hobj hints hlen hg => ?_
  obtain ⟨KX, TX⟩ := hY w _ Y
  obtain ⟨fd, tabs, hT, hb, hF, hsp⟩ := F w mg fa _ KX G.T.g hmg
  obtain ⟨bm, ob, b1, b2, b3, b4, b5, b6⟩ := G.T.bmain
  have hbG : bm ≠ mainGlobals := fun q => by
    obtain ⟨o, es, ep, e, hd, _⟩ := G.T.g
    rw [q, e] at b3; cases b3; rw [hd] at b6; cases b6
  refine law_callT (tabs := tabs) KX G.T.g G.T.b G.T.builtins G.T.nolimit hg ⟨bm, ob, b1, b2, hbG, b3, b4, b5, b6⟩ (fun P hP => ?_) hobj hints (Nat.le_trans hlen hn2) hr hF hb fun H hS hH => hsp H a ns hlen hS hH
  obtain ⟨h1, h2, c, h3⟩ := hT P hP
  have e := TX P h1
  exact ⟨e, ((PySem.W.codeHd_of_K KX h3).tab e).isCodeTable, h2⟩
end L2

namespace L2
open PySem PySem.Spec PyProof.Rows
/-! ### texts: join, split, removeprefix, int(text), all, any, the walk of a text -/
section
variable {X : Cx}
/-! ### for sign in text -/
end
end L2

namespace L2
open PySem PySem.Spec PyProof.Rows
/-! ### the signs of a number, of a row -/
def numS (n : Int) : Str := Str.ofString (toString n)
/-! ### words joined by a blank, and split again -/
def blank : Str := " "
/-- a row as a text -/
def shown (ns : List Int) : Str := Str.join blank (ns.map numS)
end L2

namespace L2
open PySem PySem.Spec PyProof.Rows
section
variable {X : Cx}
end
end L2

namespace L2
open PySem PySem.Spec PyProof.Rows
section
variable {X : Cx}
end
end L2

namespace PySem
open Builtin
theorem noFill_tuple_mul : fillsNumberSlot (.type "tuple") "mul" = pure false :=
  fillsNumberSlot_seq (id := "tuple.__mul__") (r := some (.builtin "tuple.__rmul__")) F.slot_tuple_mul.lookup (by decide +kernel) F.slot_tuple_rmul.lookup (by decide +kernel)
theorem repeat_tuple : seqRepeat? (.type "tuple") = pure (some (.builtin "tuple.__mul__")) := by
  unfold seqRepeat?
  rw [seqSlot_of (T := "tuple") (name := "__mul__") (id := "tuple.__mul__") F.slot_tuple_mul.lookup (by decide +kernel), seqSlot_of (T := "tuple") (name := "__rmul__") (id := "tuple.__rmul__") F.slot_tuple_rmul.lookup (by decide +kernel)]
  rfl
theorem int___rmul___int_tuple (a : Int) (t : Tok) (l : Addr) (items : Array Value) (n : Nat) (dd : Option Addr) (sl : Array (Option Value)) :
    Meets (Builtin.«int.__rmul__» ⟨[.int a t, .ref l], []⟩) (fun _ R s => s.heap.get? l = some { cls := .type "tuple", dict := dd, data := .seq items n, slots := sl } ∧ R (.ok (.ret Value.notImplemented)) s) :=
  .of_wp fun prog w A R s h => by obtain ⟨hp, g, d, tk, os⟩ := s; obtain ⟨hl, h⟩ := h; wp_walk; exact ⟨_, rfl, h⟩
end PySem

namespace PySem
open Builtin PySem.AutoSeq1
theorem tuple_mul_same (l : Addr) (a : Value) (n : Nat) (dd : Option Addr) (sl : Array (Option Value)) (x : Int) (u : Tok) (h1 : (decide (x < -(2 ^ 63 : Int)) || decide (x ≥ 2 ^ 63)) = false) (h2 : ((#[a] : Array Value).isEmpty || x == 1) = true) :
    Meets (Builtin.«tuple.__mul__» ⟨[.ref l, .int x u], []⟩) (fun _ R s => s.heap.get? l = some { cls := .type "tuple", dict := dd, data := .seq #[a] n, slots := sl } ∧ R (.ok (.ret (.ref l))) s) :=
  .of_wp fun prog w A R s h => by
    obtain ⟨hp, g, d, tk, os⟩ := s; obtain ⟨hl, h⟩ := h; have f1 := idx_int
    wp_walk
    refine wpAny_ite_false (by rw [h1]; rfl) ?_
    wp_walk
    refine wpAny_ite_true (by rw [h2]; rfl) ?_
    wp_walk
    exact ⟨_, rfl, h⟩
theorem tuple_mul_nil (l : Addr) (a : Value) (n : Nat) (dd : Option Addr) (sl : Array (Option Value)) (x : Int) (u : Tok) (h1 : (decide (x < -(2 ^ 63 : Int)) || decide (x ≥ 2 ^ 63)) = false) (h2 : ((#[a] : Array Value).isEmpty || x == 1) = false) (h3 : (decide (x ≤ 0) || (#[a] : Array Value).isEmpty) = true) :
    Meets (Builtin.«tuple.__mul__» ⟨[.ref l, .int x u], []⟩) (fun _ R s => s.heap.get? l = some { cls := .type "tuple", dict := dd, data := .seq #[a] n, slots := sl } ∧ R (.ok (.ret (.ref s.heap.objs.size))) { s with heap := s.heap.push { cls := .type "tuple", data := .seq #[] } }) :=
  .of_wp fun prog w A R s h => by
    obtain ⟨hp, g, d, tk, os⟩ := s; obtain ⟨hl, h⟩ := h; have f1 := idx_int
    wp_walk
    refine wpAny_ite_false (by rw [h1]; rfl) ?_
    wp_walk
    refine wpAny_ite_false (by rw [h2]; rfl) ?_
    refine wpAny_ite_true (by rw [h3]; rfl) ?_
    wp_walk
    exact ⟨_, rfl, h⟩
theorem tuple_mul_many (l : Addr) (a : Value) (n : Nat) (dd : Option Addr) (sl : Array (Option Value)) (x : Int) (u : Tok) (h1 : (decide (x < -(2 ^ 63 : Int)) || decide (x ≥ 2 ^ 63)) = false) (h2 : ((#[a] : Array Value).isEmpty || x == 1) = false) (h3 : (decide (x ≤ 0) || (#[a] : Array Value).isEmpty) = false)
    (h4 : ¬ (((#[a] : Array Value).size : Int) * x > (2 ^ 63 - 1) / 8)) (h5 : Builtin.Tuple.tupleTooMany (((#[a] : Array Value).size : Int) * x) = false) (h6 : (List.foldl (fun x1 x2 => x1 ++ x2) #[] (List.replicate x.toNat (#[a] : Array Value))).size ≤ sizeLine) :
    Meets (Builtin.«tuple.__mul__» ⟨[.ref l, .int x u], []⟩) (fun _ R s => s.heap.get? l = some { cls := .type "tuple", dict := dd, data := .seq #[a] n, slots := sl } ∧ R (.ok (.ret (.ref s.heap.objs.size))) { s with heap := s.heap.push { cls := .type "tuple", data := .seq (List.foldl (fun x1 x2 => x1 ++ x2) #[] (List.replicate x.toNat (#[a] : Array Value))) } }) :=
  .of_wp fun prog w A R s h => by
    obtain ⟨hp, g, d, tk, os⟩ := s; obtain ⟨hl, h⟩ := h; have f1 := idx_int
    wp_walk
    refine wpAny_ite_false (by rw [h1]; rfl) ?_
    wp_walk
    refine wpAny_ite_false (by rw [h2]; rfl) ?_
    refine wpAny_ite_false (by rw [h3]; rfl) ?_
    rw [if_neg h4]
    refine wpAny_ite_false (by rw [h5]; rfl) ?_
    wp_walk
    first | exact ⟨_, rfl, h⟩ | (refine wpAny_ite_false (decide_eq_false (Nat.not_lt.mpr h6)) ?_; wp_walk; exact ⟨_, rfl, h⟩)
end PySem
namespace L2
open PySem PySem.Spec PyProof.Rows
/-- (v,) * k -/
def rRepT (K : PySem.W.Frag) : R2 := fun x y H Q => ∃ (l : Addr) (k : Int) (v : V), x = .ref l ∧ y = .int k ∧ H l = some (.tup [v]) ∧ 0 ≤ k ∧ k ≤ 100000 ∧ ∀ q H', Same H H' → H' q = some (.tup (List.replicate k.toNat v)) → Q (.ref q) H'
theorem fold_one (a : Value) : ∀ (m : Nat) (acc : Array Value), List.foldl (fun x1 x2 => x1 ++ x2) acc (List.replicate m (#[a] : Array Value)) = acc ++ (List.replicate m a).toArray
  | 0, acc => by simp
  | m + 1, acc => by
    rw [List.replicate_succ, List.foldl_cons, fold_one a m, List.replicate_succ]
    apply Array.ext'
    simp
theorem vals_rep {v : V} {u : Value} (r : RelV v u) : ∀ m : Nat, Vals (List.replicate m v) (List.replicate m u)
  | 0 => .nil
  | m + 1 => by rw [List.replicate_succ, List.replicate_succ]; exact .cons r (vals_rep r m)
theorem op_repT {X : Cx} {K : PySem.W.Frag} (hK : X.K = K) : OpR X (binaryOp .Mult) (rRepT K) := by
  intro pins s σ H x y v u Q I rx ry h
  obtain ⟨l, k, w, rfl, rfl, hl, k0, k1, q⟩ := h
  cases rx
  obtain ⟨t, rfl⟩ := ry
  obtain ⟨hz, its, r, ht⟩ := I.hok l _ hl
  have hsl : sizeLine = 16777216 := sizeLine_eq
  obtain ⟨a, rfl, ra⟩ := vals1 r
  obtain ⟨n, dd, sl, e⟩ : ∃ n dd sl, s.heap.get? l = some { cls := .type "tuple", dict := dd, data := .seq #[a] n, slots := sl } := by
    obtain ⟨⟨oc, od, odt, osl⟩, e, hcl, m, hdt⟩ := ht
    have hcl : oc = .type "tuple" := hcl
    have hdt : odt = .seq #[a] m := hdt
    subst hcl hdt
    exact ⟨m, od, osl, e⟩
  have h1 : (decide (k < -(2 ^ 63 : Int)) || decide (k ≥ 2 ^ 63)) = false := by
    rw [decide_eq_false (by omega), decide_eq_false (by omega)]; rfl
  have em : (#[a] : Array Value).isEmpty = false := rfl
  have go : ∀ (Q' : Value → Shared → Prop), wpAny (model X.prog X.w) X.A (call (.builtin "tuple.__mul__") [.ref l, .int k t]) Q' X.xe s → wpAny (model X.prog X.w) X.A (binaryOp .Mult (.ref l) (.int k t)) Q' X.xe s := fun Q' hc =>
    wpAny_binaryOp_repeat_ref (T := "tuple") (U := "int") (by decide) ⟨_, e, rfl⟩ (fun s' => typeIs_int s' k t) noFill_tuple_mul F.fills_int_mul F.slot_int_rmul repeat_tuple F.slot_int_index.lookup
      (call_meets F.slot_int_rmul (typeIs_int s k t) F.entry_int_rmul (F.args_int_rmul_2 _ _) (int___rmul___int_tuple k t l #[a] n dd sl) ⟨e, rfl, ⟨_, e, rfl⟩, hc⟩)
  refine go _ ?_
  by_cases c1 : k = 1
  · subst c1
    exact call_meets F.slot_tuple_mul ⟨_, e, rfl⟩ F.entry_tuple_mul (F.args_tuple_mul_2 _ _) (tuple_mul_same l a n dd sl 1 t h1 rfl) ⟨e, ⟨.ref l, H, I, rfl, q l H (Same.refl H) hl⟩⟩
  · have h2 : ((#[a] : Array Value).isEmpty || k == 1) = false := by rw [em, Bool.false_or, beq_eq_false_iff_ne]; exact c1
    by_cases c0 : k = 0
    · subst c0
      refine call_meets F.slot_tuple_mul ⟨_, e, rfl⟩ F.entry_tuple_mul (F.args_tuple_mul_2 _ _) (tuple_mul_nil l a n dd sl 0 t h1 h2 rfl) ⟨e, ?_⟩
      have I2 := I.laid (a := s.heap.objs.size) (t' := s.toks) (o := .tup []) (fun b ob q => Heap.get?_push_of_some _ q) (Nat.le_refl _) (show ObjOk X.prog X.w _ _ _ (.tup []) from ⟨Nat.zero_le _, [], .nil, IsTup.new _ _⟩)
      exact ⟨.ref s.heap.objs.size, _, I2, rfl, q _ _ (Same.lay (I.hok.fresh (Nat.le_refl _))) upd_same⟩
    · have h3 : (decide (k ≤ 0) || (#[a] : Array Value).isEmpty) = false := by rw [em, Bool.or_false]; exact decide_eq_false (by omega)
      have hs1 : ((#[a] : Array Value).size : Int) = 1 := rfl
      have h4 : ¬ (((#[a] : Array Value).size : Int) * k > (2 ^ 63 - 1) / 8) := by rw [hs1, Int.one_mul]; omega
      have h5 : Builtin.Tuple.tupleTooMany (((#[a] : Array Value).size : Int) * k) = false := by
        unfold Builtin.Tuple.tupleTooMany
        rw [hs1, Int.one_mul]
        exact decide_eq_false (by omega)
      have ef := fold_one a k.toNat #[]
      have ef' : List.foldl (fun x1 x2 => x1 ++ x2) #[] (List.replicate k.toNat (#[a] : Array Value)) = (List.replicate k.toNat a).toArray := by rw [ef]; simp
      have h6 : (List.foldl (fun x1 x2 => x1 ++ x2) #[] (List.replicate k.toNat (#[a] : Array Value))).size ≤ sizeLine := by
        rw [ef', List.size_toArray, List.length_replicate]; omega
      refine call_meets F.slot_tuple_mul ⟨_, e, rfl⟩ F.entry_tuple_mul (F.args_tuple_mul_2 _ _) (tuple_mul_many l a n dd sl k t h1 h2 h3 h4 h5 h6) ⟨e, ?_⟩
      rw [ef']
      have I2 := I.laid (a := s.heap.objs.size) (t' := s.toks) (o := .tup (List.replicate k.toNat w)) (fun b ob q => Heap.get?_push_of_some _ q) (Nat.le_refl _) (show ObjOk X.prog X.w _ _ _ (.tup (List.replicate k.toNat w)) from ⟨by rw [List.length_replicate]; omega, _, vals_rep ra k.toNat, IsTup.new _ _⟩)
      exact ⟨.ref s.heap.objs.size, _, I2, rfl, q _ _ (Same.lay (I.hok.fresh (Nat.le_refl _))) upd_same⟩
end L2

namespace L2
open PySem PySem.Spec PyProof.Rows
/-! ### sorted(xs, key=f) -/
/-- an own record, not tracked so far, is tracked from here on -/
theorem Inv.adopt {X : Cx} {pins : List (Addr × Obj)} {σ : St} {H : Hp} {s : Shared} {h' : Heap} {fp : List Addr} {t' : Nat} {p : Addr} {o' : HO} (I : Inv X pins σ H s) (hf : ∀ b ∈ fp, FpOk X pins H b) (hp : p ∈ fp) (k : ∀ c o, c ∉ fp → s.heap.get? c = some o → h'.get? c = some o) (new : ObjOk X.prog X.w (upd H p o') h' p o') :
    Inv X pins σ (upd H p o') { s with heap := h', toks := t' } := by
  have nfp : ∀ b u, H b = some u → b ∉ fp := fun b u e z => by rw [(hf b z).1] at e; cases e
  have hn : H p = none := (hf p hp).1
  have np : ∀ b u, H b = some u → b ≠ p := fun b u e => ne_of_none e hn
  refine I.step (g' := s.gens) (d' := s.drawn) (ch := fp) (fun b hb => ?_) (fun b o _ _ hc e _ => k b o hc e) (fun b o _ _ hc e _ => ⟨o.slots, k b o hc e⟩) (fun b o hc e n => by rw [upd_ne (fun z => hc (by rw [z]; exact hp))]; exact n) (fun b o hc e => ⟨o, k b o hc e⟩)
    (fun b _ e => by rw [upd_ne (np _ _ e)]; exact e) (fun b _ _ e => by rw [upd_ne (np _ _ e)]; exact e) (fun b ps e => ⟨#[], by rw [upd_ne (np _ _ e), e]; simp⟩) (fun m hm => ?_) (fun b u e => ?_) I.bare
  · obtain ⟨f0, f1, f2, f3, f4, f5⟩ := hf b hb
    exact ⟨f3, f1, f4, f5⟩
  · obtain ⟨o, es, ep, ho, r⟩ := hm
    exact ⟨o, es, ep, k _ o (fun z => (hf _ z).2.1 rfl) ho, r⟩
  · by_cases hb : b = p
    · subst hb; rw [upd_same] at e; cases e; exact new
    · rw [upd_ne hb] at e
      refine (I.hok b u e).stay (fun c v hc q => k c v ?_ q) (fun c q => by rw [upd_ne (np _ _ q)]; exact q) fun c ys q => by rw [upd_ne (np _ _ q)]; exact q
      rcases hc with z | z
      · rw [z]; exact nfp b u e
      · exact nfp c _ z
theorem Vals.snoc {xs : List V} {us : List Value} {x : V} {u : Value} (h : Vals xs us) (r : RelV x u) : Vals (xs ++ [x]) (us ++ [u]) := by
  induction h with
  | nil => exact .cons r .nil
  | cons a b ih => exact .cons a ih
section
variable {X : Cx} {pins : List (Addr × Obj)} {σ : St} {H0 : Hp} {f a kS : Addr} {xs : List V} {cs : List (List Int)} {VC : Hp → V → List Int → Prop} {HC : Heap → Value → List Int → Prop} {e1 : Nat} {E : Value → Shared → Prop}
end
end L2

namespace L2
open PySem PySem.Spec PyProof.Rows
section
variable {X : Cx} {pins : List (Addr × Obj)} {σ : St} {H0 : Hp} {f a kS : Addr} {xs : List V} {cs : List (List Int)} {VC : Hp → V → List Int → Prop} {HC : Heap → Value → List Int → Prop} {e1 : Nat} {E : Value → Shared → Prop}
end
end L2

namespace L2
open PySem PySem.Spec PyProof.Rows
/-! ### a lambda that keeps names of the frame that made it, called from that frame -/
section
variable {X : Cx} {A : Around} {y : Str} {Nc : List Str} {cap : List (Option Nat)} {qual : Str} {scope : Scope} {cl : List (Str × Addr)} {f c : Addr} {s : Shared} {H : Hp} {pins : List (Addr × Obj)} {σ : St}
end
end L2

namespace L2
open PySem PySem.Spec PyProof.Rows
/-! ### a built-in function with keywords, where the names of the frame count -/
section
variable {X : Cx} {K : PySem.W.Frag} {x : Str} {p pos : Pos} {e : Expr} {es : List Expr} {kws : List Keyword} {t tk : TA} {id : String} {ks : List Str}
end
/-! ### what may be sorted: a list, a range -/
/-- what is known of a lambda's text and of the names that it keeps -/
structure LamOk (X : Cx) (y : Str) (Nc : List Str) (cap : List (Option Nat)) (params : Arguments) (scope : Scope) (cl : List (Str × Addr)) : Prop where
  ok : blkOk X.N X.env.scope Nc cap scope = true
  co : scope.isCoroutine = false
  gen : scope.isGenerator = false
  loc : scope.names.lookup y = some .local
  cls : closureFor scope X.env = pure cl
  cl1 : ∀ x c, cl.lookup x = some c → X.env.cells.lookup x = some c
  cl2 : ∀ x ∈ scope.names, x.2 = .free → ∃ c, cl.lookup x.1 = some c
end L2

namespace L2
open PySem PySem.Spec PyProof.Rows
/-! ### min, max by keys that lie on the heap -/
def KeptH (xs : List V) (KV : Hp → Nat → V → Prop) (H : Hp) (jb : Option Nat) (its : Array Value) : Prop := match jb with
  | none => its = #[]
  | some j => ∃ x y u v, xs[j]? = some x ∧ RelV x u ∧ KV H j y ∧ RelV y v ∧ its = #[u, v]
theorem KeptH.mono {xs : List V} {KV : Hp → Nat → V → Prop} (km : ∀ H H' i y, Same H H' → KV H i y → KV H' i y) {H H' : Hp} {jb : Option Nat} {its : Array Value} (s : Same H H') (h : KeptH xs KV H jb its) : KeptH xs KV H' jb its := by
  cases jb with
  | none => exact h
  | some j =>
    obtain ⟨x, y, u, v, h1, h2, h3, h4, h5⟩ := h
    exact ⟨x, y, u, v, h1, h2, km _ _ _ _ s h3, h4, h5⟩
section
variable {X : Cx} {pins : List (Addr × Obj)} {σ : St} {H0 : Hp} {a I S : Addr} {xs : List V} {KV : Hp → Nat → V → Prop} {bt : Nat → Nat → Bool} {key : Value} {kw : List (Str × Value)} {R : Result → Shared → Prop}
end
inductive MmKwH : List (Str × Value) → Value → List (Str × Value) → Prop where
  | one : MmKwH [] .none []
  | dflt (d : Value) : MmKwH [(Str.ofString "default", d)] .none [(Str.ofString "default", d)]
  | key (q : Addr) (d : Value) : MmKwH [(Str.ofString "key", .ref q), (Str.ofString "default", d)] (.ref q) [(Str.ofString "default", d)]
  | key1 (q : Addr) : MmKwH [(Str.ofString "key", .ref q)] (.ref q) []
section
variable {X : Cx} {pins : List (Addr × Obj)} {σ : St} {H : Hp} {s : Shared} {a : Addr} {xs : List V} {KV : Hp → Nat → V → Prop} {bt : Nat → Nat → Bool} {Q : VK}
end
end L2

namespace L2
open PySem PySem.Spec PyProof.Rows
/-! ### values that are compared as their codes are -/
structure Cmp (A : Around) (s : Shared) (u v : Value) (c c' : List Int) : Prop where
  eq : SeqAt.EqAt A s u v (decide (c = c'))
  lt : ∀ (prog : Program) (w : World) (E : Value → Shared → Prop) (Q : Value → Shared → Prop), Q (.bool (HT.lexLt c c')) s → wpAny (model prog w) A (richCompare .Lt u v) Q E s
section
variable {A : Around} {s : Shared} {a b : Addr} {u1 u2 u3 v1 v2 v3 : Value} {i j : Int} {c c' : List Int}
end
/-! ### the shapes: (a, b); (n, (a, b)); (d, (n, (a, b))) -/
/-! ### min, max of coded values; by a lambda -/
end L2

namespace L2
open PySem PySem.Spec PyProof.Rows
/-! ### len(d), d a dict with tuples as keys -/
end L2

namespace L2
open PySem PySem.Spec PyProof.Rows
/-! ### list(zip(a, b)): the pairs are kept -/
section
variable {P : Program} {w : World} {A : Around} {E : Value → Shared → Prop} {s : Shared}
abbrev IsZ2 (h : Heap) (z TI TO : Addr) (ad : Addr) (f : Bool) : Prop :=
  h.get? z = some { cls := .type "zip", dict := none, data := .fields #[rawInt ad, .bool f, .bool false, .ref TI, .ref TO], slots := #[] }
/-- the state of a zip whose first pair is held by another -/
structure ZOut (b1 b2 : Bool) (z TI TO i1 i2 l1 l2 ad : Addr) (k : Nat) (h : Heap) : Prop where
  zz : ∃ f : Bool, IsZ2 h z TI TO ad f
  ti : IsPair h TI (.ref i1) (.ref i2)
  al : ∃ o, h.get? ad = some o
  h1 : ZI b1 h i1 l1 k
  h2 : ZI b2 h i2 l2 k
  n1 : ad ≠ z
  n2 : ad ≠ i1
  n3 : ad ≠ i2
theorem alive_ {a : Addr} {o : Obj} {Q : Option Obj → Shared → Prop} (ho : s.heap.get? a = some o) (h : Q (some o) s) : wpAny (model P w) A (loadIfAlive a) Q E s := by
  have h' : Q (s.heap.get? a) s := by rw [ho]; exact h
  exact fun _ _ _ => h'
theorem notFree {z TI TO ad : Addr} {f : Bool} {oa : Obj} {Q : Bool → Shared → Prop} (zz : IsZ2 s.heap z TI TO ad f) (al : s.heap.get? ad = some oa)
    (h : ∀ h', IsZ2 h' z TI TO ad true → Heap.SameBut z s.heap h' → Q false { s with heap := h' }) : wpAny (model P w) A (Builtin.SmallTypes.ownedTupleIsFree (.ref z)) Q E s := by
  unfold Builtin.SmallTypes.ownedTupleIsFree
  refine wpAny_bind (wpAny_field zz rfl (x := rawInt ad) rfl ?_)
  show wpAny _ _ (loadIfAlive ((ad : Int).toNat) >>= _) _ _ _
  rw [Int.toNat_natCast]
  refine wpAny_bind (alive_ al ?_)
  simp only [Option.isNone_some, Bool.false_eq_true, if_false]
  refine wpAny_bind (wpAny_field zz rfl (x := .bool f) rfl ?_)
  cases f with
  | true =>
    rw [if_neg (show ¬ ((Value.bool true != Value.bool true) = true) from Bool.false_ne_true)]
    exact wpAny_pure (h s.heap zz (Heap.SameBut.refl _ _))
  | false =>
    rw [if_pos (show (Value.bool false != Value.bool true) = true from rfl)]
    refine wpAny_bind (wpAny_setField_rec zz (by simp) fun h3 he3 hs3 => ?_)
    exact wpAny_pure (h h3 he3 hs3)
theorem zip_out {b1 b2 : Bool} {z TI TO i1 i2 l1 l2 ad : Addr} {k : Nat} {xs ys : Array Value} {x y : Value} {Q : Value → Shared → Prop} (D : ZApart z TI TO i1 i2 l1 l2) (S : ZOut b1 b2 z TI TO i1 i2 l1 l2 ad k s.heap)
    (g1 : ZS b1 s.heap l1 xs) (g2 : ZS b2 s.heap l2 ys) (hx : xs[k]? = some x) (hy : ys[k]? = some y)
    (hQ : ∀ h', ZOut b1 b2 z TI TO i1 i2 l1 l2 ad (k + 1) h' → IsPair h' s.heap.objs.size x y →
      (∀ c o, c ≠ z → c ≠ i1 → c ≠ i2 → s.heap.get? c = some o → h'.get? c = some o) → Q (.ref s.heap.objs.size) { s with heap := h' }) :
    wpAny (model P w) A (Builtin.«zip.__next__» ⟨[.ref z], []⟩) (fun fin s' => ∃ v, fin = .done (.ret v) ∧ Q v s') E s := by
  obtain ⟨⟨f, zz⟩, ti, ⟨oa, al⟩, h1, h2, n1, n2, n3⟩ := S
  show wpAny _ _ (field (.ref z) 2 >>= _) _ _ _
  refine wpAny_bind (wpAny_field zz rfl (x := .bool false) rfl ?_)
  show wpAny _ _ (field (.ref z) 3 >>= _) _ _ _
  refine wpAny_bind (wpAny_field zz rfl (x := .ref TI) rfl (wpAny_bind (wpAny_seqItems ti rfl ?_)))
  show wpAny _ _ (Builtin.SmallTypes.ownedTupleIsFree (.ref z) >>= _) _ _ _
  refine wpAny_bind (notFree zz al fun H1 z1 k1 => ?_)
  simp only [Bool.false_eq_true, if_false]
  rw [← Array.forIn_toList]
  refine wpAny_bind ?_
  simp only [List.forIn_cons, List.forIn_nil]
  -- the first one
  refine wpAny_bind (wpAny_bind (wpAny_holding ?_))
  show wpAny _ _ (Builtin.SmallTypes.nextOf (.ref i1) >>= _) _ _ _
  refine wpAny_bind (nextOf_item (h1.at fun o e => k1.extBut _ o D.a3 e) (g1.at fun o e => k1.extBut _ o D.b1 e) hx fun H2 j1 k2 => wpAny_pure ?_)
  refine wpAny_pure ?_
  -- the second one
  refine wpAny_bind (wpAny_bind (wpAny_holding ?_))
  show wpAny _ _ (Builtin.SmallTypes.nextOf (.ref i2) >>= _) _ _ _
  have u2 : ∀ c o, c ≠ z → c ≠ i1 → s.heap.get? c = some o → H2.get? c = some o := fun c o c1 c3 e => k2.extBut _ _ c3 (k1.extBut _ _ c1 e)
  refine wpAny_bind (nextOf_item (h2.at fun o e => u2 _ o D.a4 (Ne.symm D.a10) e) (g2.at fun o e => u2 _ o D.c1 D.c3 e) hy fun H4 j2 k4 => wpAny_pure ?_)
  refine wpAny_pure (wpAny_pure ?_)
  refine wpAny_bind (wpAny_newTuple ?_ (by show 2 ≤ sizeLine; decide))
  have sz : H4.objs.size = s.heap.objs.size := by rw [k4.1, k2.1, k1.1]
  have u4 : ∀ c o, c ≠ z → c ≠ i1 → c ≠ i2 → s.heap.get? c = some o → H4.get? c = some o := fun c o c1 c3 c4 e => k4.extBut _ _ c4 (u2 c o c1 c3 e)
  have z4 : IsZ2 H4 z TI TO ad true := k4.extBut _ _ (Ne.symm D.a4) (k2.extBut _ _ (Ne.symm D.a3) z1)
  refine wpAny_pure ⟨_, rfl, ?_⟩
  show Q (.ref H4.objs.size) _
  have t8 : IsPair (H4.push { cls := .type "tuple", data := .seq #[x, y] }) H4.objs.size x y := Heap.get?_push_size _ rfl
  rw [sz] at t8 ⊢
  exact hQ _ ⟨⟨true, Heap.get?_push_of_some _ z4⟩, Heap.get?_push_of_some _ (u4 _ _ D.a1 D.a6 D.a7 ti), ⟨oa, Heap.get?_push_of_some _ (u4 _ _ n1 n2 n3 al)⟩, j1.at fun o e => Heap.get?_push_of_some _ (k4.extBut _ _ D.a10 e), j2.at fun o e => Heap.get?_push_of_some _ e, n1, n2, n3⟩ t8 fun c o c1 c3 c4 e => Heap.get?_push_of_some _ (u4 c o c1 c3 c4 e)
theorem zip_outStop {b1 b2 : Bool} {z TI TO i1 i2 l1 l2 ad : Addr} {k : Nat} {xs ys : Array Value} {Q : Fin → Shared → Prop} (hh : A.handled = none) (D : ZApart z TI TO i1 i2 l1 l2) (S : ZOut b1 b2 z TI TO i1 i2 l1 l2 ad k s.heap)
    (g1 : ZS b1 s.heap l1 xs) (g2 : ZS b2 s.heap l2 ys) (hend : xs[k]? = none ∨ ys[k]? = none)
    (hE : ∀ h' e, (∀ c o, c ≠ z → c ≠ i1 → c ≠ i2 → s.heap.get? c = some o → h'.get? c = some o) → (∃ o, h'.get? e = some o ∧ o.cls = .type "StopIteration") → E (.ref e) { s with heap := h' }) :
    wpAny (model P w) A (Builtin.«zip.__next__» ⟨[.ref z], []⟩) Q E s := by
  obtain ⟨⟨f, zz⟩, ti, ⟨oa, al⟩, h1, h2, n1, n2, n3⟩ := S
  show wpAny _ _ (field (.ref z) 2 >>= _) _ _ _
  refine wpAny_bind (wpAny_field zz rfl (x := .bool false) rfl ?_)
  show wpAny _ _ (field (.ref z) 3 >>= _) _ _ _
  refine wpAny_bind (wpAny_field zz rfl (x := .ref TI) rfl (wpAny_bind (wpAny_seqItems ti rfl ?_)))
  show wpAny _ _ (Builtin.SmallTypes.ownedTupleIsFree (.ref z) >>= _) _ _ _
  refine wpAny_bind (notFree zz al fun H1 z1 k1 => ?_)
  simp only [Bool.false_eq_true, if_false]
  rw [← Array.forIn_toList]
  refine wpAny_bind ?_
  simp only [List.forIn_cons, List.forIn_nil]
  refine wpAny_bind (wpAny_bind (wpAny_holding ?_))
  show wpAny _ _ (Builtin.SmallTypes.nextOf (.ref i1) >>= _) _ _ _
  have q1 := h1.at fun o e => k1.extBut _ o D.a3 e
  have q2 := g1.at fun o e => k1.extBut _ o D.b1 e
  cases hx : xs[k]? with
  | none =>
    refine wpAny_bind (nextOf_end hh q1 q2 hx fun H2 e k2 he => ?_)
    exact hE H2 e (fun c o c1 c3 _ q => k2 _ _ c3 (k1.extBut _ _ c1 q)) he
  | some x =>
    have hy : ys[k]? = none := by
      rcases hend with q | q
      · rw [hx] at q; cases q
      · exact q
    refine wpAny_bind (nextOf_item q1 q2 hx fun H2 j1 k2 => wpAny_pure ?_)
    refine wpAny_pure (wpAny_bind (wpAny_bind (wpAny_holding ?_)))
    show wpAny _ _ (Builtin.SmallTypes.nextOf (.ref i2) >>= _) _ _ _
    have u2 : ∀ c o, c ≠ z → c ≠ i1 → s.heap.get? c = some o → H2.get? c = some o := fun c o c1 c3 e => k2.extBut _ _ c3 (k1.extBut _ _ c1 e)
    refine wpAny_bind (nextOf_end hh (h2.at fun o e => u2 _ o D.a4 (Ne.symm D.a10) e) (g2.at fun o e => u2 _ o D.c1 D.c3 e) hy fun H4 e k4 he => ?_)
    exact hE H4 e (fun c o c1 c3 c4 q => k4 _ _ c4 (u2 c o c1 c3 q)) he
/-- the state of a zip, its pairs held or not yet made -/
def ZAny (b1 b2 : Bool) (z TI TO i1 i2 l1 l2 S : Addr) (k : Nat) (h : Heap) : Prop := ZSt b1 b2 z TI TO i1 i2 l1 l2 .none k h ∨ ∃ ad, ZOut b1 b2 z TI TO i1 i2 l1 l2 ad k h ∧ ad ≠ S
theorem ZAny.keep {b1 b2 : Bool} {z TI TO i1 i2 l1 l2 S : Addr} {k : Nat} {h h' : Heap} (Z : ZAny b1 b2 z TI TO i1 i2 l1 l2 S k h) (hS : S ∉ [z, TI, TO, i1, i2]) (e : ∀ b o, b ≠ S → h.get? b = some o → h'.get? b = some o) : ZAny b1 b2 z TI TO i1 i2 l1 l2 S k h' := by
  simp only [List.mem_cons, List.not_mem_nil, or_false, not_or] at hS
  obtain ⟨s1, s2, s3, s4, s5⟩ := hS
  rcases Z with ⟨z1, z2, ⟨a, c, z3⟩, y1, y2⟩ | ⟨ad, ⟨⟨f, z1⟩, z2, ⟨o, z3⟩, y1, y2, n1, n2, n3⟩, ne⟩
  · exact .inl ⟨e _ _ (Ne.symm s1) z1, e _ _ (Ne.symm s2) z2, ⟨a, c, e _ _ (Ne.symm s3) z3⟩, y1.at fun o q => e _ _ (Ne.symm s4) q, y2.at fun o q => e _ _ (Ne.symm s5) q⟩
  · exact .inr ⟨ad, ⟨⟨f, e _ _ (Ne.symm s1) z1⟩, e _ _ (Ne.symm s2) z2, ⟨o, e _ _ ne z3⟩, y1.at fun o q => e _ _ (Ne.symm s4) q, y2.at fun o q => e _ _ (Ne.symm s5) q, n1, n2, n3⟩, ne⟩
theorem ZAny.type {b1 b2 : Bool} {z TI TO i1 i2 l1 l2 S : Addr} {k : Nat} (Z : ZAny b1 b2 z TI TO i1 i2 l1 l2 S k s.heap) : s.TypeIs (.ref z) "zip" := by
  rcases Z with Z | ⟨ad, ⟨⟨f, z1⟩, _⟩, _⟩
  · exact ⟨_, Z.zz, rfl⟩
  · exact ⟨_, z1, rfl⟩
theorem next_any {b1 b2 : Bool} {z TI TO i1 i2 l1 l2 S : Addr} {k : Nat} {xs ys : Array Value} {x y : Value} {Q : Option Value → Shared → Prop} (D : ZApart z TI TO i1 i2 l1 l2) (Z : ZAny b1 b2 z TI TO i1 i2 l1 l2 S k s.heap) (hS : S < s.heap.objs.size)
    (g1 : ZS b1 s.heap l1 xs) (g2 : ZS b2 s.heap l2 ys) (hx : xs[k]? = some x) (hy : ys[k]? = some y)
    (hQ : ∀ h', ZAny b1 b2 z TI TO i1 i2 l1 l2 S (k + 1) h' → IsPair h' s.heap.objs.size x y →
      (∀ c o, c ∉ [z, TI, TO, i1, i2] → s.heap.get? c = some o → h'.get? c = some o) → Q (some (.ref s.heap.objs.size)) { s with heap := h' }) :
    wpAny (model P w) A (pyNext (.ref z)) Q E s := by
  have hT := Z.type
  unfold pyNext
  refine wpAny_bind (wpAny_attempt (wpAny_callSpecial?_slot (name := Str.ofString "__next__") hT F.slot_zip_next (wpAny_call_entry F.slot_zip_next hT F.entry_zip_next ?_ (F.args_zip_next_1 _))))
  rcases Z with Z | ⟨ad, Z, ne⟩
  · refine zip_item D Z g1 g2 hx hy fun h' q1 q2 q3 => wpAny_pure (hQ h' (.inr ⟨s.heap.objs.size, ⟨⟨false, q1.zz⟩, q1.ti, ⟨_, q2⟩, q1.h1, q1.h2, Nat.ne_of_gt (Heap.lt_size Z.zz), ?_, ?_⟩, Nat.ne_of_gt hS⟩) q2 fun c o hc e => ?_)
    · obtain ⟨o, e, _⟩ := Z.h1; exact Nat.ne_of_gt (Heap.lt_size e)
    · obtain ⟨o, e, _⟩ := Z.h2; exact Nat.ne_of_gt (Heap.lt_size e)
    · simp only [List.mem_cons, List.not_mem_nil, or_false, not_or] at hc
      exact q3 c o hc.1 hc.2.2.1 hc.2.2.2.1 hc.2.2.2.2 e
  · refine zip_out D Z g1 g2 hx hy fun h' q1 q2 q3 => wpAny_pure (hQ h' (.inr ⟨ad, q1, ne⟩) q2 fun c o hc e => ?_)
    simp only [List.mem_cons, List.not_mem_nil, or_false, not_or] at hc
    exact q3 c o hc.1 hc.2.2.2.1 hc.2.2.2.2 e
theorem next_anyEnd {b1 b2 : Bool} {z TI TO i1 i2 l1 l2 S : Addr} {k : Nat} {xs ys : Array Value} {Q : Option Value → Shared → Prop} (hh : A.handled = none) (D : ZApart z TI TO i1 i2 l1 l2) (Z : ZAny b1 b2 z TI TO i1 i2 l1 l2 S k s.heap)
    (g1 : ZS b1 s.heap l1 xs) (g2 : ZS b2 s.heap l2 ys) (hend : xs[k]? = none ∨ ys[k]? = none)
    (hQ : ∀ h', (∀ c o, c ∉ [z, TI, TO, i1, i2] → s.heap.get? c = some o → h'.get? c = some o) → Q none { s with heap := h' }) : wpAny (model P w) A (pyNext (.ref z)) Q E s := by
  rcases Z with Z | ⟨ad, Z, ne⟩
  · refine next_zip_end hh D Z g1 g2 hend fun h' k' => hQ h' fun c o hc e => ?_
    simp only [List.mem_cons, List.not_mem_nil, or_false, not_or] at hc
    exact k' c o hc.1 hc.2.2.1 hc.2.2.2.1 hc.2.2.2.2 e
  · have hT : s.TypeIs (.ref z) "zip" := by obtain ⟨f, z1⟩ := Z.zz; exact ⟨_, z1, rfl⟩
    unfold pyNext
    refine wpAny_bind (wpAny_attempt (wpAny_callSpecial?_slot (name := Str.ofString "__next__") hT F.slot_zip_next (wpAny_call_entry F.slot_zip_next hT F.entry_zip_next (zip_outStop hh D Z g1 g2 hend fun h' e hk he => ?_) (F.args_zip_next_1 _))))
    obtain ⟨o, ho, hc⟩ := he
    refine wpAny_bind (wpAny_isInstance (T := "StopIteration") (b := true) ⟨o, ho, hc⟩ isSubtype_stop (wpAny_pure (hQ _ fun c o hc e => ?_)))
    simp only [List.mem_cons, List.not_mem_nil, or_false, not_or] at hc
    exact hk c o hc.1 hc.2.2.2.1 hc.2.2.2.2 e
theorem zip_no_len : typeLookup (.type "zip") "__len__" = pure none := by rw [typeLookup_type, builtinLookup_eq_fast]; kernel_rfl
theorem zip_no_hint : typeLookup (.type "zip") "__length_hint__" = pure none := by rw [typeLookup_type, builtinLookup_eq_fast]; kernel_rfl
end
section
variable {X : Cx} {pins : List (Addr × Obj)} {σ : St} {A : Around} {R : Result → Shared → Prop} {b1 b2 : Bool} {z TI TO i1 i2 l1 l2 S : Addr} {xs ys : List V} {n : Nat}
/-- the pairs made so far -/
def PairsAt (H : Hp) (xs ys : List V) (as : List Addr) : Prop := ∀ (j : Nat) (a : Addr), as[j]? = some a → ∃ x y, xs[j]? = some x ∧ ys[j]? = some y ∧ H a = some (.tup [x, y])
theorem zip_loop (hh : A.handled = none) (D : ZApart z TI TO i1 i2 l1 l2) (hS : S ∉ [z, TI, TO, i1, i2]) (hn : n = min xs.length ys.length) (hz : n ≤ 1000000) (res : Value) {H0 : Hp} (q1 : SqB X.K b1 H0 l1 xs) (q2 : SqB X.K b2 H0 l2 ys)
    (sq : ∀ {H' : Hp} {b : Bool} {l : Addr} {us : List V}, Same H0 H' → SqB X.K b H0 l us → SqB X.K b H' l us)
    (hR : ∀ (s' : Shared) (H' : Hp) (acc : Array Value) (c : Nat) (as : List Addr), Inv X pins σ H' s' → Same H0 H' → (∀ b ∈ [S, z, TI, TO, i1, i2], FpOk X pins H' b) → s'.heap.get? S = some { cls := .type "list", dict := none, data := .seq acc c, slots := #[] } → acc.toList = as.map Value.ref → as.length = n → PairsAt H' xs ys as → R (.ok (.ret res)) s') :
    ∀ (k i : Nat) (s : Shared) (H : Hp) (acc : Array Value) (c : Nat) (as : List Addr), n - i = k → i ≤ n → Inv X pins σ H s → Same H0 H → (∀ b ∈ [S, z, TI, TO, i1, i2], FpOk X pins H b) → (∀ b ∈ [S, z, TI, TO, i1, i2], b < s.heap.objs.size) → ZAny b1 b2 z TI TO i1 i2 l1 l2 S i s.heap →
      s.heap.get? S = some { cls := .type "list", dict := none, data := .seq acc c, slots := #[] } → acc.toList = as.map Value.ref → as.length = i → PairsAt H xs ys as →
      codeAny (model X.prog X.w) A (.builtin "list.extend.loop" ⟨[.ref S, .ref z, res], []⟩) R s := by
  have hsl : sizeLine = 16777216 := sizeLine_eq
  intro k
  induction k with
  | zero =>
    intro i s H acc c as hk hi I S0 hf hbd Z hSo hacc hal PA
    have hin : i = n := by omega
    obtain ⟨its, r1, p1, _⟩ := I.seqB (sq S0 q1)
    obtain ⟨its2, r2, p2, _⟩ := I.seqB (sq S0 q2)
    have e1 := r1.length
    have e2 := r2.length
    refine codeAny_builtin PySem.F.entry_extend_loop ?_
    rw [Around.under_plainId PySem.F.plain_extend_loop _]
    show wpAny _ A.in1 (pyNext (.ref z) >>= _) _ _ _
    refine wpAny_bind (next_anyEnd (A := A.in1) hh D Z p1 p2 (by
      rcases Nat.le_total xs.length ys.length with q | q
      · exact .inl (by simp; omega)
      · exact .inr (by simp; omega)) fun h' k' => ?_)
    have I' : Inv X pins σ H { s with heap := h' } := I.turnedAll (t' := s.toks) (fp := [z, TI, TO, i1, i2]) (fun b hb => hf b (List.mem_cons_of_mem _ hb)) k'
    exact wpAny_pure (hR _ H acc c as I' S0 hf (k' S _ hS hSo) hacc (by omega) PA)
  | succ k ih =>
    intro i s H acc c as hk hi I S0 hf hbd Z hSo hacc hal PA
    have hlt : i < n := by omega
    obtain ⟨its, r1, p1, _⟩ := I.seqB (sq S0 q1)
    obtain ⟨its2, r2, p2, _⟩ := I.seqB (sq S0 q2)
    obtain ⟨x, hx⟩ : ∃ x, xs[i]? = some x := ⟨_, List.getElem?_eq_getElem (by omega)⟩
    obtain ⟨y, hy⟩ : ∃ y, ys[i]? = some y := ⟨_, List.getElem?_eq_getElem (by omega)⟩
    obtain ⟨u1, hu1, ru1⟩ := r1.get hx
    obtain ⟨u2, hu2, ru2⟩ := r2.get hy
    have hsz : acc.size = i := by rw [← Array.length_toList, hacc, List.length_map, hal]
    have hSl : S < s.heap.objs.size := Heap.lt_size hSo
    refine codeAny_builtin PySem.F.entry_extend_loop ?_
    rw [Around.under_plainId PySem.F.plain_extend_loop _]
    show wpAny _ A.in1 (pyNext (.ref z) >>= _) _ _ _
    refine wpAny_bind (next_any D Z hSl p1 p2 (by simpa using hu1) (by simpa using hu2) fun h' Z' t' k' => ?_)
    have hn' : H s.heap.objs.size = none := I.hok.fresh (Nat.le_refl _)
    have I1 : Inv X pins σ (upd H s.heap.objs.size (.tup [x, y])) { s with heap := h' } := I.turnedLaid (t' := s.toks) (o' := .tup [x, y]) (fp := [z, TI, TO, i1, i2]) (fun b hb => hf b (List.mem_cons_of_mem _ hb)) k' (Nat.le_refl _)
      ⟨by show 2 ≤ sizeLine; decide, [u1, u2], .cons ru1 (.cons ru2 .nil), ⟨_, t', rfl, _, rfl⟩⟩
    have hS' := k' S _ hS hSo
    have S1 : Same H (upd H s.heap.objs.size (.tup [x, y])) := Same.lay hn'
    have e1 : upd H s.heap.objs.size (.tup [x, y]) s.heap.objs.size = some (.tup [x, y]) := upd_same
    have lt : ∀ b ∈ [S, z, TI, TO, i1, i2], b ≠ s.heap.objs.size := fun b hb => Nat.ne_of_lt (hbd b hb)
    have hf1 : ∀ b ∈ [S, z, TI, TO, i1, i2], FpOk X pins (upd H s.heap.objs.size (.tup [x, y])) b := fun b hb => by
      obtain ⟨f0, fr⟩ := hf b hb
      exact ⟨(upd_ne (lt b hb)).trans f0, fr⟩
    generalize upd H s.heap.objs.size (.tup [x, y]) = H1 at I1 S1 e1 hf1
    have szl : s.heap.objs.size < h'.objs.size := Heap.lt_size t'
    generalize s.heap.objs.size = ad at *
    show wpAny _ A.in1 (updateSeq S (·.push (Value.ref ad)) >>= _) _ _ _
    refine wpAny_bind ?_
    have sb := Heap.SameBut.update h' S (Obj.mapSeq (·.push (Value.ref ad)))
    have up : ∀ b o, b ≠ S → h'.get? b = some o → (h'.update S (Obj.mapSeq (·.push (Value.ref ad)))).get? b = some o := fun b o hb e => (sb.2 b hb).trans e
    have fS := hf1 S (List.mem_cons_self ..)
    have I2 : Inv X pins σ H1 { s with heap := h'.update S (Obj.mapSeq (·.push (Value.ref ad))) } := Inv.turned (s := { s with heap := h' }) I1 (t' := s.toks) (it := S) (fun b o hb e => up b o hb e) fS.1 fS.2.1 fS.2.2.2.1 fS.2.2.2.2.1 fS.2.2.2.2.2
    refine wpAny_updateSeq hS' rfl (wpAny_pure ⟨plainId_quiet PySem.F.plain_extend_loop _, ih (i + 1) _ H1 (acc.push (Value.ref ad)) _ (as ++ [ad]) (by omega) hlt I2 (S0.trans S1) hf1 (fun b hb => ?_) (Z'.keep hS up) (Heap.get?_update_self _ hS' rfl)
      (by rw [Array.toList_push, hacc, List.map_append]; rfl) (by rw [List.length_append, hal]; rfl) ?_⟩) (by rw [hsz]; omega) (by show (acc.push (Value.ref ad)).size ≤ sizeLine + 1; rw [Array.size_push, hsz]; omega)
    · show b < (h'.update S (Obj.mapSeq (·.push (Value.ref ad)))).objs.size
      rw [Heap.size_update]
      exact Nat.lt_trans (hbd b hb) szl
    · intro j b hj
      rcases Nat.lt_trichotomy j as.length with h1 | h1 | h1
      · rw [List.getElem?_append_left h1] at hj
        obtain ⟨x', y', e2, e3, e4⟩ := PA j b hj
        exact ⟨x', y', e2, e3, S1 _ _ e4⟩
      · subst h1
        have hb : ad = b := by simpa using hj
        subst hb
        exact ⟨x, y, by rw [hal]; exact hx, by rw [hal]; exact hy, e1⟩
      · have hnone : (as ++ [ad])[j]? = none := List.getElem?_eq_none (by rw [List.length_append, List.length_singleton]; omega)
        rw [hnone] at hj; cases hj
theorem zip_extend {s : Shared} {H0 : Hp} (hh : A.handled = none) (D : ZApart z TI TO i1 i2 l1 l2) (hS : S ∉ [z, TI, TO, i1, i2]) (hz : min xs.length ys.length ≤ 1000000) (res : Value) (c₀ : Nat) (q1 : SqB X.K b1 H0 l1 xs) (q2 : SqB X.K b2 H0 l2 ys)
    (sq : ∀ {H' : Hp} {b : Bool} {l : Addr} {us : List V}, Same H0 H' → SqB X.K b H0 l us → SqB X.K b H' l us)
    (I : Inv X pins σ H0 s) (hf : ∀ b ∈ [S, z, TI, TO, i1, i2], FpOk X pins H0 b) (hbd : ∀ b ∈ [S, z, TI, TO, i1, i2], b < s.heap.objs.size) (Z : ZSt b1 b2 z TI TO i1 i2 l1 l2 .none 0 s.heap)
    (hSo : s.heap.get? S = some { cls := .type "list", data := .seq #[] c₀ })
    (hR : ∀ (s' : Shared) (H' : Hp) (acc : Array Value) (c : Nat) (as : List Addr), Inv X pins σ H' s' → Same H0 H' → (∀ b ∈ [S, z, TI, TO, i1, i2], FpOk X pins H' b) → s'.heap.get? S = some { cls := .type "list", dict := none, data := .seq acc c, slots := #[] } → acc.toList = as.map Value.ref → as.length = min xs.length ys.length → PairsAt H' xs ys as → R (.ok (.ret res)) s') :
    wpAny (model X.prog X.w) A.in1 (Builtin.List.listExtendWith (.ref S) (.ref z) res)
      (fun fin s' => match fin with | .done f => R (.ok f) s' | .again c' => c'.quiet = true ∧ codeAny (model X.prog X.w) A c' R s') (fun e s' => R (.error e) s') s := by
  have hSz : S ≠ z := fun e => hS (by rw [e]; simp)
  have hT : s.TypeIs (.ref z) "zip" := ⟨_, Z.zz, rfl⟩
  unfold Builtin.List.listExtendWith
  refine wpAny_bind (wpAny_typeOf hT ?_)
  have h1 : Builtin.List.listSameRef (.ref S) (.ref z) = false := by simp [Builtin.List.listSameRef, hSz]
  have h2 : (Value.type "zip" == Value.type "list") = false := by decide
  have h3 : (Value.type "zip" == Value.type "tuple") = false := by decide
  simp only [h1, h2, h3, Bool.or_false, Bool.false_eq_true, if_false]
  refine wpAny_bind (wpAny_pyIter_zip Z.zz ?_)
  refine wpAny_bind (wpAny_holding ?_)
  unfold Builtin.List.listLengthHint
  refine wpAny_bind (wpAny_specialOf hT zip_no_len ?_)
  show wpAny _ A.in1 (specialOf (Value.ref z) (Str.ofString "__length_hint__") >>= _) _ _ _
  refine wpAny_bind (wpAny_specialOf hT zip_no_hint ?_)
  refine wpAny_pure ?_
  show wpAny _ A.in1 (rule "list.extend.makes-room" >>= fun _ => Builtin.List.listTouch (.ref S) >>= fun _ =>
    again (.builtin "list.extend.loop" ⟨[.ref S, .ref z, res], []⟩)) _ _ _
  refine wpAny_bind (wpAny_rule ?_)
  refine wpAny_bind ?_
  show wpAny _ A.in1 (updateSeq S (·.push .none) >>= fun _ => updateSeq S (·.pop)) _ _ _
  refine wpAny_bind (wpAny_updateSeq hSo rfl ?_)
  have hS₂ := Heap.get?_update_self (Obj.mapSeq (·.push Value.none)) hSo rfl
  refine wpAny_updateSeq (hz := by seq_fits) hS₂ rfl ?_
  have hS₃ := Heap.get?_update_self (Obj.mapSeq (·.pop)) hS₂ rfl
  have oth : ∀ b o, b ≠ S → s.heap.get? b = some o → ((s.heap.update S (Obj.mapSeq (·.push Value.none))).update S (Obj.mapSeq (·.pop))).get? b = some o :=
    fun b o hb e => (Heap.get?_update_other _ _ (Ne.symm hb)).trans ((Heap.get?_update_other _ _ (Ne.symm hb)).trans e)
  have fS := hf S (List.mem_cons_self ..)
  have I2 : Inv X pins σ H0 { s with heap := (s.heap.update S (Obj.mapSeq (·.push Value.none))).update S (Obj.mapSeq (·.pop)) } := I.turned (t' := s.toks) (it := S) oth fS.1 fS.2.1 fS.2.2.2.1 fS.2.2.2.2.1 fS.2.2.2.2.2
  exact wpAny_pure ⟨plainId_quiet PySem.F.plain_extend_loop _, zip_loop hh D hS rfl hz res q1 q2 sq hR _ 0 _ H0 _ _ [] rfl (Nat.zero_le _) I2 (Same.refl _) hf (fun b hb => by
    show b < ((s.heap.update S (Obj.mapSeq (·.push Value.none))).update S (Obj.mapSeq (·.pop))).objs.size
    rw [Heap.size_update, Heap.size_update]; exact hbd b hb) (ZAny.keep (.inl Z) hS oth) hS₃ rfl rfl (fun j a hj => by simp at hj)⟩
theorem call_listZ {s : Shared} {H0 : Hp} {Q : VK} {E : Value → Shared → Prop} (hh : A.handled = none) (D : ZApart z TI TO i1 i2 l1 l2) (hz : min xs.length ys.length ≤ 1000000) (q1 : SqB X.K b1 H0 l1 xs) (q2 : SqB X.K b2 H0 l2 ys)
    (sq : ∀ {H' : Hp} {b : Bool} {l : Addr} {us : List V}, Same H0 H' → SqB X.K b H0 l us → SqB X.K b H' l us)
    (I : Inv X pins σ H0 s) (hf : ∀ b ∈ [z, TI, TO, i1, i2], FpOk X pins H0 b) (Z : ZSt b1 b2 z TI TO i1 i2 l1 l2 .none 0 s.heap)
    (hQ : ∀ (p : Addr) (as : List Addr) (H' : Hp), H0 p = none → H' p = none → Same H0 H' → as.length = min xs.length ys.length → PairsAt H' xs ys as → Q (.ref p) (upd H' p (.lst (as.map V.ref)))) :
    wpAny (model X.prog X.w) A (call (.type "list") [.ref z]) (EP X pins σ Q) E s := by
  have hsl : sizeLine = 16777216 := sizeLine_eq
  have hbd : ∀ b ∈ [z, TI, TO, i1, i2], b < s.heap.objs.size := fun b hb => by
    simp only [List.mem_cons, List.not_mem_nil, or_false] at hb
    obtain ⟨z1, z2, ⟨a, c, z3⟩, ⟨o1, y1, _⟩, ⟨o2, y2, _⟩⟩ := Z
    rcases hb with rfl | rfl | rfl | rfl | rfl
    · exact Heap.lt_size z1
    · exact Heap.lt_size z2
    · exact Heap.lt_size z3
    · exact Heap.lt_size y1
    · exact Heap.lt_size y2
  have hS : s.heap.objs.size ∉ [z, TI, TO, i1, i2] := fun h => Nat.lt_irrefl _ (hbd _ h)
  have hn0 : H0 s.heap.objs.size = none := I.hok.fresh (Nat.le_refl _)
  have fS : FpOk X pins H0 s.heap.objs.size := I.fpOk (Nat.le_refl _) hn0
  refine callType_codes (Q₁ := fun obj s₁ => obj = .ref s.heap.objs.size ∧ s₁ = { s with heap := s.heap.push { cls := .type "list", data := .seq #[] } }) PySem.F.called_list (PySem.F.typeCall_list_1 _) PySem.F.entry_list_init
    (code_list_new _ ⟨rfl, rfl⟩) fun obj s₁ h₁ => ?_
  obtain ⟨rfl, rfl⟩ := h₁
  have hSo : (s.heap.push { cls := .type "list", data := .seq #[] }).get? s.heap.objs.size = some { cls := .type "list", data := .seq #[] } := Heap.get?_push_size _ rfl
  refine ⟨⟨_, hSo, rfl⟩, PySem.F.args_list_init_2 _ _, ?_⟩
  have I1 : Inv X pins σ H0 { s with heap := s.heap.push { cls := .type "list", data := .seq #[] } } := I.kept (t' := s.toks) fun b o e => Heap.get?_push_of_some _ e
  have Z1 : ZSt b1 b2 z TI TO i1 i2 l1 l2 .none 0 (s.heap.push { cls := .type "list", data := .seq #[] }) := by
    obtain ⟨z1, z2, ⟨a, c, z3⟩, y1, y2⟩ := Z
    exact ⟨Heap.get?_push_of_some _ z1, Heap.get?_push_of_some _ z2, ⟨a, c, Heap.get?_push_of_some _ z3⟩, y1.at fun o e => Heap.get?_push_of_some _ e, y2.at fun o e => Heap.get?_push_of_some _ e⟩
  have hlt : s.heap.objs.size < (s.heap.push { cls := .type "list", data := .seq #[] }).objs.size := Heap.lt_size hSo
  generalize s.heap.objs.size = S at *
  generalize s.heap.push { cls := .type "list", data := .seq #[] } = h1 at *
  show wpAny _ _ (do let old ← Builtin.List.listItems (.ref S); Builtin.List.listUpdate (.ref S) (fun _ => #[]); letGo old.toList.reverse; Builtin.List.listExtendWith (.ref S) (.ref z) .none) _ _ _
  refine wpAny_bind ?_
  unfold Builtin.List.listItems
  refine wpAny_bind (wpAny_seqItems hSo rfl (wpAny_pure ?_))
  show wpAny _ _ (updateSeq S (fun _ => #[]) >>= fun _ => letGo (#[] : Array Value).toList.reverse >>= fun _ => Builtin.List.listExtendWith (.ref S) (.ref z) .none) _ _ _
  refine wpAny_bind (wpAny_updateSeq hSo rfl ?_)
  have hS₂ := Heap.get?_update_self (Obj.mapSeq (fun _ => (#[] : Array Value))) hSo rfl
  have oth : ∀ b o, b ≠ S → h1.get? b = some o → (h1.update S (Obj.mapSeq (fun _ => (#[] : Array Value)))).get? b = some o :=
    fun b o hb e => (Heap.get?_update_other _ _ (Ne.symm hb)).trans e
  refine wpAny_bind (wpAny_letGo ?_)
  have I2 : Inv X pins σ H0 { s with heap := h1.update S (Obj.mapSeq (fun _ => (#[] : Array Value))) } := Inv.turned (s := { s with heap := h1 }) I1 (t' := s.toks) (it := S) oth fS.1 fS.2.1 fS.2.2.2.1 fS.2.2.2.2.1 fS.2.2.2.2.2
  have Z2 : ZSt b1 b2 z TI TO i1 i2 l1 l2 .none 0 (h1.update S (Obj.mapSeq (fun _ => (#[] : Array Value)))) := by
    simp only [List.mem_cons, List.not_mem_nil, or_false, not_or] at hS
    obtain ⟨s1, s2, s3, s4, s5⟩ := hS
    obtain ⟨z1, z2, ⟨a, c, z3⟩, y1, y2⟩ := Z1
    exact ⟨oth _ _ (Ne.symm s1) z1, oth _ _ (Ne.symm s2) z2, ⟨a, c, oth _ _ (Ne.symm s3) z3⟩, y1.at fun o e => oth _ _ (Ne.symm s4) e, y2.at fun o e => oth _ _ (Ne.symm s5) e⟩
  refine zip_extend (s := { s with heap := h1.update S (Obj.mapSeq (fun _ => (#[] : Array Value))) }) (A := A.in1) hh D hS hz .none _ q1 q2 sq I2 (fun b hb => ?_) (fun b hb => ?_) Z2 hS₂ fun s' H' acc c as I' S0 hf' hSo' hacc hal PA => ?_
  · rcases List.mem_cons.mp hb with rfl | hb
    · exact fS
    · exact hf b hb
  · show b < (h1.update S (Obj.mapSeq (fun _ => (#[] : Array Value)))).objs.size
    rw [Heap.size_update]
    rcases List.mem_cons.mp hb with rfl | hb
    · exact hlt
    · exact Nat.lt_trans (hbd b hb) hlt
  · have fS' := hf' S (List.mem_cons_self ..)
    refine ⟨rfl, .ref S, _, Inv.adopt (t' := s'.toks) (h' := s'.heap) (fp := [S]) (p := S) (o' := .lst (as.map V.ref)) I' (fun b hb => ?_) (List.mem_singleton.mpr rfl) (fun c o _ e => e) ⟨?_, acc.toList, c, ?_, ?_⟩, rfl, hQ S as H' hn0 fS'.1 S0 hal PA⟩
    · rw [List.mem_singleton.mp hb]; exact fS'
    · rw [List.length_map, hal]; omega
    · rw [hacc]
      clear hacc hal PA hSo'
      induction as with
      | nil => exact .nil
      | cons a r ih => exact .cons rfl ih
    · simpa using hSo'
end
theorem SqB.same {K : PySem.W.Frag} {H H' : Hp} {b : Bool} {l : Addr} {us : List V} (S : Same H H') (h : SqB K b H l us) : SqB K b H' l us := by
  have rd : ∀ o, Rd H l o → Rd H' l o := fun o r => by
    rcases r with r | ⟨ob, r⟩
    · exact .inl (S _ _ r)
    · exact .inr ⟨ob, S _ _ r⟩
  cases b with
  | true =>
    rcases (show SqT K H l us from h) with r | r
    · exact Or.inl (rd _ r)
    · exact Or.inr r
  | false =>
    rcases (show SqL K H l us from h) with r | r
    · exact Or.inl (rd _ r)
    · exact Or.inr r
section
variable {X : Cx}
/-- list(zip(a, b)) -/
def tLZ (K : PySem.W.Frag) (b1 b2 : Bool) (ta : TA) : TE := fun σ H Q => ta σ H fun vs H1 => ∃ (a1 a2 : Addr) (xs ys : List V), vs = [.ref a1, .ref a2] ∧ SqB K b1 H1 a1 xs ∧ SqB K b2 H1 a2 ys ∧ min xs.length ys.length ≤ 1000000 ∧
  ∀ (p : Addr) (as : List Addr) (H' : Hp), H1 p = none → H' p = none → Same H1 H' → as.length = min xs.length ys.length → PairsAt H' xs ys as → Q (.ref p) (upd H' p (.lst (as.map V.ref)))
theorem pe_listZip {a b : Expr} {ta : TA} {p p2 pos pos2 : Pos} (b1 b2 : Bool) (hc : X.calm = true) (hgl : Gl X "list") (hml : X.mg "list" = none) (hg : Gl X "zip") (hm : X.mg "zip" = none) (ha : PA X [a, b] ta) (hs : starEach [a, b] X.env = [(false, eval a X.env), (false, eval b X.env)] := by rfl) (hs2 : starEach [b] X.env = [(false, eval b X.env)] := by rfl)
    (he : starEach [.Call (.Name "zip" p2) [a, b] [] pos2] X.env = [(false, eval (.Call (.Name "zip" p2) [a, b] [] pos2) X.env)] := by rfl) :
    PE X (.Call (.Name "list" p) [.Call (.Name "zip" p2) [a, b] [] pos2] [] pos) (tLZ X.K b1 b2 ta) := by
  intro pins s σ H Q I h
  refine wpAny_Call_Name_kw (ld_blt I hgl hml rfl (PyProof.Rows.callWith_type1 ?_ he (by rfl)))
  rw [he]
  show wpAny _ _ (spliced ((false, eval (.Call (.Name "zip" p2) [a, b] [] pos2) X.env) :: backTo pos [])) _ _ s
  refine Calls.spliced_cons (Call_ (ld_blt I hg hm boot_zip (PyProof.Rows.callWith_type1 (thn (ha pos2 pins s σ H _ I h) fun us s1 ⟨vs, H1, I1, r1, q1⟩ => ?_) (by rw [hs, hs2]) (by rw [hs2]; rfl))))
  obtain ⟨a1, a2, xs, ys, e, q1, q2, hz, q⟩ := q1
  subst e
  obtain ⟨u, v, rfl, ru, rv⟩ := vals2 r1
  cases ru
  cases rv
  obtain ⟨its, w1, p1, _⟩ := I1.seqB q1
  obtain ⟨its2, w2, p2, _⟩ := I1.seqB q2
  have l1 : a1 < s1.heap.objs.size := by obtain ⟨o, e, _⟩ := p1; exact Heap.lt_size e
  have l2 : a2 < s1.heap.objs.size := by obtain ⟨o, e, _⟩ := p2; exact Heap.lt_size e
  refine call_zip p1 p2 fun h' st k => ?_
  refine Calls.spliced_nil ?_
  refine call_listZ (s := { s1 with heap := h' }) (I.ok.hd hc) (zapart_new l1 l2) hz q1 q2 (fun S h => h.same S) (I1.kept (t' := s1.toks) k) (fun c hc => ?_) st q
  have hle : s1.heap.objs.size ≤ c := by
    simp only [List.mem_cons, List.not_mem_nil, or_false] at hc
    rcases hc with rfl | rfl | rfl | rfl | rfl
    · exact Nat.le_add_right _ 4
    · exact Nat.le_add_right _ 2
    · exact Nat.le_add_right _ 3
    · exact Nat.le_refl _
    · exact Nat.le_add_right _ 1
  exact I1.fpOk hle (I1.hok.fresh hle)
end
end L2

namespace L2
open PySem PySem.Spec PyProof.Rows
/-! ### a def of the top, as a caller wants it -/
structure DefAt (K : PySem.W.Frag) (mg : Str → Option Value) (x : Str) (st : Stmt) (ps : List Str) (f : Addr) (fd : FuncData) : Prop where
  fn : Fun K x x st f fd
  mg : mg x = some (.ref f)
  bd : Binds K fd ps []
/-- a walk's kinds, one or the other -/
theorem PI.or {X : Cx} {tg it : Expr} {wi wi' : TI} (h : PI X tg it wi) (h' : PI X tg it wi') : PI X tg it (fun σ H R => wi σ H R ∨ wi' σ H R) := fun pins s σ H R I q => by
  rcases q with q | q
  · exact h pins s σ H R I q
  · exact h' pins s σ H R I q
end L2
namespace My
open PySem L2
def top (i : Nat) : Stmt := PySem.Challenge.pw_toldsums_k26_whole_planted_rows_parted.main.body.getD i (.Pass ⟨0, 0, 0, 0⟩)
/-- what is no name of the module -/
structure Txt (mg : Str → Option Value) : Prop where
  b_len : mg "len" = none
  b_sum : mg "sum" = none
  b_range : mg "range" = none
  b_tuple : mg "tuple" = none
  b_list : mg "list" = none
  b_int : mg "int" = none
  b_str : mg "str" = none
  b_bool : mg "bool" = none
  b_isinstance : mg "isinstance" = none
  b_min : mg "min" = none
  b_max : mg "max" = none
  b_zip : mg "zip" = none
  b_reversed : mg "reversed" = none
  b_sorted : mg "sorted" = none
  b_abs : mg "abs" = none
  b_all : mg "all" = none
  b_any : mg "any" = none
  b_set : mg "set" = none
  b_ValueError : mg "ValueError" = none
/-- what else stood, stands -/
def Sv (d c : Addr) (H H' : Hp) : Prop := ∀ b o, H b = some o → b ≠ d → b ≠ c → H' b = some o
theorem Sv.refl {d c : Addr} (H : Hp) : Sv d c H H := fun _ _ h _ _ => h
theorem Sv.trans {d c : Addr} {H H1 H2 : Hp} (a : Sv d c H H1) (b : Sv d c H1 H2) : Sv d c H H2 := fun x o h n1 n2 => b x o (a x o h n1 n2) n1 n2
structure Deck (H : Hp) (d c : Addr) : Prop where
  dk : ∃ (a sd : Int), H d = some (.lst [.ref c, .int a, .int sd])
  cs : ∃ ns : List Int, H c = some (.lst (ns.map V.int)) ∧ 0 < ns.length
theorem Deck.ne {H : Hp} {d c : Addr} (D : Deck H d c) : d ≠ c := by
  obtain ⟨⟨a, sd, h1⟩, ns, h2, hn⟩ := D
  refine ne_of h1 h2 fun e => ?_
  injection e with e
  cases ns with
  | nil => cases e
  | cons n r => rw [List.map_cons] at e; injection e with e1 _; cases e1
def spTake : Sp := fun vs H Q _ => ∃ (d c : Addr) (many : Int), vs = [.ref d, .int many] ∧ Deck H d c ∧ 0 < many ∧ many < 18446744073709551616 ∧
  ∀ (r : Int) (H' : Hp), 0 ≤ r → r < many → Deck H' d c → Sv d c H H' → Q (.int r) H'
theorem mod_lt (x m : Int) (h : 0 < m) : 0 ≤ x % m ∧ x % m < m := ⟨Int.emod_nonneg _ (by omega), Int.emod_lt_of_pos _ h⟩
theorem mulL {x : Int} (y m : Int) (h : 0 < m) (hm : m < 2 ^ 64) : CMul (x % m) y := by
  have := mod_lt x m h
  left
  omega
section
variable {P : Program} {w : World} {K : PySem.W.Frag} {mg : Str → Option Value} {base : Heap}
abbrev s_law_take : Stmt := top 16
theorem sc_law_take : FnScope ["deck", "many", "at", "cell", "one"] ["deck", "many"] (defScope s_law_take) := ⟨rfl, rfl, rfl, by decide +kernel, rfl, by decide +kernel, by decide +kernel⟩
theorem ok_take {f : Addr} {fd : FuncData} (F : Fun K "_law_take" "_law_take" s_law_take f fd) (T : Txt mg) : FnOk P w K mg base CX0 1 f fd ["deck", "many"] spTake := by
  refine F.ok sc_law_take (fun vs H Q E h => ?_) (fun cdv A outer s H vs Q E hr h => ?_)
  · obtain ⟨d, c, many, rfl, _⟩ := h
    rfl
  · obtain ⟨d, c, many, rfl, D, h0, h1, k⟩ := h
    have ndc := D.ne
    obtain ⟨⟨a, sd, hd⟩, ns, hc, hn⟩ := D
    refine ⟨_, (pss_cons (ps_set (i := 2) sc_law_take.nd rfl (Or.inl rfl) (pe_op op_mod (pe_ix (ixL (K := K) rfl) (pv 0) pe_int (fun _ _ => rfl)) (pe_callB (cLen (K := K) rfl) (by rfl) T.b_len PyProof.Rows.Boot.«len» (pa_cons (pe_ix (ixL (K := K) rfl) (pv 0) pe_int (fun _ _ => rfl)) pa_nil))))
      (pss_cons (ps_asg (pe_op op_add (pe_ix (ixL (K := K) rfl) (pv 0) pe_int (fun _ _ => rfl)) pe_int) (pg_sub (pv 0) pe_int set_list))
      (pss_cons (ps_set (i := 3) sc_law_take.nd rfl (Or.inl rfl) (pe_ix (ixL (K := K) rfl) (pe_ix (ixL (K := K) rfl) (pv 0) pe_int (fun _ _ => rfl)) (pv 2) (fun _ _ => rfl)))
      (pss_cons (ps_if (PW.pt (pw_or (pt_cmpR op_eq (pv 3) pe_int (nomark _)) (pw_or1 (pt_cmpR op_eq (pv 3) (pe_un un_neg pe_int) (nomark _)))))
        (pss_cons (ps_set (i := 4) sc_law_take.nd rfl (Or.inl rfl) (pe_op op_mod (pe_op op_mul (pe_op op_mod (pe_op op_add (pe_ix (ixL (K := K) rfl) (pv 0) pe_int (fun _ _ => rfl)) (pe_op op_mul pe_int (pe_ix (ixL (K := K) rfl) (pv 0) pe_int (fun _ _ => rfl)))) pe_int) pe_int) pe_int))
        (pss_cons (ps_set (i := 4) sc_law_take.nd rfl (Or.inl rfl) (pe_op op_mod (pe_op op_mul (pe_op op_mod (pe_op op_add (pe_op op_mul (pv 4) (pv 4)) (pe_op op_mul pe_int (pe_ix (ixL (K := K) rfl) (pv 0) pe_int (fun _ _ => rfl)))) pe_int) pe_int) pe_int))
        (pss_one (ps_ret (pe_op op_mod (pe_op op_fdivW (pv 4) pe_int) (pv 1))))))
        pss_nil)
      (pss_cons (ps_asg (pe_op op_fdivW (pv 3) (pv 1)) (pg_sub (pe_ix (ixL (K := K) rfl) (pv 0) pe_int (fun _ _ => rfl)) (pv 2) set_list))
      (pss_one (ps_ret (pe_op op_mod (pv 3) (pv 1))))))))), ?_⟩
    have hl : (0 : Int) < ((ns.map V.int).length : Int) := by rw [List.length_map]; omega
    -- at = deck[1] % len(deck[0])
    refine ⟨_, rfl, d, _, 1, _, rfl, rfl, SqL.of hd, rfl, _, rfl, d, _, 0, _, rfl, rfl, SqL.of hd, rfl, c, _, rfl, .inl (SqL.of hc), _, _, rfl, rfl, hl, ?_⟩
    -- deck[1] = deck[1] + 1
    refine ⟨_, rfl, d, _, 1, _, rfl, rfl, SqL.of hd, rfl, _, _, rfl, rfl, _, rfl, d, _, 1, 1, rfl, rfl, hd, rfl, ?_⟩
    have hd1 : ∀ o, (upd H d o) d = some o := fun o => upd_same
    have hc1 : ∀ o, (upd H d o) c = some (.lst (ns.map V.int)) := fun o => by rw [upd_ne (Ne.symm ndc)]; exact hc
    have ⟨m0, m1⟩ := mod_lt a ((ns.map V.int).length : Int) hl
    obtain ⟨j, hj⟩ : ∃ j : Nat, a % ((ns.map V.int).length : Int) = (j : Int) := ⟨(a % ((ns.map V.int).length : Int)).toNat, by omega⟩
    have hjl : j < ns.length := by rw [List.length_map] at m1 hj; omega
    have hat : (ns.map V.int)[j]? = some (V.int (ns[j])) := by rw [List.getElem?_map, List.getElem?_eq_getElem hjl]; rfl
    have hix : ixN (ns.map V.int).length (a % ((ns.map V.int).length : Int)) = some j := by
      rw [hj]; unfold ixN; rw [if_pos (by omega), if_pos (by rw [List.length_map]; omega)]; simp
    -- cell = deck[0][at]
    refine ⟨_, rfl, d, _, 0, _, rfl, rfl, SqL.of upd_same, rfl, _, rfl, c, _, _, V.int ns[j], rfl, rfl, SqL.of (hc1 _), by rw [hj]; exact atI_nat hat, ?_⟩
    have D1 : Deck (upd H d (.lst [.ref c, .int (a + 1), .int sd])) d c := ⟨⟨_, _, upd_same⟩, ns, hc1 _, hn⟩
    have S1 : Sv d c H (upd H d (.lst [.ref c, .int (a + 1), .int sd])) := fun b o e n1 n2 => by rw [upd_ne n1]; exact e
    -- if cell == 0 or cell == -1
    refine ⟨_, rfl, rfl, _, rfl, ite2 (fun e => iteT ?b1) (fun e => ⟨_, rfl, 1, rfl, rfl, _, rfl, ite2 (fun e => ?b2) (fun e => ?rest)⟩)⟩
    case b1 | b2 =>
      refine ⟨_, rfl, d, _, 2, _, rfl, rfl, SqL.of upd_same, rfl, _, rfl, d, _, 1, _, rfl, rfl, SqL.of upd_same, rfl, _, _, rfl, rfl, .inl ⟨by decide, by decide⟩, _, _, rfl, rfl, _, _, rfl, rfl, (by show (0 : Int) < _; decide), _, _, rfl, rfl, mulL _ _ (by decide) (by decide), _, _, rfl, rfl, (by show (0 : Int) < _; decide), ?_⟩
      refine ⟨_, rfl, _, rfl, _, _, rfl, rfl, mulL _ _ (by decide) (by decide), _, rfl, d, _, 1, _, rfl, rfl, SqL.of upd_same, rfl, _, _, rfl, rfl, .inl ⟨by decide, by decide⟩, _, _, rfl, rfl, _, _, rfl, rfl, (by show (0 : Int) < _; decide), _, _, rfl, rfl, mulL _ _ (by decide) (by decide), _, _, rfl, rfl, (by show (0 : Int) < _; decide), ?_⟩
      refine ⟨_, rfl, _, _, rfl, rfl, ⟨by decide, by decide⟩, _, rfl, _, _, rfl, rfl, h0, ?_⟩
      exact k _ _ (mod_lt _ _ h0).1 (mod_lt _ _ h0).2 D1 S1
    case rest =>
      -- deck[0][at] = cell // many; return cell % many
      refine ⟨_, rfl, _, rfl, _, _, rfl, rfl, ⟨h0, h1⟩, _, rfl, d, _, 0, _, rfl, rfl, SqL.of upd_same, rfl, _, rfl, c, _, _, j, rfl, rfl, hc1 _, hix, ?_⟩
      refine ⟨_, rfl, _, rfl, _, _, rfl, rfl, h0, ?_⟩
      refine k _ _ (mod_lt _ _ h0).1 (mod_lt _ _ h0).2 ⟨⟨_, _, (upd_ne ndc).trans upd_same⟩, ns.set j (ns[j] / many), ?_, by rw [List.length_set]; exact hn⟩ fun b o e n1 n2 => ?_
      · rw [upd_same, List.map_set]
      · rw [upd_ne n2, upd_ne n1]; exact e
end
end My

namespace L2
open PySem PySem.Spec PyProof.Rows
/-! ### the forms of a comprehension's walk that one uses -/
theorem walk_range {lo : Int} {n : Nat} {g : TG} {t : TT} {b : TB} {N : St → Hp → Prop} {σ : St} {H : Hp} (Pv : Nat → St → Hp → Prop) (h0 : Pv 0 σ H)
    (hs : ∀ i σ H, i < n → Pv i σ H → g (.int (lo + i)) σ H fun σ2 H2 => t σ2 H2 fun k H3 => if k = true then b σ2 H3 (Pv (i + 1)) else Pv (i + 1) σ2 H3) (hd : ∀ σ H, Pv n σ H → N σ H) : bWalk (Itr lo n) g t b N σ H :=
  for_range (tb := fun D σ2 H2 => t σ2 H2 fun k H3 => if k = true then b σ2 H3 D.nx else D.nx σ2 H3) (D := { nx := N, rt := fun _ _ => True }) Pv h0 hs hd
theorem walk_list {K : PySem.W.Frag} {a : Addr} {xs : List V} {g : TG} {t : TT} {b : TB} {N : St → Hp → Prop} {σ : St} {H : Hp} (Pv : Nat → St → Hp → Prop) (h0 : Pv 0 σ H) (hl : ∀ i σ H, i ≤ xs.length → Pv i σ H → SqL K H a xs)
    (hs : ∀ i x σ H, xs[i]? = some x → Pv i σ H → g x σ H fun σ2 H2 => t σ2 H2 fun k H3 => if k = true then b σ2 H3 (Pv (i + 1)) else Pv (i + 1) σ2 H3) (hd : ∀ σ H, Pv xs.length σ H → N σ H) : bWalk (Itl K a) g t b N σ H :=
  for_list (tb := fun D σ2 H2 => t σ2 H2 fun k H3 => if k = true then b σ2 H3 D.nx else D.nx σ2 H3) (D := { nx := N, rt := fun _ _ => True }) Pv h0 hl hs hd
theorem walk_tup {K : PySem.W.Frag} {a : Addr} {xs : List V} {g : TG} {t : TT} {b : TB} {N : St → Hp → Prop} {σ : St} {H : Hp} (Pv : Nat → St → Hp → Prop) (h0 : Pv 0 σ H) (hl : ∀ i σ H, i ≤ xs.length → Pv i σ H → SqT K H a xs)
    (hs : ∀ i x σ H, xs[i]? = some x → Pv i σ H → g x σ H fun σ2 H2 => t σ2 H2 fun k H3 => if k = true then b σ2 H3 (Pv (i + 1)) else Pv (i + 1) σ2 H3) (hd : ∀ σ H, Pv xs.length σ H → N σ H) : bWalk (Itt K a) g t b N σ H :=
  for_tup (tb := fun D σ2 H2 => t σ2 H2 fun k H3 => if k = true then b σ2 H3 D.nx else D.nx σ2 H3) (D := { nx := N, rt := fun _ _ => True }) Pv h0 hl hs hd
theorem atI_ints (ns : List Int) {r : Int} (h0 : 0 ≤ r) (h1 : r < ns.length) : ∃ n, atI (ns.map V.int) r = some (.int n) ∧ n ∈ ns ∧ ns[r.toNat]? = some n := by
  obtain ⟨j, rfl⟩ := Int.eq_ofNat_of_zero_le h0
  have hj : j < ns.length := by omega
  refine ⟨ns[j], atI_nat ?_, List.getElem_mem hj, ?_⟩
  · rw [List.getElem?_map, List.getElem?_eq_getElem hj]; rfl
  · rw [Int.toNat_natCast]; exact List.getElem?_eq_getElem hj
theorem size_le {n : Nat} (h : n ≤ 1000000) : n ≤ sizeLine := Nat.le_trans h (by decide)
theorem size_lt {n : Nat} (h : n ≤ 1000000) : n < sizeLine := Nat.lt_of_le_of_lt h (by decide)
end L2
namespace My
open PySem L2
theorem Deck.lay {H : Hp} {d c p : Addr} {o : HO} (D : Deck H d c) (h : H p = none) : Deck (upd H p o) d c := by
  obtain ⟨⟨a, sd, h1⟩, ns, h2, hn⟩ := D
  exact ⟨⟨a, sd, by rw [upd_ne (ne_of_none h1 h)]; exact h1⟩, ns, by rw [upd_ne (ne_of_none h2 h)]; exact h2, hn⟩
/-- a list that is not the deck's is written -/
theorem Deck.wr {H : Hp} {d c p : Addr} {o : HO} (D : Deck H d c) (h1 : p ≠ d) (h2 : p ≠ c) : Deck (upd H p o) d c := by
  obtain ⟨⟨a, sd, q1⟩, ns, q2, hn⟩ := D
  exact ⟨⟨a, sd, by rw [upd_ne (Ne.symm h1)]; exact q1⟩, ns, by rw [upd_ne (Ne.symm h2)]; exact q2, hn⟩
theorem Deck.nd {H : Hp} {d c p : Addr} (D : Deck H d c) (h : H p = none) : p ≠ d ∧ p ≠ c := by
  obtain ⟨⟨a, sd, h1⟩, ns, h2, hn⟩ := D
  exact ⟨Ne.symm (ne_of_none h1 h), Ne.symm (ne_of_none h2 h)⟩
theorem Sv.lay {d c p : Addr} {H : Hp} {o : HO} (h : H p = none) : Sv d c H (upd H p o) := fun b o' e _ _ => by rw [upd_ne (ne_of_none e h)]; exact e
theorem Sv.none {d c p : Addr} {H H' : Hp} (D : Deck H d c) (s : Sv d c H H') (h : H' p = none) (n1 : p ≠ d) (n2 : p ≠ c) : H p = Option.none := by
  cases q : H p with
  | none => rfl
  | some o => rw [s p o q n1 n2] at h; cases h
theorem e6 : (10 : Int) ^ (Int.toNat 6) = 1000000 := by decide
theorem e7 : (10 : Int) ^ (Int.toNat 7) = 10000000 := by decide
section
variable {P : Program} {w : World} {K : PySem.W.Frag} {mg : Str → Option Value} {base : Heap}
end
end My

namespace My
open PySem L2
theorem Sv.same {d c : Addr} {H H' : Hp} (h : Same H H') : Sv d c H H' := fun b o e _ _ => h b o e
theorem Deck.same {d c : Addr} {H H' : Hp} (D : Deck H d c) (h : Same H H') : Deck H' d c := by
  obtain ⟨⟨a, sd, h1⟩, ns, h2, hn⟩ := D
  exact ⟨⟨a, sd, h _ _ h1⟩, ns, h _ _ h2, hn⟩
theorem Deck.ntup {d c p : Addr} {H : Hp} {xs : List V} (D : Deck H d c) (h : H p = some (.tup xs)) : p ≠ d ∧ p ≠ c := by
  obtain ⟨⟨a, sd, h1⟩, ns, h2, hn⟩ := D
  exact ⟨ne_of h h1 (by intro e; cases e), ne_of h h2 (by intro e; cases e)⟩
section
variable {P : Program} {w : World} {K : PySem.W.Frag} {mg : Str → Option Value} {base : Heap}
def spDeck (K : PySem.W.Frag) : Sp := fun vs H Q _ => ∃ (a : Addr) (ns : List Int), vs = [.ref a] ∧ SqL K H a (ns.map V.int) ∧ ns.length ≤ 63 ∧ ∀ (d c : Addr) (H' : Hp), H d = none → H c = none → Deck H' d c → Same H H' → Q (.ref d) H'
abbrev s_law_deck : Stmt := top 15
theorem sc_law_deck : FnScope ["script", "cells", "seed", "k", "mixed"] ["script"] (defScope s_law_deck) := ⟨rfl, rfl, rfl, by decide +kernel, rfl, by decide +kernel, by decide +kernel⟩
theorem ok_deck {f : Addr} {fd : FuncData} (F : Fun K "_law_deck" "_law_deck" s_law_deck f fd) (T : Txt mg) : FnOk P w K mg base CX0 1 f fd ["script"] (spDeck K) := by
  refine F.ok sc_law_deck (fun vs H Q E h => ?_) (fun cdv A outer s H vs Q E hr h => ?_)
  · obtain ⟨a, ns, rfl, _⟩ := h
    rfl
  · obtain ⟨a, ns, rfl, hS, hl, k⟩ := h
    refine ⟨_, (pss_cons (ps_set (i := 1) sc_law_deck.nd rfl (Or.inl rfl) (pe_op op_cat (pe_slice (slL (K := K) rfl) (pv 0) po_none (po_some pe_int)) (pe_lst (pa_cons (pe_callB (cLen (K := K) rfl) (by rfl) T.b_len PyProof.Rows.Boot.«len» (pa_cons (pv 0) pa_nil)) pa_nil))))
      (pss_cons (ps_set (i := 2) sc_law_deck.nd rfl (Or.inl rfl) (pe_op op_mod (pe_op op_add (pe_op op_add (pe_op op_mul (pe_callB (cSum (K := K) rfl rfl false) (by rfl) T.b_sum PyProof.Rows.Boot.«sum» (pa_cons (pe_slice (slL (K := K) rfl) (pv 0) po_none (po_some pe_int)) pa_nil)) pe_int) (pe_op op_mul pe_int (pe_callB (cLen (K := K) rfl) (by rfl) T.b_len PyProof.Rows.Boot.«len» (pa_cons (pv 0) pa_nil)))) pe_int) pe_int))
      (pss_cons (ps_if (pt_cmpR op_eq (pe_op op_mod (pe_callB (cSum (K := K) rfl rfl false) (by rfl) T.b_sum PyProof.Rows.Boot.«sum» (pa_cons (pe_slice (slL (K := K) rfl) (pv 0) po_none (po_some pe_int)) pa_nil)) pe_int) pe_int (nomark _))
        (pss_one (ps_for PassesOwn.never rfl (pi_range1 (by rfl) T.b_range (pa_cons (pe_callB (cLen (K := K) rfl) (by rfl) T.b_len PyProof.Rows.Boot.«len» (pa_cons (pv 1) pa_nil)) pa_nil)) (pg_name (i := 3) sc_law_deck.nd rfl (Or.inl rfl))
          (pss_cons (ps_set (i := 4) sc_law_deck.nd rfl (Or.inl rfl) (pe_op op_mod (pe_op op_mul (pe_op op_add (pe_op op_add (pe_op op_mod (pe_ix (ixL (K := K) rfl) (pv 1) (pv 3) (fun _ _ => rfl)) pe_int) (pe_op op_mul pe_int (pv 3))) pe_int) pe_int) pe_int))
          (pss_cons (ps_set (i := 4) sc_law_deck.nd rfl (Or.inl rfl) (pe_op op_mod (pe_op op_mul (pe_op op_mod (pe_op op_add (pe_op op_mul (pv 4) (pv 4)) (pe_op op_mul pe_int (pv 3))) pe_int) pe_int) pe_int))
          (pss_one (ps_asg (pe_op op_add (pe_op op_mul (pe_op op_mul (pv 4) (pv 4)) pe_int) (pe_op op_mod (pe_op op_mul (pv 4) pe_int) pe_int)) (pg_sub (pv 1) (pv 3) set_list)))))))
        pss_nil)
      (pss_one (ps_ret (pe_lst (pa_cons (pv 1) (pa_cons pe_int (pa_cons (pv 2) pa_nil))))))))), ?_⟩
    -- cells
    refine ⟨_, rfl, _, rfl, a, _, rfl, hS, fun p1 hp1 => ⟨_, rfl, a, _, rfl, .inl ((Same.lay hp1).seq hS), by show 1 ≤ sizeLine; decide, fun p2 hp2 => ?_⟩⟩
    have cl := cutV_length (ns.map V.int) none (some 63)
    rw [List.length_map] at cl
    refine ⟨p1, p2, _, _, rfl, rfl, (upd_ne (ne_of_none upd_same hp2)).trans upd_same, upd_same, size_le (by simp only [List.length_cons, List.length_nil]; omega), fun p3 hp3 => ?_⟩
    have S3 : Same H (upd (upd (upd H p1 (.lst (cutV (ns.map V.int) none (some 63)))) p2 (.lst [.int ((ns.map V.int).length : Int)])) p3 (.lst (cutV (ns.map V.int) none (some 63) ++ [.int ((ns.map V.int).length : Int)]))) := (Same.lay hp1).trans ((Same.lay hp2).trans (Same.lay hp3))
    obtain ⟨cs, hcs⟩ : ∃ cs : List Int, cutV (ns.map V.int) none (some 63) ++ [.int ((ns.map V.int).length : Int)] = cs.map V.int := ⟨cutL ns none (some 63) ++ [((ns.map V.int).length : Int)], by rw [cutV_map, List.map_append]; rfl⟩
    have hcl : 0 < cs.length ∧ cs.length ≤ 64 := by
      have e := congrArg List.length hcs
      rw [List.length_append, cutV_map] at e
      simp only [List.length_map] at e
      have e2 := cutL_len ns none (some 63)
      simp only [List.length_cons, List.length_nil] at e
      omega
    rw [hcs] at S3 ⊢
    generalize hH3 : upd (upd (upd H p1 (.lst (cutV (ns.map V.int) none (some 63)))) p2 (.lst [.int ((ns.map V.int).length : Int)])) p3 (.lst (cs.map V.int)) = H3 at S3 ⊢
    have h3 : H3 p3 = some (.lst (cs.map V.int)) := by rw [← hH3, upd_same]
    have hn3 : H p3 = none := ((Same.lay hp1).trans (Same.lay hp2)).free hp3
    -- seed
    refine ⟨_, rfl, _, rfl, a, _, rfl, S3.seq hS, fun p4 hp4 => ⟨p4, cutL ns none (some 63), rfl, by rw [← cutV_map]; exact SqL.of upd_same, _, _, rfl, rfl, .inr ⟨by decide, by decide⟩, _, rfl, a, _, rfl, .inl ((S3.trans (Same.lay hp4)).seq hS), _, _, rfl, rfl, .inl ⟨by decide, by decide⟩, _, _, rfl, rfl, _, _, rfl, rfl, _, _, rfl, rfl, (by show (0 : Int) < _; decide), ?_⟩⟩
    have S4 : Same H (upd H3 p4 (.lst (cutV (ns.map V.int) none (some 63)))) := S3.trans (Same.lay hp4)
    -- if sum(..) % 2 == 1
    refine ⟨_, rfl, _, rfl, a, _, rfl, S4.seq hS, fun p5 hp5 => ⟨p5, cutL ns none (some 63), rfl, by rw [← cutV_map]; exact SqL.of upd_same, _, _, rfl, rfl, (by show (0 : Int) < _; decide), rfl, _, rfl, ?_⟩⟩
    have S5 : Same H3 (upd (upd H3 p4 (.lst (cutV (ns.map V.int) none (some 63)))) p5 (.lst (cutV (ns.map V.int) none (some 63)))) := (Same.lay hp4).trans (Same.lay hp5)
    generalize upd (upd H3 p4 (.lst (cutV (ns.map V.int) none (some 63)))) p5 (.lst (cutV (ns.map V.int) none (some 63))) = H5 at S5 ⊢
    have h5 := S5 _ _ h3
    have fin : ∀ (H' : Hp) (cs' : List Int), 0 < cs'.length → H' p3 = some (.lst (cs'.map V.int)) → Same H H' → ∀ d, H' d = none → Q (.ref d) (upd H' d (.lst [.ref p3, .int 0, .int (((cutL ns none (some 63)).sum * 48271 + 7 * ((ns.map V.int).length : Int) + 5) % 2147483647)])) := fun H' cs' hc' hp' S' d hd =>
      k d p3 _ (S'.free hd) hn3 ⟨⟨_, _, upd_same⟩, cs', (upd_ne (ne_of_none hp' hd)).trans hp', hc'⟩ (S'.trans (Same.lay hd))
    refine ite2 (fun e => ?_) (fun e => ?_)
    · refine ⟨_, rfl, p3, _, rfl, .inl (SqL.of h5), _, rfl, by rw [List.length_map]; omega, by rw [List.length_map]; omega, ?_⟩
      refine for_range (n := (((cs.map V.int).length : Nat) : Int).toNat) (fun i σ H' => ∃ (v4 v5 : Option V) (cs' : List Int), σ = [some (.ref a), some (.ref p3), some (.int (((cutL ns none (some 63)).sum * 48271 + 7 * ((ns.map V.int).length : Int) + 5) % 2147483647)), v4, v5] ∧ H' p3 = some (.lst (cs'.map V.int)) ∧ cs'.length = cs.length ∧ Same H H') ⟨none, none, cs, rfl, h5, rfl, S3.trans S5⟩ ?_ ?_
      · rintro i σ H' hi ⟨v4, v5, cs', rfl, hp', hc', S'⟩
        rw [Int.toNat_natCast, List.length_map] at hi
        have hi' : (i : Int) < 64 := by omega
        obtain ⟨x, hx, _, _⟩ := atI_ints cs' (r := 0 + (i : Int)) (by omega) (by omega)
        refine ⟨_, rfl, _, rfl, p3, _, _, _, rfl, rfl, SqL.of hp', hx, _, _, rfl, rfl, (by show (0 : Int) < _; decide), _, rfl, _, _, rfl, rfl, .inl ⟨by decide, by decide⟩, _, _, rfl, rfl, _, _, rfl, rfl, _, _, rfl, rfl, .inr ⟨by decide, by decide⟩, _, _, rfl, rfl, (by show (0 : Int) < _; decide), ?_⟩
        refine ⟨_, rfl, _, rfl, _, _, rfl, rfl, mulL _ _ (by decide) (by decide), _, rfl, _, _, rfl, rfl, .inl ⟨by decide, by decide⟩, _, _, rfl, rfl, _, _, rfl, rfl, (by show (0 : Int) < _; decide), _, _, rfl, rfl, mulL _ _ (by decide) (by decide), _, _, rfl, rfl, (by show (0 : Int) < _; decide), ?_⟩
        have hix : ixN (cs'.map V.int).length (0 + (i : Int)) = some i := by
          unfold ixN; rw [if_pos (by omega), if_pos (by rw [List.length_map]; omega)]; congr 1; omega
        refine ⟨_, rfl, _, rfl, _, _, rfl, rfl, mulL _ _ (by decide) (by decide), _, _, rfl, rfl, .inr ⟨by decide, by decide⟩, _, rfl, _, _, rfl, rfl, mulL _ _ (by decide) (by decide), _, _, rfl, rfl, (by show (0 : Int) < _; decide), _, _, rfl, rfl, _, rfl, _, rfl, p3, _, _, i, rfl, rfl, hp', hix, ?_⟩
        exact ⟨_, _, cs'.set i _, rfl, by rw [upd_same, List.map_set], by rw [List.length_set]; exact hc', fun b o e' => by rw [upd_ne (ne_of_none e' hn3)]; exact S' b o e'⟩
      · rintro σ H' ⟨v4, v5, cs', rfl, hp', hc', S'⟩
        exact ⟨_, rfl, _, rfl, by show 3 ≤ sizeLine; decide, fin H' cs' (by omega) hp' S'⟩
    · exact ⟨_, rfl, _, rfl, by show 3 ≤ sizeLine; decide, fin H5 cs hcl.1 h5 (S3.trans S5)⟩
end
end My

namespace My
open PySem L2
/-! ### the mathematics: sums ahead, stretches -/
def psum (ns : List Int) (k : Nat) : Int := (ns.take k).sum
def psums (ns : List Int) (i : Nat) : List Int := (List.range (i + 1)).map (psum ns)
theorem psum_succ {ns : List Int} {i : Nat} {n : Int} (h : ns[i]? = some n) : psum ns (i + 1) = psum ns i + n := by
  unfold psum
  rw [List.take_add_one, h, List.sum_append]
  simp
theorem psums_last (ns : List Int) (i : Nat) : psums ns i = (List.range i).map (psum ns) ++ [psum ns i] := by
  unfold psums
  rw [List.range_succ, List.map_append]; rfl
theorem psums_succ (ns : List Int) (i : Nat) : psums ns (i + 1) = psums ns i ++ [psum ns (i + 1)] := by
  rw [psums_last ns (i + 1)]; rfl
theorem psums_len (ns : List Int) (i : Nat) : (psums ns i).length = i + 1 := by unfold psums; simp
theorem psums_get (ns : List Int) (n k : Nat) (h : k ≤ n) : (psums ns n)[k]? = some (psum ns k) := by
  unfold psums
  rw [List.getElem?_map, List.getElem?_range (by omega)]; rfl
/-- the stretches from the place lo on, j of them -/
def from1 (lo j : Nat) : List (Nat × Nat) := (List.range j).map fun t => (lo, lo + 1 + t)
theorem from1_succ (lo j : Nat) : from1 lo (j + 1) = from1 lo j ++ [(lo, lo + 1 + j)] := by
  unfold from1
  rw [List.range_succ, List.map_append]; rfl
/-- the stretches of a row of n numbers that begin ahead of the place i -/
def prsTo (n i : Nat) : List (Nat × Nat) := (List.range i).flatMap fun lo => from1 lo (n - lo)
def prs (n : Nat) : List (Nat × Nat) := prsTo n n
theorem prsTo_succ (n i : Nat) : prsTo n (i + 1) = prsTo n i ++ from1 i (n - i) := by
  unfold prsTo
  rw [List.range_succ, List.flatMap_append]; simp
theorem prs_mem {n lo hi : Nat} (h : (lo, hi) ∈ prs n) : lo < hi ∧ hi ≤ n := by
  unfold prs prsTo at h
  obtain ⟨l, h1, h2⟩ := List.mem_flatMap.mp h
  unfold from1 at h2
  obtain ⟨t, h3, h4⟩ := List.mem_map.mp h2
  have e1 : l = lo := congrArg Prod.fst h4
  have e2 : l + 1 + t = hi := congrArg Prod.snd h4
  have := List.mem_range.mp h1
  have := List.mem_range.mp h3
  omega
def hit (ns : List Int) (tot : Int) (p : Nat × Nat) : Bool := decide (psum ns p.2 - psum ns p.1 = tot)
theorem filter_take_succ {α : Type} (f : α → Bool) {l : List α} {i : Nat} {x : α} (h : l[i]? = some x) : (l.take (i + 1)).filter f = (l.take i).filter f ++ (if f x then [x] else []) := by
  rw [List.take_add_one, h, List.filter_append]
  cases hx : f x <;> simp [hx]
/-! ### lists of pairs, of triples, on the heap -/
/-- a list whose items are tuples: of each the values by g -/
def TupsAt {α : Type} (g : α → List V) (H : Hp) (xs : List V) (ps : List α) : Prop := xs.length = ps.length ∧ ∀ (i : Nat) (p : α), ps[i]? = some p → ∃ a, xs[i]? = some (.ref a) ∧ H a = some (.tup (g p))
theorem TupsAt.nil {α : Type} {g : α → List V} {H : Hp} : TupsAt g H [] [] := ⟨rfl, fun i p h => by simp at h⟩
theorem TupsAt.mono {α : Type} {g : α → List V} {H H' : Hp} {xs : List V} {ps : List α} (h : TupsAt g H xs ps) (k : ∀ a zs, H a = some (.tup zs) → H' a = some (.tup zs)) : TupsAt g H' xs ps :=
  ⟨h.1, fun i p e => let ⟨a, h1, h2⟩ := h.2 i p e; ⟨a, h1, k a _ h2⟩⟩
theorem TupsAt.snoc {α : Type} {g : α → List V} {H : Hp} {xs : List V} {ps : List α} {a : Addr} {p : α} (h : TupsAt g H xs ps) (ha : H a = some (.tup (g p))) : TupsAt g H (xs ++ [.ref a]) (ps ++ [p]) := by
  refine ⟨by rw [List.length_append, List.length_append, h.1]; rfl, fun i q e => ?_⟩
  by_cases hi : i < ps.length
  · rw [List.getElem?_append_left hi] at e
    obtain ⟨b, h1, h2⟩ := h.2 i q e
    exact ⟨b, by rw [List.getElem?_append_left (by rw [h.1]; exact hi)]; exact h1, h2⟩
  · have hl : i < (ps ++ [p]).length := (List.getElem?_eq_some_iff.mp e).1
    rw [List.length_append] at hl
    have hi2 : i = ps.length := by simp only [List.length_cons, List.length_nil] at hl; omega
    subst hi2
    rw [List.getElem?_append_right (Nat.le_refl _)] at e
    simp only [Nat.sub_self, List.getElem?_cons_zero, Option.some.injEq] at e
    subst e
    refine ⟨a, ?_, ha⟩
    rw [← h.1, List.getElem?_append_right (Nat.le_refl _)]; simp
def g2 (p : Nat × Nat) : List V := [.int p.1, .int p.2]
def g3 (ns : List Int) (p : Nat × Nat) : List V := [.int p.1, .int p.2, .int (psum ns p.2 - psum ns p.1)]
theorem upd_tup {H : Hp} {l : Addr} {xs : List V} {o : HO} (h : H l = some (.lst xs)) : ∀ a zs, H a = some (.tup zs) → upd H l o a = some (.tup zs) := fun a zs e => by rw [upd_ne (ne_of e h (by intro z; cases z))]; exact e
theorem same_tup {H H' : Hp} (s : Same H H') : ∀ a zs, H a = some (.tup zs) → H' a = some (.tup zs) := fun a zs e => s _ _ e
/-- a row of ints -/
def RowAt (H : Hp) (p : Addr) (ns : List Int) : Prop := H p = some (.tup (ns.map V.int)) ∧ ns.length ≤ 1000
def spSums : Sp := fun vs H Q _ => ∃ p ns, vs = [.ref p] ∧ RowAt H p ns ∧ ∀ q H', H' q = some (.tup ((psums ns ns.length).map V.int)) → Same H H' → Q (.ref q) H'
section
variable {P : Program} {w : World} {K : PySem.W.Frag} {mg : Str → Option Value} {base : Heap}
abbrev s_sums_ahead : Stmt := top 1
theorem sc_sums_ahead : FnScope ["row", "ahead", "number"] ["row"] (defScope s_sums_ahead) := ⟨rfl, rfl, rfl, by decide +kernel, rfl, by decide +kernel, by decide +kernel⟩
theorem ok_sums_ahead {f : Addr} {fd : FuncData} (F : Fun K "sums_ahead" "sums_ahead" s_sums_ahead f fd) (T : Txt mg) : FnOk P w K mg base CX0 1 f fd ["row"] spSums := by
  refine F.ok sc_sums_ahead (fun vs H Q E h => ?_) (fun cdv A outer s H vs Q E hr h => ?_)
  · obtain ⟨p, ns, rfl, _⟩ := h
    rfl
  · obtain ⟨p, ns, rfl, ⟨hp, hl⟩, k⟩ := h
    refine ⟨_, (pss_cons (ps_set (i := 1) sc_sums_ahead.nd rfl (Or.inl rfl) (pe_lst (pa_cons pe_int pa_nil)))
      (pss_cons (ps_for PassesOwn.never rfl (piT (K := K) rfl (pv 0)) (pg_name (i := 2) sc_sums_ahead.nd rfl (Or.inl rfl))
        (pss_one (ps_expr (pe_bm PySem.F.plainAttrs_list PySem.F.slot_list_append PySem.F.type_list_append mt_append (pv 1) (pa_cons (pe_op op_add (pe_ix (ixL (K := K) rfl) (pv 1) (pe_un un_neg pe_int) (fun _ _ => rfl)) (pv 2)) pa_nil)))))
      (pss_one (ps_ret (pe_callTy (cTuple (K := K) rfl) (by rfl) T.b_tuple PyProof.Rows.Boot.«tuple» (pa_cons (pv 1) pa_nil)))))), ?_⟩
    refine ⟨by show 1 ≤ sizeLine; decide, fun l hl1 => ?_⟩
    have S1 : Same H (upd H l (.lst [.int 0])) := Same.lay hl1
    refine ⟨_, rfl, p, rfl, ⟨_, SqT.of (S1 _ _ hp)⟩, for_tup (xs := ns.map V.int) (fun i σ H' => ∃ v2 : Option V, σ = [some (.ref p), some (.ref l), v2] ∧ Same H H' ∧ H' l = some (.lst ((psums ns i).map V.int))) ?_ ?_ ?_ ?_⟩
    · exact ⟨none, rfl, S1, upd_same⟩
    · rintro i σ H' _ ⟨v2, rfl, S', _⟩
      exact SqT.of (S' _ _ hp)
    · rintro i x σ H' hx ⟨v2, rfl, S', ha⟩
      obtain ⟨n, hn, rfl⟩ : ∃ n, ns[i]? = some n ∧ V.int n = x := by rw [List.getElem?_map] at hx; exact Option.map_eq_some_iff.mp hx
      have hi : i < ns.length := (List.getElem?_eq_some_iff.mp hn).1
      have ha' : H' l = some (.lst (((List.range i).map (psum ns)).map V.int ++ [.int (psum ns i)])) := by rw [ha, psums_last, List.map_append]; rfl
      refine ⟨_, rfl, .inl ⟨rfl, _, SqL.of ha⟩, _, rfl, 1, rfl, l, _, _, _, rfl, rfl, SqL.of ha', atI_last _ _, _, rfl, _, _, rfl, rfl, l, _, _, rfl, rfl, ha, size_lt (by rw [List.length_map, psums_len]; omega), ?_⟩
      refine ⟨_, rfl, fun b o e => by rw [upd_ne (ne_of_none e hl1)]; exact S' b o e, ?_⟩
      rw [upd_same, psums_succ, List.map_append, psum_succ hn]; rfl
    · rintro σ H' ⟨v2, rfl, S', ha⟩
      rw [List.length_map] at ha
      exact ⟨_, rfl, l, _, rfl, .inl ⟨SqL.of ha, fun q hq => k q _ upd_same (S'.trans (Same.lay hq))⟩⟩
def spStr : Sp := fun vs H Q _ => ∃ p ns, vs = [.ref p] ∧ RowAt H p ns ∧ ∀ q xs H', H' q = some (.lst xs) → TupsAt g2 H' xs (prs ns.length) → Same H H' → Q (.ref q) H'
abbrev s_stretches_of : Stmt := top 2
theorem sc_stretches_of : FnScope ["row", "many"] ["row"] (defScope s_stretches_of) := ⟨rfl, rfl, rfl, by decide +kernel, rfl, by decide +kernel, by decide +kernel⟩
theorem ok_stretches_of {f : Addr} {fd : FuncData} (F : Fun K "stretches_of" "stretches_of" s_stretches_of f fd) (T : Txt mg) : FnOk P w K mg base CX0 1 f fd ["row"] spStr := by
  refine F.ok sc_stretches_of (fun vs H Q E h => ?_) (fun cdv A outer s H vs Q E hr h => ?_)
  · obtain ⟨p, ns, rfl, _⟩ := h
    rfl
  · obtain ⟨p, ns, rfl, ⟨hp, hl⟩, k⟩ := h
    refine ⟨_, (pss_cons (ps_set (i := 1) sc_stretches_of.nd rfl (Or.inr rfl) (pe_callB (cLen (K := K) rfl) (by rfl) T.b_len PyProof.Rows.Boot.«len» (pa_cons (pv 0) pa_nil)))
      (pss_one (ps_ret (pe_comp (N := ["low", "high", "many"]) (cap := [none, none, some 1]) rfl (show blkOk ["row", "many"] (defScope s_stretches_of) ["low", "high", "many"] [none, none, some 1] _ = true by decide +kernel) (pi_range1 (by rfl) T.b_range (pa_cons (pv 1) pa_nil)) (fun cl C s3 H3 fp => ⟨(pg_name (i := 0) (show (["low", "high", "many"] : List Str).Nodup by decide +kernel) rfl (Or.inl rfl)), pts_nil, fun it acc => (paf_for rfl rfl rfl (pi_range2 (by rfl) T.b_range (pa_cons (pe_op op_add (pv 0) pe_int) (pa_cons (pe_op op_add (pv 2) pe_int) pa_nil))) (pg_name (i := 1) (show (["low", "high", "many"] : List Str).Nodup by decide +kernel) rfl (Or.inl rfl)) pts_nil (fun it1 => (paf_emit rfl (pe_tup (pa_cons (pv 0) (pa_cons (pv 1) pa_nil))))))⟩))))), ?_⟩
    refine ⟨_, rfl, p, _, rfl, .inr (SqT.of hp), ?_⟩
    have hlm : (ns.map V.int).length = ns.length := List.length_map _
    refine ⟨_, rfl, _, rfl, by omega, by omega, fun acc hacc => ?_⟩
    refine walk_range (fun i σ H' => ∃ (v1 v2 : Option V) (xs : List V), σ = [v1, v2, some (.int ((ns.map V.int).length : Int))] ∧ H' acc = some (.lst xs) ∧ TupsAt g2 H' xs (prsTo ns.length i) ∧ xs.length ≤ i * 1000 ∧ Same H H') ?_ ?_ ?_
    · exact ⟨none, none, [], rfl, upd_same, TupsAt.nil, by simp, Same.lay hacc⟩
    · rintro i σ H' hi ⟨v1, v2, xs, rfl, ha, ht, hx, S'⟩
      have hi' : i < ns.length := by omega
      refine ⟨_, rfl, _, _, rfl, rfl, _, rfl, _, _, rfl, rfl, _, _, rfl, ⟨by omega, by omega, by omega, by omega⟩, ?_⟩
      have ej : ((((ns.map V.int).length : Int) + 1) - (0 + (i : Int) + 1)).toNat = ns.length - i := by omega
      rw [ej]
      refine walk_range (fun j σ H' => ∃ (v2 : Option V) (xs : List V), σ = [some (.int (0 + (i : Int))), v2, some (.int ((ns.map V.int).length : Int))] ∧ H' acc = some (.lst xs) ∧ TupsAt g2 H' xs (prsTo ns.length i ++ from1 i j) ∧ xs.length ≤ i * 1000 + j ∧ Same H H') ?_ ?_ ?_
      · exact ⟨v2, xs, rfl, ha, by simpa [from1] using ht, by omega, S'⟩
      · rintro j σ H2 hj ⟨v2, xs, rfl, ha, ht, hx, S'⟩
        refine ⟨_, rfl, _, rfl, by show 2 ≤ sizeLine; decide, fun a hna => ⟨xs, (upd_ne (ne_of_none ha hna)).trans ha, size_lt (by omega), _, _, rfl, upd_same, ?_, by rw [List.length_append]; simp only [List.length_cons, List.length_nil]; omega, ?_⟩⟩
        · have e1 : (0 : Int) + (i : Int) = ((i : Nat) : Int) := by omega
          have e2 : (0 : Int) + (i : Int) + 1 + (j : Int) = ((i + 1 + j : Nat) : Int) := by omega
          rw [from1_succ, ← List.append_assoc]
          refine TupsAt.snoc (ht.mono fun b zs e => ?_) ?_
          · rw [upd_ne (ne_of e ha (by intro z; cases z)), upd_ne (ne_of_none e hna)]; exact e
          · rw [upd_ne (Ne.symm (ne_of_none ha hna)), upd_same, e2, e1]; rfl
        · exact fun b o e => by rw [upd_ne (ne_of_none e hacc), upd_ne (ne_of_none (S' b o e) hna)]; exact S' b o e
      · rintro σ H2 ⟨v2, xs, rfl, ha, ht, hx, S'⟩
        exact ⟨_, _, xs, rfl, ha, by rw [prsTo_succ]; exact ht, by omega, S'⟩
    · rintro σ H' ⟨v1, v2, xs, rfl, ha, ht, hx, S'⟩
      have e : (((ns.map V.int).length : Int)).toNat = ns.length := by omega
      rw [e] at ht
      exact k acc xs H' ha ht S'
theorem prsTo_len (n : Nat) (hn : n ≤ 1000) : ∀ i, i ≤ n → (prsTo n i).length ≤ i * 1000
  | 0, _ => by simp [prsTo]
  | i + 1, h => by
    have ih := prsTo_len n hn i (by omega)
    rw [prsTo_succ, List.length_append]
    have : (from1 i (n - i)).length = n - i := by unfold from1; simp
    omega
theorem prs_len (n : Nat) (hn : n ≤ 1000) : (prs n).length ≤ 1000000 := by
  have := prsTo_len n hn n (Nat.le_refl _)
  unfold prs
  omega
end
end My

namespace My
open PySem L2
/-- a list of pairs: a sum, and a stretch, a tuple of its own -/
def SumsAt (ns : List Int) (H : Hp) (xs : List V) (ps : List (Nat × Nat)) : Prop := xs.length = ps.length ∧ ∀ (i : Nat) (p : Nat × Nat), ps[i]? = some p → ∃ a b, xs[i]? = some (.ref a) ∧ H a = some (.tup [.int (psum ns p.2 - psum ns p.1), .ref b]) ∧ H b = some (.tup (g2 p))
theorem SumsAt.nil {ns : List Int} {H : Hp} : SumsAt ns H [] [] := ⟨rfl, fun i p h => by simp at h⟩
theorem SumsAt.mono {ns : List Int} {H H' : Hp} {xs : List V} {ps : List (Nat × Nat)} (h : SumsAt ns H xs ps) (k : ∀ a zs, H a = some (.tup zs) → H' a = some (.tup zs)) : SumsAt ns H' xs ps :=
  ⟨h.1, fun i p e => let ⟨a, b, h1, h2, h3⟩ := h.2 i p e; ⟨a, b, h1, k a _ h2, k b _ h3⟩⟩
theorem SumsAt.snoc {ns : List Int} {H : Hp} {xs : List V} {ps : List (Nat × Nat)} {a b : Addr} {p : Nat × Nat} (h : SumsAt ns H xs ps) (ha : H a = some (.tup [.int (psum ns p.2 - psum ns p.1), .ref b])) (hb : H b = some (.tup (g2 p))) : SumsAt ns H (xs ++ [.ref a]) (ps ++ [p]) := by
  refine ⟨by rw [List.length_append, List.length_append, h.1]; rfl, fun i q e => ?_⟩
  by_cases hi : i < ps.length
  · rw [List.getElem?_append_left hi] at e
    obtain ⟨c, c2, h1, h2, h3⟩ := h.2 i q e
    exact ⟨c, c2, by rw [List.getElem?_append_left (by rw [h.1]; exact hi)]; exact h1, h2, h3⟩
  · have hl : i < (ps ++ [p]).length := (List.getElem?_eq_some_iff.mp e).1
    rw [List.length_append] at hl
    have hi2 : i = ps.length := by simp only [List.length_cons, List.length_nil] at hl; omega
    subst hi2
    rw [List.getElem?_append_right (Nat.le_refl _)] at e
    simp only [Nat.sub_self, List.getElem?_cons_zero, Option.some.injEq] at e
    subst e
    refine ⟨a, b, ?_, ha, hb⟩
    rw [← h.1, List.getElem?_append_right (Nat.le_refl _)]; simp
/-- the stretches whose sum a test lets through -/
def hb (ns : List Int) (t : Int → Bool) (p : Nat × Nat) : Bool := t (psum ns p.2 - psum ns p.1)
def hitsBy (ns : List Int) (t : Int → Bool) : List (Nat × Nat) := (prs ns.length).filter (hb ns t)
theorem take_succ {α : Type} {l : List α} {i : Nat} {x : α} (h : l[i]? = some x) : l.take (i + 1) = l.take i ++ [x] := by
  rw [List.take_add_one, h]; rfl
def spSummed : Sp := fun vs H Q _ => ∃ p ns, vs = [.ref p] ∧ RowAt H p ns ∧ ∀ q xs H', H q = none → H' q = some (.lst xs) → SumsAt ns H' xs (prs ns.length) → Same H H' → Q (.ref q) H'
section
variable {P : Program} {w : World} {K : PySem.W.Frag} {mg : Str → Option Value} {base : Heap}
abbrev s_summed_stretches : Stmt := top 3
theorem sc_summed_stretches : FnScope ["row", "ahead"] ["row"] (defScope s_summed_stretches) := ⟨rfl, rfl, rfl, by decide +kernel, rfl, by decide +kernel, by decide +kernel⟩
theorem ok_summed_stretches {f fa fs : Addr} {fd fda fds : FuncData} (F : Fun K "summed_stretches" "summed_stretches" s_summed_stretches f fd) (T : Txt mg) (D_sums_ahead : DefAt K mg "sums_ahead" s_sums_ahead ["row"] fa fda) (D_stretches_of : DefAt K mg "stretches_of" s_stretches_of ["row"] fs fds) :
    FnOk P w K mg base CX0 2 f fd ["row"] spSummed := by
  have G_sums_ahead : FnOk P w K mg base CX0 1 fa fda ["row"] spSums := ok_sums_ahead D_sums_ahead.fn T
  have G_stretches_of : FnOk P w K mg base CX0 1 fs fds ["row"] spStr := ok_stretches_of D_stretches_of.fn T
  refine F.ok sc_summed_stretches (fun vs H Q E h => ?_) (fun cdv A outer s H vs Q E hr h => ?_)
  · obtain ⟨p, ns, rfl, _⟩ := h
    rfl
  · obtain ⟨p, ns, rfl, ⟨hp, hl⟩, k⟩ := h
    refine ⟨_, (pss_cons (ps_set (i := 1) sc_summed_stretches.nd rfl (Or.inr rfl) (pe_call G_sums_ahead (hr.mono (by first | decide | exact Nat.le_refl _)) rfl D_sums_ahead.mg D_sums_ahead.fn.kp D_sums_ahead.bd .nil pass0 (pa_cons (pv 0) pa_nil)))
      (pss_one (ps_ret (pe_comp (N := ["low", "high", "ahead"]) (cap := [none, none, some 1]) rfl (show blkOk ["row", "ahead"] (defScope s_summed_stretches) ["low", "high", "ahead"] [none, none, some 1] _ = true by decide +kernel) (piL (K := K) rfl (pe_call G_stretches_of (hr.mono (by first | decide | exact Nat.le_refl _)) rfl D_stretches_of.mg D_stretches_of.fn.kp D_stretches_of.bd .nil pass0 (pa_cons (pv 0) pa_nil))) (fun cl C s3 H3 fp => ⟨(pgT (K := K) (n := 2) rfl rfl (pgs_cons (pg_name (i := 0) (show (["low", "high", "ahead"] : List Str).Nodup by decide +kernel) rfl (Or.inl rfl)) (pgs_cons (pg_name (i := 1) (show (["low", "high", "ahead"] : List Str).Nodup by decide +kernel) rfl (Or.inl rfl)) pgs_nil))), pts_nil, fun it acc => (paf_emit rfl (pe_tup (pa_cons (pe_op op_sub (pe_ix (ixT (K := K) rfl) (pv 2) (pv 1) (fun _ _ => rfl)) (pe_ix (ixT (K := K) rfl) (pv 2) (pv 0) (fun _ _ => rfl))) (pa_cons (pe_tup (pa_cons (pv 0) (pa_cons (pv 1) pa_nil))) pa_nil))))⟩))))), ?_⟩
    refine ⟨_, rfl, p, ns, rfl, ⟨hp, hl⟩, fun q1 H1 hq1 S1 => ?_⟩
    refine ⟨_, rfl, p, ns, rfl, ⟨S1 _ _ hp, hl⟩, fun q2 ys H2 hq2 ht2 S2 => ⟨q2, rfl, ⟨_, SqL.of hq2⟩, fun acc hacc => ?_⟩⟩
    have hq1' := S2 _ _ hq1
    have plen := prs_len ns.length hl
    refine walk_list (xs := ys) (fun i σ H' => ∃ (v1 v2 : Option V) (xs : List V), σ = [v1, v2, some (.ref q1)] ∧ H' acc = some (.lst xs) ∧ SumsAt ns H' xs ((prs ns.length).take i) ∧ Same H2 H') ?_ ?_ ?_ ?_
    · exact ⟨none, none, [], rfl, upd_same, SumsAt.nil, Same.lay hacc⟩
    · rintro i σ H' _ ⟨v1, v2, xs, rfl, ha, ht, S'⟩
      exact SqL.of (S' _ _ hq2)
    · rintro i y σ H' hy ⟨v1, v2, xs, rfl, ha, ht, S'⟩
      have hi : i < (prs ns.length).length := by rw [← ht2.1]; exact (List.getElem?_eq_some_iff.mp hy).1
      obtain ⟨a, e1, e2⟩ := ht2.2 i _ (List.getElem?_eq_getElem hi)
      rw [hy] at e1
      have e1 : y = .ref a := Option.some.inj e1
      subst e1
      obtain ⟨⟨lo, hi'⟩, hpr⟩ : ∃ pr, (prs ns.length)[i] = pr := ⟨_, rfl⟩
      have hg : (prs ns.length)[i]? = some (lo, hi') := by rw [List.getElem?_eq_getElem hi, hpr]
      rw [hpr] at e2
      obtain ⟨m1, m2⟩ := prs_mem (List.mem_of_getElem? hg)
      have xlen : xs.length ≤ 1000000 := by
        rw [ht.1, List.length_take]; omega
      refine ⟨a, _, rfl, SqT.of (S' _ _ e2), rfl, _, _, rfl, _, _, rfl, rfl, ?_⟩
      refine ⟨_, rfl, _, rfl, q1, _, _, _, rfl, rfl, SqT.of (S' _ _ hq1'), atI_nat (by rw [List.getElem?_map, psums_get ns _ _ m2]; rfl), _, rfl, _, rfl, q1, _, _, _, rfl, rfl, SqT.of (S' _ _ hq1'), atI_nat (by rw [List.getElem?_map, psums_get ns _ _ (by omega)]; rfl), _, _, rfl, rfl, ?_⟩
      refine ⟨_, rfl, _, rfl, by show 2 ≤ sizeLine; decide, fun b hb => ?_⟩
      refine ⟨by show 2 ≤ sizeLine; decide, fun c hc => ?_⟩
      have ha1 := (upd_ne (o := HO.tup [V.int lo, V.int hi']) (ne_of_none ha hb)).trans ha
      have ha2 := (upd_ne (o := HO.tup [V.int (psum ns hi' - psum ns lo), V.ref b]) (ne_of_none ha1 hc)).trans ha1
      refine ⟨xs, ha2, size_lt xlen, _, _, _, rfl, upd_same, ?_, ?_⟩
      · rw [take_succ hg]
        have hbc : b ≠ c := fun e => by subst e; rw [upd_same] at hc; cases hc
        refine SumsAt.snoc (b := b) (ht.mono fun d zs e => ?_) ?_ ?_
        · rw [upd_ne (ne_of e ha (by intro z; cases z)), upd_ne (ne_of_none ((upd_ne (ne_of_none e hb)).trans e) hc), upd_ne (ne_of_none e hb)]; exact e
        · rw [upd_ne (Ne.symm (ne_of_none ha1 hc)), upd_same]
        · rw [upd_ne (Ne.symm (ne_of_none ha hb)), upd_ne hbc, upd_same]; rfl
      · exact fun d o e => by
          have e' := (upd_ne (o := HO.tup [V.int lo, V.int hi']) (ne_of_none (S' d o e) hb)).trans (S' d o e)
          rw [upd_ne (ne_of_none e hacc), upd_ne (ne_of_none e' hc)]; exact e'
    · rintro σ H' ⟨v1, v2, xs, rfl, ha, ht, S'⟩
      rw [ht2.1, List.take_length] at ht
      exact k acc xs H' ((S1.trans S2).free hacc) ha ht (S1.trans (S2.trans S'))
end
end My

namespace My
open PySem L2
section
variable {P : Program} {w : World} {K : PySem.W.Frag} {mg : Str → Option Value} {base : Heap}
def spAll : Sp := fun vs H Q _ => ∃ (p : Addr) (ns : List Int) (tot : Int), vs = [.ref p, .int tot] ∧ RowAt H p ns ∧ ∀ q xs H', H q = none → H' q = some (.lst xs) → TupsAt g2 H' xs (hitsBy ns (fun s => decide (s = tot))) → Same H H' → Q (.ref q) H'
abbrev s_all_with : Stmt := top 6
theorem sc_all_with : FnScope ["row", "total"] ["row", "total"] (defScope s_all_with) := ⟨rfl, rfl, rfl, by decide +kernel, rfl, by decide +kernel, by decide +kernel⟩
theorem ok_all_with {f fz : Addr} {fd fdz : FuncData} (F : Fun K "all_with" "all_with" s_all_with f fd) (T : Txt mg) (D_summed_stretches : DefAt K mg "summed_stretches" s_summed_stretches ["row"] fz fdz) (G_summed_stretches : FnOk P w K mg base CX0 2 fz fdz ["row"] spSummed) :
    FnOk P w K mg base CX0 3 f fd ["row", "total"] spAll := by
  refine F.ok sc_all_with (fun vs H Q E h => ?_) (fun cdv A outer s H vs Q E hr h => ?_)
  · obtain ⟨p, ns, tot, rfl, _⟩ := h
    rfl
  · obtain ⟨p, ns, tot, rfl, ⟨hp, hl⟩, k⟩ := h
    refine ⟨_, (pss_one (ps_ret (pe_comp (N := ["own", "stretch", "total"]) (cap := [none, none, some 1]) rfl (show blkOk ["row", "total"] (defScope s_all_with) ["own", "stretch", "total"] [none, none, some 1] _ = true by decide +kernel) (piL (K := K) rfl (pe_call G_summed_stretches (hr.mono (by first | decide | exact Nat.le_refl _)) rfl D_summed_stretches.mg D_summed_stretches.fn.kp D_summed_stretches.bd .nil pass0 (pa_cons (pv 0) pa_nil))) (fun cl C s3 H3 fp => ⟨(pgT (K := K) (n := 2) rfl rfl (pgs_cons (pg_name (i := 0) (show (["own", "stretch", "total"] : List Str).Nodup by decide +kernel) rfl (Or.inl rfl)) (pgs_cons (pg_name (i := 1) (show (["own", "stretch", "total"] : List Str).Nodup by decide +kernel) rfl (Or.inl rfl)) pgs_nil))), (pts_one (pt_cmpR op_eq (pv 0) (pv 2) (nomark _))), fun it acc => (paf_emit rfl (pv 1))⟩)))), ?_⟩
    refine ⟨_, rfl, p, ns, rfl, ⟨hp, hl⟩, fun q2 ys H2 _ hq2 ht2 S2 => ⟨q2, rfl, ⟨_, SqL.of hq2⟩, fun acc hacc => ?_⟩⟩
    have plen := prs_len ns.length hl
    refine walk_list (xs := ys) (fun i σ H' => ∃ (v1 v2 : Option V) (xs : List V), σ = [v1, v2, some (.int tot)] ∧ H' acc = some (.lst xs) ∧ TupsAt g2 H' xs (((prs ns.length).take i).filter (hb ns (fun s => decide (s = tot)))) ∧ Same H2 H') ?_ ?_ ?_ ?_
    · exact ⟨none, none, [], rfl, upd_same, by simpa using TupsAt.nil, Same.lay hacc⟩
    · rintro i σ H' _ ⟨v1, v2, xs, rfl, ha, ht, S'⟩
      exact SqL.of (S' _ _ hq2)
    · rintro i y σ H' hy ⟨v1, v2, xs, rfl, ha, ht, S'⟩
      have hi : i < (prs ns.length).length := by rw [← ht2.1]; exact (List.getElem?_eq_some_iff.mp hy).1
      obtain ⟨a, b, e1, e2, e3⟩ := ht2.2 i _ (List.getElem?_eq_getElem hi)
      rw [hy] at e1
      have e1 : y = .ref a := Option.some.inj e1
      subst e1
      have hg : (prs ns.length)[i]? = some (prs ns.length)[i] := List.getElem?_eq_getElem hi
      generalize (prs ns.length)[i] = pr at e2 e3 hg
      have xlen : xs.length ≤ 1000000 := by
        rw [ht.1]
        exact Nat.le_trans (List.length_filter_le _ _) (by rw [List.length_take]; omega)
      have yes : hb ns (fun s => decide (s = tot)) pr = true → ∀ v1 v2 : Option V, ∃ (v1' v2' : Option V) (xs' : List V), [v1, v2, some (.int tot)] = [v1', v2', some (.int tot)] ∧ upd H' acc (.lst (xs ++ [.ref b])) acc = some (.lst xs') ∧ TupsAt g2 (upd H' acc (.lst (xs ++ [.ref b]))) xs' (((prs ns.length).take (i + 1)).filter (hb ns (fun s => decide (s = tot)))) ∧ Same H2 (upd H' acc (.lst (xs ++ [.ref b]))) := fun hh v1 v2 => by
        refine ⟨v1, v2, _, rfl, upd_same, ?_, fun c o e => by rw [upd_ne (ne_of_none e hacc)]; exact S' c o e⟩
        rw [filter_take_succ _ hg, hh]
        exact TupsAt.snoc (ht.mono fun c zs e => by rw [upd_ne (ne_of e ha (by intro z; cases z))]; exact e) (by rw [upd_ne (ne_of (S' _ _ e3) ha (by intro z; cases z))]; exact S' _ _ e3)
      have no : hb ns (fun s => decide (s = tot)) pr = false → ∀ v1 v2 : Option V, ∃ (v1' v2' : Option V) (xs' : List V), [v1, v2, some (.int tot)] = [v1', v2', some (.int tot)] ∧ H' acc = some (.lst xs') ∧ TupsAt g2 H' xs' (((prs ns.length).take (i + 1)).filter (hb ns (fun s => decide (s = tot)))) ∧ Same H2 H' := fun hh v1 v2 => by
        refine ⟨v1, v2, xs, rfl, ha, ?_, S'⟩
        rw [filter_take_succ _ hg, hh]
        simpa using ht
      refine ⟨a, _, rfl, SqT.of (S' _ _ e2), rfl, _, _, rfl, _, _, rfl, rfl, ?_⟩
      refine ⟨_, rfl, _, rfl, rfl, _, rfl, ite2 (fun e => ?_) (fun e => ?_)⟩
      · refine ⟨_, rfl, xs, ha, size_lt xlen, yes ?_ _ _⟩
        rw [decide_eq_true_eq] at e
        injection e with e
        exact decide_eq_true e
      · refine no ?_ _ _
        exact decide_eq_false fun z => e (decide_eq_true (congrArg V.int z))
    · rintro σ H' ⟨v1, v2, xs, rfl, ha, ht, S'⟩
      rw [ht2.1, List.take_length] at ht
      exact k acc xs H' (S2.free hacc) ha ht (S2.trans S')
end
end My

namespace My
open PySem L2
def pLt (a b : Nat × Nat) : Prop := a.1 < b.1 ∨ a.1 = b.1 ∧ a.2 < b.2
theorem from1_sorted (lo : Nat) : ∀ j, (from1 lo j).Pairwise pLt
  | 0 => by unfold from1; simp
  | j + 1 => by
    rw [from1_succ, List.pairwise_append]
    refine ⟨from1_sorted lo j, by simp, fun a ha b hb => ?_⟩
    unfold from1 at ha
    obtain ⟨t, ht, rfl⟩ := List.mem_map.mp ha
    have hb : b = (lo, lo + 1 + j) := by simpa using hb
    subst hb
    have := List.mem_range.mp ht
    exact .inr ⟨rfl, by show lo + 1 + t < lo + 1 + j; omega⟩
theorem prsTo_sorted (n : Nat) : ∀ i, (prsTo n i).Pairwise pLt ∧ ∀ p ∈ prsTo n i, p.1 < i
  | 0 => by unfold prsTo; simp
  | i + 1 => by
    obtain ⟨h1, h2⟩ := prsTo_sorted n i
    have h3 : ∀ p ∈ from1 i (n - i), p.1 = i := fun p hp => by
      unfold from1 at hp
      obtain ⟨t, _, rfl⟩ := List.mem_map.mp hp
      rfl
    rw [prsTo_succ]
    refine ⟨List.pairwise_append.mpr ⟨h1, from1_sorted _ _, fun a ha b hb => .inl (by rw [h3 b hb]; exact h2 a ha)⟩, fun p hp => ?_⟩
    rcases List.mem_append.mp hp with h | h
    · have := h2 p h; omega
    · rw [h3 p h]; exact Nat.lt_succ_self _
theorem hitsBy_sorted (ns : List Int) (t : Int → Bool) : (hitsBy ns t).Pairwise pLt := (prsTo_sorted _ _).1.filter _
theorem hitsBy_mem {ns : List Int} {t : Int → Bool} {p : Nat × Nat} (h : p ∈ hitsBy ns t) : p.1 < p.2 ∧ p.2 ≤ ns.length := prs_mem (List.mem_filter.mp h).1
end My

namespace My
open PySem L2
/-! ### the mathematics of partings -/
structure Hits (n : Nat) (hs : List (Nat × Nat)) : Prop where
  sorted : hs.Pairwise pLt
  mem : ∀ p ∈ hs, p.1 < p.2 ∧ p.2 ≤ n
theorem Hits.tail {n : Nat} {p : Nat × Nat} {t : List (Nat × Nat)} (h : Hits n (p :: t)) : Hits n t := ⟨(List.pairwise_cons.mp h.sorted).2, fun q hq => h.mem q (List.mem_cons_of_mem _ hq)⟩
theorem Hits.head {n : Nat} {p : Nat × Nat} {t : List (Nat × Nat)} (h : Hits n (p :: t)) {q : Nat × Nat} (hq : q ∈ t) : p.1 ≤ q.1 := by
  rcases (List.pairwise_cons.mp h.sorted).1 q hq with z | z
  · omega
  · omega
def W0 (n : Nat) : Nat → Int := fun j => if j = n then 1 else 0
def ways (n : Nat) (hs : List (Nat × Nat)) : Nat → Int := hs.foldr (fun p f => updf f p.1 (f p.1 + f p.2)) (W0 n)
def evl (hs : List (Nat × Nat)) (l : Nat) : List Nat := (hs.filter fun p => decide (p.1 = l)).map (·.2)
theorem ways_cons {n : Nat} {p : Nat × Nat} {t : List (Nat × Nat)} (h : Hits n (p :: t)) {j : Nat} (hj : j ≠ p.1) : ways n (p :: t) j = ways n t j := by
  show updf (ways n t) p.1 _ j = _
  unfold updf
  rw [if_neg hj]
theorem sum_congr {α : Type} {f g : α → Int} : ∀ {l : List α}, (∀ x ∈ l, f x = g x) → (l.map f).sum = (l.map g).sum
  | [], _ => rfl
  | x :: t, h => by
    rw [List.map_cons, List.map_cons, List.sum_cons, List.sum_cons, h x List.mem_cons_self, sum_congr fun y hy => h y (List.mem_cons_of_mem _ hy)]
theorem ways_eq {n : Nat} : ∀ {hs : List (Nat × Nat)}, Hits n hs → ∀ j, ways n hs j = W0 n j + ((evl hs j).map (ways n hs)).sum
  | [], _, j => by simp [ways, evl]
  | p :: t, h, j => by
    have ih := ways_eq h.tail j
    have keep : ∀ x ∈ evl t j, ways n (p :: t) x = ways n t x := fun x hx => by
      obtain ⟨q, hq, rfl⟩ := List.mem_map.mp hx
      obtain ⟨hq, _⟩ := List.mem_filter.mp hq
      refine ways_cons h ?_
      have := h.head hq
      have := h.tail.mem q hq
      omega
    have hp := h.mem p List.mem_cons_self
    by_cases e : p.1 = j
    · have e1 : evl (p :: t) j = p.2 :: evl t j := by unfold evl; rw [List.filter_cons_of_pos (by simpa using e)]; rfl
      rw [e1, List.map_cons, List.sum_cons, sum_congr keep, ways_cons h (j := p.2) (by omega)]
      have e2 : ways n (p :: t) j = ways n t j + ways n t p.2 := by
        show (if j = p.1 then ways n t p.1 + ways n t p.2 else ways n t j) = _
        rw [if_pos e.symm, e]
      rw [e2, ih]; omega
    · have e1 : evl (p :: t) j = evl t j := by unfold evl; rw [List.filter_cons_of_neg (by simpa using e)]
      rw [e1, sum_congr keep, ways_cons h (Ne.symm e), ih]
theorem ways_nonneg (n : Nat) : ∀ (hs : List (Nat × Nat)) (j : Nat), 0 ≤ ways n hs j
  | [], j => by unfold ways W0; simp only [List.foldr_nil]; split <;> omega
  | p :: t, j => by
    have h1 := ways_nonneg n t
    show 0 ≤ updf (ways n t) p.1 _ j
    unfold updf
    split
    · have := h1 p.1; have := h1 p.2; show 0 ≤ ways n t p.1 + ways n t p.2; omega
    · exact h1 j
theorem evl_mem {n : Nat} {hs : List (Nat × Nat)} (h : Hits n hs) {l x : Nat} (hx : x ∈ evl hs l) : l < x ∧ x ≤ n ∧ (l, x) ∈ hs := by
  obtain ⟨q, hq, rfl⟩ := List.mem_map.mp hx
  obtain ⟨hq', e⟩ := List.mem_filter.mp hq
  have e : q.1 = l := of_decide_eq_true e
  have := h.mem q hq'
  subst e
  exact ⟨this.1, this.2, hq'⟩
theorem mem_evl {hs : List (Nat × Nat)} {l x : Nat} (hx : (l, x) ∈ hs) : x ∈ evl hs l := List.mem_map.mpr ⟨(l, x), List.mem_filter.mpr ⟨hx, by simp⟩, rfl⟩
theorem ways_last {n : Nat} {hs : List (Nat × Nat)} (h : Hits n hs) : ways n hs n = 1 := by
  rw [ways_eq h n]
  have : evl hs n = [] := by
    rw [List.eq_nil_iff_forall_not_mem]
    intro x hx
    have := evl_mem h hx
    omega
  rw [this]
  unfold W0
  simp
theorem sum_pos {α : Type} {f : α → Int} : ∀ {l : List α}, (∀ x ∈ l, 0 ≤ f x) → (0 < (l.map f).sum ↔ ∃ x ∈ l, 0 < f x)
  | [], _ => by simp
  | x :: t, h => by
    have ih := sum_pos (f := f) (l := t) fun y hy => h y (List.mem_cons_of_mem _ hy)
    have h0 := h x List.mem_cons_self
    have h1 : 0 ≤ (t.map f).sum := by
      have : ∀ {l : List α}, (∀ y ∈ l, 0 ≤ f y) → 0 ≤ (l.map f).sum := by
        intro l
        induction l with
        | nil => intro _; simp
        | cons a l ih => intro h; have := h a List.mem_cons_self; have := ih fun y hy => h y (List.mem_cons_of_mem _ hy); simp only [List.map_cons, List.sum_cons]; omega
      exact this fun y hy => h y (List.mem_cons_of_mem _ hy)
    rw [List.map_cons, List.sum_cons]
    constructor
    · intro hp
      by_cases e : 0 < f x
      · exact ⟨x, List.mem_cons_self, e⟩
      · obtain ⟨y, hy, z⟩ := ih.mp (by omega)
        exact ⟨y, List.mem_cons_of_mem _ hy, z⟩
    · rintro ⟨y, hy, z⟩
      rcases List.mem_cons.mp hy with rfl | hy
      · omega
      · have := ih.mpr ⟨y, hy, z⟩; omega
theorem ways_pos {n : Nat} {hs : List (Nat × Nat)} (h : Hits n hs) {j : Nat} (hj : j < n) : 0 < ways n hs j ↔ ∃ x ∈ evl hs j, 0 < ways n hs x := by
  rw [ways_eq h j]
  have : W0 n j = 0 := by unfold W0; rw [if_neg (by omega)]
  rw [this, Int.zero_add]
  exact sum_pos fun x _ => ways_nonneg n hs x
/-! ### from the begin on -/
/-! ### the first parting -/
/-- the ends of the stretches from l on behind which the rest can be parted -/
def evg (n : Nat) (hs : List (Nat × Nat)) (l : Nat) : List Nat := (evl hs l).filter fun x => decide (0 < ways n hs x)
def chain (n : Nat) (hs : List (Nat × Nat)) : Nat → Nat → List (Nat × Nat)
  | 0, _ => []
  | k + 1, l => match (evg n hs l).head? with | some x => (l, x) :: chain n hs k x | none => []
theorem chain_more {n : Nat} {hs : List (Nat × Nat)} (h : Hits n hs) : ∀ k l, n - l ≤ k → l ≤ n → chain n hs (k + 1) l = chain n hs k l
  | 0, l, hk, hl => by
    have : evg n hs l = [] := by
      rw [List.eq_nil_iff_forall_not_mem]
      intro x hx
      have := evl_mem h (List.mem_filter.mp hx).1
      omega
    unfold chain
    rw [this]; rfl
  | k + 1, l, hk, hl => by
    unfold chain
    cases e : (evg n hs l).head? with
    | none => rfl
    | some x =>
      have hx := evl_mem h (List.mem_filter.mp (List.mem_of_mem_head? e)).1
      show (l, x) :: chain n hs (k + 1) x = (l, x) :: chain n hs k x
      rw [chain_more h k x (by omega) hx.2.1]
/-- the chain from the place l on, to its end -/
def chn (n : Nat) (hs : List (Nat × Nat)) (l : Nat) : List (Nat × Nat) := chain n hs n l
theorem chn_eq {n : Nat} {hs : List (Nat × Nat)} (h : Hits n hs) {l x : Nat} (hl : l < n) (e : (evg n hs l).head? = some x) : chn n hs l = (l, x) :: chn n hs x := by
  have hx := evl_mem h (List.mem_filter.mp (List.mem_of_mem_head? e)).1
  unfold chn
  obtain ⟨m, rfl⟩ : ∃ m, n = m + 1 := ⟨n - 1, by omega⟩
  have e1 : chain (m + 1) hs (m + 1) x = chain (m + 1) hs m x := chain_more h m x (by omega) hx.2.1
  rw [e1]
  show (match (evg (m + 1) hs l).head? with | some x => (l, x) :: chain (m + 1) hs m x | none => []) = _
  rw [e]
theorem chn_last {n : Nat} {hs : List (Nat × Nat)} (h : Hits n hs) : chn n hs n = [] := by
  have e : evg n hs n = [] := by
    rw [List.eq_nil_iff_forall_not_mem]
    intro x hx
    have := evl_mem h (List.mem_filter.mp hx).1
    omega
  unfold chn
  cases n with
  | zero => rfl
  | succ m =>
    show (match (evg (m + 1) hs (m + 1)).head? with | some x => (m + 1, x) :: chain (m + 1) hs m x | none => []) = _
    rw [e]; rfl
/-- one stretch more is looked at -/
theorem evg_head {n : Nat} {hs : List (Nat × Nat)} {i : Nat} {p : Nat × Nat} (hp : hs[i]? = some p) (hg : 0 < ways n hs p.2) (hn : ∀ q ∈ hs.take i, q.1 = p.1 → ¬ 0 < ways n hs q.2) : (evg n hs p.1).head? = some p.2 := by
  have hlt := (List.getElem?_eq_some_iff.mp hp).1
  have e : hs = hs.take i ++ p :: hs.drop (i + 1) := by
    have e1 := (List.take_append_drop i hs).symm
    have e2 : hs.drop i = p :: hs.drop (i + 1) := by
      rw [List.drop_eq_getElem_cons hlt]
      congr 1
      exact Option.some.inj ((List.getElem?_eq_getElem hlt).symm.trans hp)
    rw [e2] at e1
    exact e1
  have e3 : evl hs p.1 = evl (hs.take i) p.1 ++ p.2 :: evl (hs.drop (i + 1)) p.1 := by
    unfold evl
    conv => lhs; rw [e]
    rw [List.filter_append, List.filter_cons_of_pos (by simp), List.map_append, List.map_cons]
  unfold evg
  rw [e3, List.filter_append, List.filter_cons_of_pos (by simpa using hg)]
  have e4 : (evl (hs.take i) p.1).filter (fun x => decide (0 < ways n hs x)) = [] := by
    rw [List.filter_eq_nil_iff]
    intro x hx
    obtain ⟨q, hq, rfl⟩ := List.mem_map.mp hx
    obtain ⟨hq, e⟩ := List.mem_filter.mp hq
    have := hn q hq (of_decide_eq_true e)
    simpa using this
  rw [e4]; rfl
end My

namespace My
open PySem L2
/-- all is kept but what stands at l -/
def Kp (l : Addr) (H H' : Hp) : Prop := ∀ b o, H b = some o → b ≠ l → H' b = some o
theorem Kp.refl {l : Addr} (H : Hp) : Kp l H H := fun _ _ h _ => h
theorem Kp.trans {l : Addr} {H H1 H2 : Hp} (a : Kp l H H1) (b : Kp l H1 H2) : Kp l H H2 := fun x o h n => b x o (a x o h n) n
theorem Kp.of {l : Addr} {H H' : Hp} (s : Same H H') : Kp l H H' := fun b o h _ => s b o h
theorem Kp.wr {l : Addr} {H H' : Hp} {o : HO} (s : Kp l H H') : Kp l H (upd H' l o) := fun b o' h n => by rw [upd_ne n]; exact s b o' h n
theorem Kp.lay {l p : Addr} {H H' : Hp} {o : HO} (s : Kp l H H') (h : H' p = none) : Kp l H (upd H' p o) := fun b o' e n => by rw [upd_ne (ne_of_none (s b o' e n) h)]; exact s b o' e n
/-- the list at l was new -/
theorem Kp.same {l : Addr} {H H1 H' : Hp} (s : Same H H1) (h : H l = none) (k : Kp l H1 H') : Same H H' := fun b o e => k b o (s b o e) (ne_of_none e h)
theorem Kp.tups {α : Type} {g : α → List V} {l : Addr} {H H' : Hp} {xs ys : List V} {ps : List α} (k : Kp l H H') (hl : H l = some (.lst ys)) (h : TupsAt g H xs ps) : TupsAt g H' xs ps := h.mono fun a zs e => k a _ e (ne_of e hl (by intro z; cases z))
abbrev eqT (tot : Int) : Int → Bool := fun s => decide (s = tot)
theorem hitsOk (ns : List Int) (tot : Int) : Hits ns.length (hitsBy ns (eqT tot)) := ⟨hitsBy_sorted _ _, fun _ h => hitsBy_mem h⟩
end My

namespace My
open PySem L2
/-! ### a list of lists that grow -/
structure LLAt (H : Hp) (l : Addr) (as : List Addr) (g : Nat → List V) : Prop where
  self : H l = some (.lst (as.map V.ref))
  nd : as.Nodup
  out : l ∉ as
  each : ∀ (i : Nat) (a : Addr), as[i]? = some a → H a = some (.lst (g i))
/-- all is kept but what stands at those of as -/
def Kl (as : List Addr) (H H' : Hp) : Prop := ∀ b o, H b = some o → b ∉ as → H' b = some o
theorem Kl.refl {as : List Addr} (H : Hp) : Kl as H H := fun _ _ h _ => h
theorem Kl.wr {as : List Addr} {a : Addr} {H H' : Hp} {o : HO} (s : Kl as H H') (h : a ∈ as) : Kl as H (upd H' a o) := fun b o' e n => by rw [upd_ne (show b ≠ a from fun z => n (by rw [z]; exact h))]; exact s b o' e n
theorem Kl.same {as : List Addr} {H H1 H' : Hp} (s : Same H H1) (h : ∀ a ∈ as, H a = none) (k : Kl as H1 H') : Same H H' := fun b o e => k b o (s b o e) fun z => by rw [h b z] at e; cases e
theorem LLAt.same {H H' : Hp} {l : Addr} {as : List Addr} {g : Nat → List V} (h : LLAt H l as g) (s : Same H H') : LLAt H' l as g := ⟨s _ _ h.self, h.nd, h.out, fun i a e => s _ _ (h.each i a e)⟩
theorem LLAt.get {H : Hp} {l : Addr} {as : List Addr} {g : Nat → List V} (h : LLAt H l as g) {i : Nat} (hi : i < as.length) : ∃ a, (as.map V.ref)[i]? = some (.ref a) ∧ as[i]? = some a ∧ H a = some (.lst (g i)) := by
  have e := List.getElem?_eq_getElem hi
  exact ⟨as[i], by rw [List.getElem?_map, e]; rfl, e, h.each i _ e⟩
theorem LLAt.push {H : Hp} {l : Addr} {as : List Addr} {g : Nat → List V} (h : LLAt H l as g) {i : Nat} {a : Addr} (ha : as[i]? = some a) (ys : List V) : LLAt (upd H a (.lst ys)) l as (fun j => if j = i then ys else g j) := by
  have hm := List.mem_of_getElem? ha
  refine ⟨?_, h.nd, h.out, fun j b e => ?_⟩
  · rw [upd_ne (show l ≠ a from fun z => h.out (by rw [z]; exact hm))]; exact h.self
  · by_cases e1 : j = i
    · subst e1
      rw [ha] at e
      have e : a = b := Option.some.inj e
      subst e
      rw [upd_same, if_pos rfl]
    · rw [if_neg e1, upd_ne]
      · exact h.each j b e
      · intro z
        subst z
        obtain ⟨h1, h2⟩ := List.getElem?_eq_some_iff.mp ha
        obtain ⟨h3, h4⟩ := List.getElem?_eq_some_iff.mp e
        exact e1 ((List.getElem_inj h.nd).mp (h4.trans h2.symm))
theorem LLAt.congr {H : Hp} {l : Addr} {as : List Addr} {g g' : Nat → List V} (h : LLAt H l as g) (e : ∀ i, i < as.length → g i = g' i) : LLAt H l as g' :=
  ⟨h.self, h.nd, h.out, fun i a q => by rw [← e i (List.getElem?_eq_some_iff.mp q).1]; exact h.each i a q⟩
/-- [[] for ..], a turn: what is asked of the list that grows -/
structure LLNew (H0 H : Hp) (acc : Addr) (as : List Addr) (i : Nat) : Prop where
  self : H acc = some (.lst (as.map V.ref))
  len : as.length = i
  nd : as.Nodup
  each : ∀ a ∈ as, H a = some (.lst []) ∧ H0 a = none ∧ a ≠ acc
  same : Same H0 H
theorem LLNew.start {H0 : Hp} {acc : Addr} (h : H0 acc = none) : LLNew H0 (upd H0 acc (.lst [])) acc [] 0 := ⟨upd_same, rfl, List.nodup_nil, fun _ h => (nomatch h), Same.lay h⟩
theorem LLNew.more {H0 H : Hp} {acc p : Addr} {as : List Addr} {i : Nat} (h : LLNew H0 H acc as i) (h0 : H0 acc = none) (hp : H p = none) : LLNew H0 (upd (upd H p (.lst [])) acc (.lst (as.map V.ref ++ [.ref p]))) acc (as ++ [p]) (i + 1) := by
  have np : p ≠ acc := fun e => by subst e; rw [h.self] at hp; cases hp
  have npa : p ∉ as := fun z => by rw [(h.each p z).1] at hp; cases hp
  refine ⟨by rw [upd_same, List.map_append]; rfl, by rw [List.length_append, h.len]; rfl, ?_, fun a ha => ?_, fun b o e => ?_⟩
  · rw [List.nodup_append]
    exact ⟨h.nd, by simp, fun a ha b hb z => npa ((List.mem_singleton.mp hb) ▸ z ▸ ha)⟩
  · rcases List.mem_append.mp ha with z | z
    · obtain ⟨h1, h2, h3⟩ := h.each a z
      refine ⟨?_, h2, h3⟩
      rw [upd_ne h3, upd_ne (show a ≠ p from fun e => npa (by rw [← e]; exact z))]; exact h1
    · have : a = p := by simpa using z
      subst this
      exact ⟨by rw [upd_ne np, upd_same], h.same.free hp, np⟩
  · rw [upd_ne (ne_of_none e h0), upd_ne (ne_of_none (h.same b o e) hp)]; exact h.same b o e
theorem LLNew.done {H0 H : Hp} {acc : Addr} {as : List Addr} {i : Nat} (h : LLNew H0 H acc as i) : LLAt H acc as (fun _ => []) := ⟨h.self, h.nd, fun z => (h.each _ z).2.2 rfl, fun j a e => (h.each a (List.mem_of_getElem? e)).1⟩
end My

namespace My
open PySem L2
def spLen : Sp := fun vs H Q _ => ∃ (a : Addr) (p : Nat × Nat), vs = [.ref a] ∧ H a = some (.tup (g2 p)) ∧ Q (.int ((p.2 : Int) - (p.1 : Int))) H
section
variable {P : Program} {w : World} {K : PySem.W.Frag} {mg : Str → Option Value} {base : Heap}
abbrev s_length_of : Stmt := top 4
theorem sc_length_of : FnScope ["stretch", "low", "high"] ["stretch"] (defScope s_length_of) := ⟨rfl, rfl, rfl, by decide +kernel, rfl, by decide +kernel, by decide +kernel⟩
theorem ok_length_of {f : Addr} {fd : FuncData} (F : Fun K "length_of" "length_of" s_length_of f fd) (T : Txt mg) : FnOk P w K mg base CX0 1 f fd ["stretch"] spLen := by
  refine F.ok sc_length_of (fun vs H Q E h => ?_) (fun cdv A outer s H vs Q E hr h => ?_)
  · obtain ⟨a, p, rfl, _⟩ := h
    rfl
  · obtain ⟨a, p, rfl, ha, k⟩ := h
    refine ⟨_, (pss_cons (ps_asg (pv 0) (pgT (K := K) (n := 2) rfl rfl (pgs_cons (pg_name (i := 1) sc_length_of.nd rfl (Or.inl rfl)) (pgs_cons (pg_name (i := 2) sc_length_of.nd rfl (Or.inl rfl)) pgs_nil))))
      (pss_one (ps_ret (pe_op op_sub (pv 2) (pv 1))))), ?_⟩
    refine ⟨_, rfl, a, _, rfl, SqT.of ha, rfl, _, _, rfl, _, _, rfl, rfl, ?_⟩
    exact ⟨_, rfl, _, rfl, _, _, rfl, rfl, k⟩
end
end My

namespace My
open PySem L2
/-! ### what the best stretches apart are worth -/
/-- from the place m on -/
def BstFrom (n : Nat) (hs : List (Nat × Nat)) (wf : Nat × Nat → Int) (f : Nat → Int) (m : Nat) : Prop := f n = 0 ∧ ∀ p, m ≤ p → p < n → f (p + 1) ≤ f p ∧ (∀ x ∈ evl hs p, wf (p, x) + f x ≤ f p) ∧ (f p = f (p + 1) ∨ ∃ x ∈ evl hs p, f p = wf (p, x) + f x)
def Bst (n : Nat) (hs : List (Nat × Nat)) (wf : Nat × Nat → Int) (f : Nat → Int) : Prop := BstFrom n hs wf f 0
/-- one place more -/
theorem BstFrom.step {n : Nat} {hs : List (Nat × Nat)} {wf : Nat × Nat → Int} {f : Nat → Int} {m : Nat} (HO : Hits n hs) (h : BstFrom n hs wf f (m + 1)) (hm : m < n) {z : Int} (h1 : f (m + 1) ≤ z) (h2 : ∀ x ∈ evl hs m, wf (m, x) + f x ≤ z) (h3 : z = f (m + 1) ∨ ∃ x ∈ evl hs m, z = wf (m, x) + f x) :
    BstFrom n hs wf (updf f m z) m := by
  have keep : ∀ j, m < j → updf f m z j = f j := fun j hj => by unfold updf; rw [if_neg (by omega)]
  refine ⟨by rw [keep n hm]; exact h.1, fun p hp hpn => ?_⟩
  rw [keep (p + 1) (by omega)]
  by_cases e : p = m
  · subst e
    have e1 : updf f p z p = z := by unfold updf; rw [if_pos rfl]
    rw [e1]
    refine ⟨h1, fun x hx => ?_, ?_⟩
    · rw [keep x (evl_mem HO hx).1]; exact h2 x hx
    · rcases h3 with h | ⟨x, hx, h⟩
      · exact .inl h
      · exact .inr ⟨x, hx, by rw [keep x (evl_mem HO hx).1]; exact h⟩
  · obtain ⟨g1, g2, g3⟩ := h.2 p (by omega) hpn
    rw [keep p (by omega)]
    refine ⟨g1, fun x hx => ?_, ?_⟩
    · have := (evl_mem HO hx).1
      rw [keep x (by omega)]; exact g2 x hx
    · rcases g3 with h | ⟨x, hx, h⟩
      · exact .inl h
      · have := (evl_mem HO hx).1
        exact .inr ⟨x, hx, by rw [keep x (by omega)]; exact h⟩
theorem BstFrom.none (n : Nat) (hs : List (Nat × Nat)) (wf : Nat × Nat → Int) : BstFrom n hs wf (fun _ => 0) n := ⟨rfl, fun p h1 h2 => by omega⟩
/-- from the begin on, up to the place m -/
def FwdTo (hs : List (Nat × Nat)) (wf : Nat × Nat → Int) (g : Nat → Int) (m : Nat) : Prop := g 0 = 0 ∧ ∀ p, p < m → g p ≤ g (p + 1) ∧ (∀ l, (l, p + 1) ∈ hs → wf (l, p + 1) + g l ≤ g (p + 1)) ∧ (g (p + 1) = g p ∨ ∃ l, (l, p + 1) ∈ hs ∧ g (p + 1) = wf (l, p + 1) + g l)
theorem FwdTo.step {n : Nat} {hs : List (Nat × Nat)} {wf : Nat × Nat → Int} {g : Nat → Int} {m : Nat} (HO : Hits n hs) (h : FwdTo hs wf g m) {z : Int} (h1 : g m ≤ z) (h2 : ∀ l, (l, m + 1) ∈ hs → wf (l, m + 1) + g l ≤ z) (h3 : z = g m ∨ ∃ l, (l, m + 1) ∈ hs ∧ z = wf (l, m + 1) + g l) :
    FwdTo hs wf (updf g (m + 1) z) (m + 1) := by
  have keep : ∀ j, j ≤ m → updf g (m + 1) z j = g j := fun j hj => by unfold updf; rw [if_neg (by omega)]
  refine ⟨by rw [keep 0 (Nat.zero_le _)]; exact h.1, fun p hp => ?_⟩
  rw [keep p (by omega)]
  by_cases e : p = m
  · subst e
    have e1 : updf g (p + 1) z (p + 1) = z := by unfold updf; rw [if_pos rfl]
    rw [e1]
    refine ⟨h1, fun l hl => ?_, ?_⟩
    · have := (HO.mem _ hl).1
      rw [keep l (by simp only at this; omega)]; exact h2 l hl
    · rcases h3 with h | ⟨l, hl, h⟩
      · exact .inl h
      · have := (HO.mem _ hl).1
        exact .inr ⟨l, hl, by rw [keep l (by simp only at this; omega)]; exact h⟩
  · obtain ⟨g1, g2, g3⟩ := h.2 p (by omega)
    rw [keep (p + 1) (by omega)]
    refine ⟨g1, fun l hl => ?_, ?_⟩
    · have := (HO.mem _ hl).1
      rw [keep l (by simp only at this; omega)]; exact g2 l hl
    · rcases g3 with h | ⟨l, hl, h⟩
      · exact .inl h
      · have := (HO.mem _ hl).1
        exact .inr ⟨l, hl, by rw [keep l (by simp only at this; omega)]; exact h⟩
end My

namespace My
open PySem L2
/-- the stretches that begin at l -/
def hsAt (hs : List (Nat × Nat)) (l : Nat) : List (Nat × Nat) := hs.filter fun p => decide (p.1 = l)
theorem hsAt_snoc (hs : List (Nat × Nat)) (p : Nat × Nat) (l : Nat) : hsAt (hs ++ [p]) l = if l = p.1 then hsAt hs p.1 ++ [p] else hsAt hs l := by
  unfold hsAt
  rw [List.filter_append]
  by_cases e : l = p.1
  · subst e
    rw [if_pos rfl, List.filter_cons_of_pos (by simp)]; rfl
  · rw [if_neg e, List.filter_cons_of_neg (by simpa using Ne.symm e)]; simp
theorem hsAt_mem {hs : List (Nat × Nat)} {l : Nat} {p : Nat × Nat} (h : p ∈ hsAt hs l) : p ∈ hs ∧ p.1 = l := ⟨(List.mem_filter.mp h).1, of_decide_eq_true (List.mem_filter.mp h).2⟩
/-- the stretches by begins, as the program keeps them -/
def SfAt (H : Hp) (l : Addr) (as : List Addr) (hs : List (Nat × Nat)) : Prop := ∃ g, LLAt H l as g ∧ ∀ i, i < as.length → TupsAt g2 H (g i) (hsAt hs i)
theorem Kl.tups {α : Type} {g : α → List V} {gg : Nat → List V} {l : Addr} {as : List Addr} {H H' : Hp} {xs : List V} {ps : List α} (k : Kl as H H') (hl : LLAt H l as gg) (h : TupsAt g H xs ps) : TupsAt g H' xs ps := h.mono fun a zs e => k a _ e fun z => by
  obtain ⟨j, hj, ej⟩ := List.getElem_of_mem z
  have := hl.each j a (by rw [List.getElem?_eq_getElem hj, ej])
  rw [this] at e; cases e
def spBest (fw : Addr) (wf : Nat × Nat → Int) (E : Hp → Prop) : Sp := fun vs H Q _ => ∃ (p : Addr) (ns : List Int) (tot : Int), vs = [.ref p, .int tot, .ref fw] ∧ RowAt H p ns ∧ E H ∧ ∀ q f H', H q = none → H' q = some (.lst (fl (ns.length + 1) f)) → Bst ns.length (hitsBy ns (eqT tot)) wf f → Same H H' → Q (.ref q) H'
section
variable {P : Program} {w : World} {K : PySem.W.Frag} {mg : Str → Option Value} {base : Heap}
abbrev s_best_from : Stmt := top 10
theorem sc_best_from : FnScope ["row", "total", "worth", "stretches_from", "stretch", "best", "place", "taken"] ["row", "total", "worth"] (defScope s_best_from) := ⟨rfl, rfl, rfl, by decide +kernel, rfl, by decide +kernel, by decide +kernel⟩
theorem ok_best_from {f fa fw : Addr} {fd fda : FuncData} {spw : Sp} (wf : Nat × Nat → Int) (EH : Hp → Prop) (hE : ∀ H H', EH H → Same H H' → EH H') (F : Fun K "best_from" "best_from" s_best_from f fd) (T : Txt mg) (D_all_with : DefAt K mg "all_with" s_all_with ["row", "total"] fa fda) (G_all_with : FnOk P w K mg base CX0 3 fa fda ["row", "total"] spAll)
    (C_worth : CalOk P w K mg base fw 1 spw) (hsp : ∀ a p H Q E, H a = some (.tup (g2 p)) → EH H → (∀ H', Same H H' → Q (.int (wf p)) H') → spw [.ref a] H Q E) :
    FnOk P w K mg base CX0 4 f fd ["row", "total", "worth"] (spBest fw wf EH) := by
  refine F.ok sc_best_from (fun vs H Q E h => ?_) (fun cdv A outer s H vs Q E hr h => ?_)
  · obtain ⟨p, ns, tot, rfl, _⟩ := h
    rfl
  · obtain ⟨p, ns, tot, rfl, ⟨hp, hl⟩, hEH, k⟩ := h
    refine ⟨_, (pss_cons (ps_setComp (i := 3) (hN := sc_best_from.nd) (hy := rfl) (hx := rfl) (N := ["number"]) (cap := [none]) (hc := rfl) (hok := (show blkOk ["row", "total", "worth", "stretches_from", "stretch", "best", "place", "taken"] (defScope s_best_from) ["number"] [none] _ = true by decide +kernel) ) (hi := (piT (K := K) rfl (pv 0))) (hb := fun cl C s3 H3 fp => ⟨(pg_name (i := 0) (show (["number"] : List Str).Nodup by decide +kernel) rfl (Or.inl rfl)), pts_nil, fun it acc => (paf_emit rfl (pe_lst pa_nil))⟩))
      (pss_cons (ps_for PassesOwn.never rfl (piL (K := K) rfl (pe_call G_all_with (hr.mono (by first | decide | exact Nat.le_refl _)) rfl D_all_with.mg D_all_with.fn.kp D_all_with.bd .nil pass0 (pa_cons (pv 0) (pa_cons (pv 1) pa_nil)))) (pg_name (i := 4) sc_best_from.nd rfl (Or.inl rfl))
        (pss_one (ps_expr (pe_bm PySem.F.plainAttrs_list PySem.F.slot_list_append PySem.F.type_list_append mt_append (pe_ix (ixL (K := K) rfl) (pv 3) (pe_ix (ixT (K := K) rfl) (pv 4) pe_int (fun _ _ => rfl)) (fun _ _ => rfl)) (pa_cons (pv 4) pa_nil)))))
      (pss_cons (ps_set (i := 5) sc_best_from.nd rfl (Or.inr rfl) (pe_op op_rep (pe_lst (pa_cons pe_int pa_nil)) (pe_op op_add (pe_callB (cLen (K := K) rfl) (by rfl) T.b_len PyProof.Rows.Boot.«len» (pa_cons (pv 0) pa_nil)) pe_int)))
      (pss_cons (ps_for PassesOwn.never rfl (pi_revR (by rfl) T.b_reversed (by rfl) T.b_range (pa_cons (pe_callB (cLen (K := K) rfl) (by rfl) T.b_len PyProof.Rows.Boot.«len» (pa_cons (pv 0) pa_nil)) pa_nil)) (pg_name (i := 6) sc_best_from.nd rfl (Or.inl rfl))
        (pss_cons (ps_setComp (i := 7) (hN := sc_best_from.nd) (hy := rfl) (hx := rfl) (N := ["stretch", "worth", "best"]) (cap := [none, some 2, some 5]) (hc := rfl) (hok := (show blkOk ["row", "total", "worth", "stretches_from", "stretch", "best", "place", "taken"] (defScope s_best_from) ["stretch", "worth", "best"] [none, some 2, some 5] _ = true by decide +kernel) ) (hi := (piL (K := K) rfl (pe_ix (ixL (K := K) rfl) (pv 3) (pv 6) (fun _ _ => rfl)))) (hb := fun cl C s3 H3 fp => ⟨(pg_name (i := 0) (show (["stretch", "worth", "best"] : List Str).Nodup by decide +kernel) rfl (Or.inl rfl)), pts_nil, fun it acc => (paf_emit rfl (pe_op op_add (pe_calV C_worth rfl rfl rfl rfl rfl (hr.mono (by first | decide | exact Nat.le_refl _)) 1 (pa_cons (pv 0) pa_nil)) (pe_ix (ixL (K := K) rfl) (pv 2) (pe_ix (ixT (K := K) rfl) (pv 0) pe_int (fun _ _ => rfl)) (fun _ _ => rfl))))⟩))
        (pss_one (ps_asg (pe_callB (cMmI false (K := K) rfl rfl) (by rfl) T.b_max PyProof.Rows.Boot.«max» (pa_cons (pe_op op_cat (pv 7) (pe_lst (pa_cons (pe_ix (ixL (K := K) rfl) (pv 5) (pe_op op_add (pv 6) pe_int) (fun _ _ => rfl)) pa_nil))) pa_nil)) (pg_sub (pv 5) (pv 6) set_list)))))
      (pss_one (ps_ret (pv 5))))))), ?_⟩
    have hlm : (ns.map V.int).length = ns.length := List.length_map _
    have HO := hitsOk ns tot
    have plen : (hitsBy ns (eqT tot)).length ≤ 1000000 := Nat.le_trans (List.length_filter_le _ _) (prs_len ns.length hl)
    -- stretches_from = [[] for number in row]
    refine ⟨_, rfl, p, rfl, ⟨_, SqT.of hp⟩, fun sf hsf => ?_⟩
    refine walk_tup (xs := ns.map V.int) (fun i σ H' => ∃ (v : Option V) (as : List Addr), σ = [v] ∧ LLNew H H' sf as i) ?_ ?_ ?_ ?_
    · exact ⟨none, [], rfl, LLNew.start hsf⟩
    · rintro i σ H' _ ⟨v, as, rfl, N⟩
      exact SqT.of (N.same _ _ hp)
    · rintro i x σ H' hx ⟨v, as, rfl, N⟩
      have hi : i < ns.length := by rw [← hlm]; exact (List.getElem?_eq_some_iff.mp hx).1
      exact ⟨by show 0 ≤ sizeLine; decide, fun q hq => ⟨_, (upd_ne (ne_of_none N.self hq)).trans N.self, size_lt (by rw [List.length_map, N.len]; omega), _, _, rfl, N.more hsf hq⟩⟩
    rintro σ H1 ⟨v, as, rfl, N⟩
    have hasl : as.length = ns.length := N.len.trans hlm
    have hasn : ∀ b ∈ as, H b = none := fun b hb => (N.each b hb).2.1
    have L1 := N.done
    -- for stretch in all_with(row, total)
    refine ⟨_, rfl, _, rfl, p, ns, tot, rfl, ⟨N.same _ _ hp, hl⟩, fun q xs H2 hqn hq ht S2 => ⟨q, rfl, ⟨_, SqL.of hq⟩, ?_⟩⟩
    have L2 := L1.same S2
    have nq : q ∉ as := fun z => by have := (N.each q z).1; rw [hqn] at this; cases this
    refine for_list (xs := xs) (fun i σ H' => ∃ v4 : Option V, σ = [some (.ref p), some (.int tot), some (.ref fw), some (.ref sf), v4, none, none, none] ∧ SfAt H' sf as ((hitsBy ns (eqT tot)).take i) ∧ Kl as H2 H') ?_ ?_ ?_ ?_
    · exact ⟨none, rfl, ⟨_, L2, fun i _ => by simpa [hsAt] using TupsAt.nil⟩, Kl.refl _⟩
    · rintro i σ H' _ ⟨v4, rfl, _, k'⟩
      exact SqL.of (k' _ _ hq nq)
    · rintro i x σ H' hx ⟨v4, rfl, ⟨g, LL, htt⟩, k'⟩
      have hi : i < (hitsBy ns (eqT tot)).length := by rw [← ht.1]; exact (List.getElem?_eq_some_iff.mp hx).1
      obtain ⟨a, e1, e2⟩ := (k'.tups L2 ht).2 i _ (List.getElem?_eq_getElem hi)
      rw [hx] at e1
      have e1 : x = .ref a := Option.some.inj e1
      subst e1
      obtain ⟨⟨lo, hi'⟩, hpr⟩ : ∃ pr, (hitsBy ns (eqT tot))[i] = pr := ⟨_, rfl⟩
      rw [hpr] at e2
      have hg : (hitsBy ns (eqT tot))[i]? = some (lo, hi') := by rw [List.getElem?_eq_getElem hi, hpr]
      obtain ⟨m1, m2⟩ : lo < hi' ∧ hi' ≤ ns.length := HO.mem (lo, hi') (by rw [← hpr]; exact List.getElem_mem hi)
      obtain ⟨b, b1, b2, b3⟩ := LL.get (i := lo) (by omega)
      have hlo := htt lo (by omega)
      refine ⟨_, rfl, _, rfl, a, _, 0, .int (lo : Int), rfl, rfl, SqT.of e2, rfl, sf, _, _, _, rfl, rfl, SqL.of LL.self, atI_nat b1, .inl ⟨rfl, _, SqL.of b3⟩, _, rfl, b, _, _, rfl, rfl, b3, size_lt ?_, ?_⟩
      · rw [hlo.1]
        unfold hsAt
        refine Nat.le_trans (List.length_filter_le _ _) ?_
        rw [List.length_take]; omega
      · refine ⟨_, rfl, ⟨_, LL.push b2 _, fun j hj => ?_⟩, k'.wr (List.mem_of_getElem? b2)⟩
        have kk : ∀ (c : Addr) (zs : List V), H' c = some (.tup zs) → upd H' b (.lst (g lo ++ [.ref a])) c = some (.tup zs) := upd_tup b3
        rw [take_succ hg, hsAt_snoc]
        by_cases ej : j = lo
        · subst ej
          rw [if_pos rfl, if_pos rfl]
          exact TupsAt.snoc (hlo.mono kk) (kk _ _ e2)
        · rw [if_neg ej, if_neg ej]
          exact (htt j hj).mono kk
    rintro σ H3 ⟨v4, rfl, ⟨g, LL, htt⟩, k3⟩
    rw [ht.1, List.take_length] at htt
    have S3 : Same H H3 := Kl.same (N.same.trans S2) hasn k3
    -- best = [0] * (len(row) + 1)
    refine ⟨by show 1 ≤ sizeLine; decide, fun l1 h1 => ⟨_, rfl, p, _, rfl, .inr (SqT.of ((upd_ne (ne_of_none (S3 _ _ hp) h1)).trans (S3 _ _ hp))), _, _, rfl, rfl, l1, _, _, rfl, rfl, upd_same, by omega, by omega, size_le (by simp only [List.length_cons, List.length_nil]; omega), fun bs hbs => ?_⟩⟩
    have e0 : (List.replicate (((ns.map V.int).length : Int) + 1).toNat [V.int 0]).flatten = fl (ns.length + 1) (fun _ => 0) := by
      rw [show (((ns.map V.int).length : Int) + 1).toNat = ns.length + 1 by omega]
      have : ∀ m, (List.replicate m [V.int 0]).flatten = List.replicate m (V.int 0) := by
        intro m
        induction m with
        | zero => rfl
        | succ m ih => rw [List.replicate_succ, List.flatten_cons, ih, List.replicate_succ]; rfl
      rw [this]
      unfold fl
      apply List.ext_getElem?
      intro j
      by_cases hj : j < ns.length + 1
      · rw [List.getElem?_replicate, if_pos hj, List.getElem?_map, List.getElem?_range hj]; rfl
      · rw [List.getElem?_eq_none (by rw [List.length_replicate]; omega), List.getElem?_eq_none (by rw [List.length_map, List.length_range]; omega)]
    rw [e0]
    have S4 : Same H3 (upd (upd H3 l1 (.lst [.int 0])) bs (.lst (fl (ns.length + 1) (fun _ => 0)))) := (Same.lay h1).trans (Same.lay hbs)
    have hb4 := upd_same (H := upd H3 l1 (.lst [.int 0])) (a := bs) (o := .lst (fl (ns.length + 1) (fun _ => 0)))
    have nb3 : H3 bs = none := (Same.lay h1).free hbs
    generalize upd (upd H3 l1 (.lst [.int 0])) bs (.lst (fl (ns.length + 1) (fun _ => 0))) = H4 at S4 hb4 ⊢
    have L4 := LL.same S4
    have hp4 := S4 _ _ (S3 _ _ hp)
    have nbp : p ≠ bs := ne_of_none (S3 _ _ hp) nb3
    have nba : ∀ a ∈ as, a ≠ bs := fun a ha => by
      obtain ⟨j, hj, ej⟩ := List.getElem_of_mem ha
      exact ne_of_none (LL.each j a (by rw [List.getElem?_eq_getElem hj, ej])) nb3
    have nbs : sf ≠ bs := ne_of_none LL.self nb3
    have hnb : H bs = none := S3.free nb3
    -- for place in reversed(range(len(row)))
    refine ⟨_, rfl, p, _, rfl, .inr (SqT.of hp4), ns.length, by rw [hlm], by omega, ?_⟩
    refine for_rangeS (n := ns.length) (fun i σ H' => ∃ (v6 v7 : Option V) (f : Nat → Int), σ = [some (.ref p), some (.int tot), some (.ref fw), some (.ref sf), v4, some (.ref bs), v6, v7] ∧ H' bs = some (.lst (fl (ns.length + 1) f)) ∧ BstFrom ns.length (hitsBy ns (eqT tot)) wf f (ns.length - i) ∧ Kp bs H4 H') ?_ ?_ ?_
    · exact ⟨none, none, _, rfl, hb4, by simpa using BstFrom.none _ _ _, Kp.refl _⟩
    · rintro i σ H5 hi ⟨v6, v7, f, rfl, hb5, hB, k5⟩
      obtain ⟨m, hm⟩ : ∃ m : Nat, m = ns.length - 1 - i := ⟨_, rfl⟩
      have em : (ns.length : Int) - 1 + (i : Int) * -1 = (m : Int) := by omega
      have em2 : ns.length - i = m + 1 := by omega
      rw [em]
      rw [em2] at hB
      obtain ⟨b, b1, b2, b3⟩ := L4.get (i := m) (by omega)
      have nbb : b ≠ bs := nba b (List.mem_of_getElem? b2)
      have hb35 := k5 _ _ b3 nbb
      have htm : TupsAt g2 H5 (g m) (hsAt (hitsBy ns (eqT tot)) m) := k5.tups hb4 ((htt m (by omega)).mono (same_tup S4))
      -- taken = [..]
      refine ⟨_, rfl, _, rfl, sf, _, _, _, rfl, rfl, SqL.of (k5 _ _ L4.self nbs), atI_nat b1, b, rfl, ⟨_, SqL.of hb35⟩, fun acc hacc => ?_⟩
      have S45 : Same H H5 := Kp.same (S3.trans S4) hnb k5
      refine walk_list (xs := g m) (fun j σ H' => ∃ (v : Option V), σ = [v, some (.ref fw), some (.ref bs)] ∧ H' acc = some (.lst ((((hsAt (hitsBy ns (eqT tot)) m).take j).map fun r => wf r + f r.2).map V.int)) ∧ Same H5 H') ?_ ?_ ?_ ?_
      · exact ⟨none, rfl, upd_same, Same.lay hacc⟩
      · rintro j σ H' _ ⟨v, rfl, ha, S'⟩
        exact SqL.of (S' _ _ hb35)
      · rintro j x σ H' hx ⟨v, rfl, ha, S'⟩
        have hj : j < (hsAt (hitsBy ns (eqT tot)) m).length := by rw [← htm.1]; exact (List.getElem?_eq_some_iff.mp hx).1
        obtain ⟨a, e1, e2⟩ := htm.2 j _ (List.getElem?_eq_getElem hj)
        rw [hx] at e1
        have e1 : x = .ref a := Option.some.inj e1
        subst e1
        obtain ⟨⟨lo, hi'⟩, hpr⟩ : ∃ pr, (hsAt (hitsBy ns (eqT tot)) m)[j] = pr := ⟨_, rfl⟩
        rw [hpr] at e2
        have hg : (hsAt (hitsBy ns (eqT tot)) m)[j]? = some (lo, hi') := by rw [List.getElem?_eq_getElem hj, hpr]
        obtain ⟨mm, em3⟩ := hsAt_mem (List.mem_of_getElem? hg)
        obtain ⟨m1, m2⟩ : lo < hi' ∧ hi' ≤ ns.length := HO.mem (lo, hi') mm
        refine ⟨rfl, _, rfl, hsp a (lo, hi') H' _ _ (S' _ _ e2) (hE _ _ (hE _ _ hEH S45) S') fun H'' S'' => ?_⟩
        have S2' := S'.trans S''
        refine ⟨_, rfl, _, rfl, a, _, 1, .int (hi' : Int), rfl, rfl, SqT.of (S2' _ _ e2), rfl, bs, _, _, _, rfl, rfl, SqL.of (S2' _ _ hb5), fl_at (by omega), _, _, rfl, rfl, _, S'' _ _ ha, size_lt ?_, _, rfl, ?_, ?_⟩
        · rw [List.length_map, List.length_map, List.length_take]
          have : (hsAt (hitsBy ns (eqT tot)) m).length ≤ (hitsBy ns (eqT tot)).length := List.length_filter_le _ _
          omega
        · rw [upd_same, take_succ hg, List.map_append, List.map_append]; rfl
        · exact fun c o ec => by rw [upd_ne (ne_of_none ec hacc)]; exact S2' c o ec
      rintro σ H6 ⟨v, rfl, ha, S6⟩
      rw [htm.1, List.take_length] at ha
      have hb6 := S6 _ _ hb5
      -- best[place] = max(taken + [best[place + 1]])
      refine ⟨_, rfl, _, rfl, _, rfl, _, _, rfl, rfl, bs, _, _, _, rfl, rfl, SqL.of hb6, (show atI (fl (ns.length + 1) f) ((m : Int) + 1) = some (.int (f (m + 1))) from fl_at (j := m + 1) (by omega)), by show 1 ≤ sizeLine; decide, fun l2 hl2 => ⟨acc, l2, _, _, rfl, rfl, (upd_ne (ne_of_none ha hl2)).trans ha, upd_same, size_le ?_, fun l3 hl3 => ?_⟩⟩
      · rw [List.length_map, List.length_map]
        have : (hsAt (hitsBy ns (eqT tot)) m).length ≤ (hitsBy ns (eqT tot)).length := List.length_filter_le _ _
        have : (hitsBy ns (eqT tot)).length ≤ ns.length * 1000 := Nat.le_trans (List.length_filter_le _ _) (prsTo_len ns.length hl ns.length (Nat.le_refl _))
        have : (hsAt (hitsBy ns (eqT tot)) m).length ≤ ns.length := by
          have e : (hsAt (hitsBy ns (eqT tot)) m).Pairwise (fun a b => a.2 < b.2) := by
            unfold hsAt
            refine List.Pairwise.imp_of_mem ?_ (HO.sorted.filter _)
            intro a b ha hb hab
            have e1 : a.1 = m := of_decide_eq_true (List.mem_filter.mp ha).2
            have e2 : b.1 = m := of_decide_eq_true (List.mem_filter.mp hb).2
            rcases hab with z | z
            · omega
            · exact z.2
          have : ∀ (l : List (Nat × Nat)) (b : Nat), l.Pairwise (fun a b => a.2 < b.2) → (∀ a ∈ l, b < a.2 ∧ a.2 ≤ ns.length) → l.length ≤ ns.length - b := by
            intro l
            induction l with
            | nil => intro b _ _; simp
            | cons x t ih =>
              intro b hp hx
              have h1 := hx x List.mem_cons_self
              have := ih x.2 (List.pairwise_cons.mp hp).2 fun a ha => ⟨(List.pairwise_cons.mp hp).1 a ha, (hx a (List.mem_cons_of_mem _ ha)).2⟩
              rw [List.length_cons]; omega
          have := this _ 0 e fun a ha => by
            have := HO.mem a (hsAt_mem ha).1
            omega
          omega
        show _ + 1 ≤ 1000000
        omega
      have S7 : Same H6 (upd (upd H6 l2 (.lst [.int (f (m + 1))])) l3 (.lst ((((hsAt (hitsBy ns (eqT tot)) m).map fun r => wf r + f r.2) ++ [f (m + 1)]).map V.int))) := (Same.lay hl2).trans (Same.lay hl3)
      refine ⟨l3, ((hsAt (hitsBy ns (eqT tot)) m).map fun r => wf r + f r.2) ++ [f (m + 1)], rfl, SqL.of (by rw [upd_same, List.map_append]; rfl), by rw [List.length_append]; simp, fun z H8 hz hmx S8 => ?_⟩
      have ee : (((hsAt (hitsBy ns (eqT tot)) m).map fun r => wf r + f r.2).map V.int ++ [V.int (f (m + 1))]) = (((hsAt (hitsBy ns (eqT tot)) m).map fun r => wf r + f r.2) ++ [f (m + 1)]).map V.int := by rw [List.map_append]; rfl
      rw [ee] at S8
      have S68 := S6.trans (S7.trans S8)
      have hb8 := S68 _ _ hb5
      refine ⟨_, rfl, _, rfl, bs, _, _, m, rfl, rfl, hb8, ixN_nat (by rw [fl_len]; omega), ?_⟩
      refine ⟨_, _, updf f m z, rfl, by rw [upd_same, fl_set], ?_, (k5.trans (Kp.of S68)).wr⟩
      rw [show ns.length - (i + 1) = m by omega]
      have hmx' : ∀ x ∈ ((hsAt (hitsBy ns (eqT tot)) m).map fun r => wf r + f r.2) ++ [f (m + 1)], x ≤ z := fun x hx => by
        have := hmx x hx
        rw [if_neg (by decide)] at this
        exact this
      refine hB.step HO (by omega) (hmx' _ (List.mem_append_right _ List.mem_cons_self)) (fun x hx => ?_) ?_
      · refine hmx' _ (List.mem_append_left _ (List.mem_map.mpr ⟨(m, x), List.mem_filter.mpr ⟨(evl_mem HO hx).2.2, by simp⟩, rfl⟩))
      · rcases List.mem_append.mp hz with h | h
        · obtain ⟨r, hr, er⟩ := List.mem_map.mp h
          obtain ⟨hr1, hr2⟩ := hsAt_mem hr
          refine .inr ⟨r.2, List.mem_map.mpr ⟨r, hr, rfl⟩, ?_⟩
          rw [← er, ← hr2]
        · exact .inl (by simpa using h)
    · rintro σ H5 ⟨v6, v7, f, rfl, hb5, hB, k5⟩
      rw [Nat.sub_self] at hB
      exact ⟨_, rfl, k bs f H5 hnb hb5 hB (Kp.same (S3.trans S4) hnb k5)⟩
end
end My

namespace My
open PySem L2
def spNums : Sp := fun vs H Q _ => ∃ (p : Addr) (ns : List Int) (tot : Int), vs = [.ref p, .int tot] ∧ RowAt H p ns ∧ ∀ f H', Bst ns.length (hitsBy ns (eqT tot)) (fun r => (r.2 : Int) - (r.1 : Int)) f → Same H H' → Q (.int (f 0)) H'
section
variable {P : Program} {w : World} {K : PySem.W.Frag} {mg : Str → Option Value} {base : Heap}
abbrev s_most_numbers : Stmt := top 9
theorem sc_most_numbers : FnScope ["row", "total"] ["row", "total"] (defScope s_most_numbers) := ⟨rfl, rfl, rfl, by decide +kernel, rfl, by decide +kernel, by decide +kernel⟩
theorem ok_most_numbers {f fb fl' fa : Addr} {fd fdb fdl fda : FuncData} (F : Fun K "most_numbers" "most_numbers" s_most_numbers f fd) (T : Txt mg) (D_best_from : DefAt K mg "best_from" s_best_from ["row", "total", "worth"] fb fdb) (D_length_of : DefAt K mg "length_of" s_length_of ["stretch"] fl' fdl)
    (D_all_with : DefAt K mg "all_with" s_all_with ["row", "total"] fa fda) (G_all_with : FnOk P w K mg base CX0 3 fa fda ["row", "total"] spAll) : FnOk P w K mg base CX0 5 f fd ["row", "total"] spNums := by
  have G_length_of : FnOk P w K mg base CX0 1 fl' fdl ["stretch"] spLen := ok_length_of D_length_of.fn T
  have G_best_from : FnOk P w K mg base CX0 4 fb fdb ["row", "total", "worth"] (spBest fl' (fun r => (r.2 : Int) - (r.1 : Int)) (fun _ => True)) :=
    ok_best_from _ _ (fun _ _ _ _ => trivial) D_best_from.fn T D_all_with G_all_with (cal_fn G_length_of D_length_of.fn.kp D_length_of.bd) (fun a p H Q E h _ q => ⟨a, p, rfl, h, q H (Same.refl _)⟩)
  refine F.ok sc_most_numbers (fun vs H Q E h => ?_) (fun cdv A outer s H vs Q E hr h => ?_)
  · obtain ⟨p, ns, tot, rfl, _⟩ := h
    rfl
  · obtain ⟨p, ns, tot, rfl, ⟨hp, hl⟩, k⟩ := h
    refine ⟨_, (pss_one (ps_ret (pe_ix (ixL (K := K) rfl) (pe_call G_best_from (hr.mono (by first | decide | exact Nat.le_refl _)) rfl D_best_from.mg D_best_from.fn.kp D_best_from.bd .nil pass0 (pa_cons (pv 0) (pa_cons (pv 1) (pa_cons (pe_glob (v := .ref _) (by rfl) D_length_of.mg rfl) pa_nil)))) pe_int (fun _ _ => rfl)))), ?_⟩
    exact ⟨_, rfl, _, rfl, p, ns, tot, rfl, ⟨hp, hl⟩, trivial, fun q f H1 _ hq hB S1 => ⟨q, _, _, _, rfl, rfl, SqL.of hq, fl_at (j := 0) (by omega), k f H1 hB S1⟩⟩
end
end My

namespace My
open PySem L2
/-! ### the most stretches apart -/
def wOne : Nat × Nat → Int := fun _ => 1
section
variable {n : Nat} {hs : List (Nat × Nat)} {f : Nat → Int}
/-- the program's choice -/
def stepA (f : Nat → Int) (s : List (Nat × Nat) × Nat) (p : Nat × Nat) : List (Nat × Nat) × Nat := if s.2 ≤ p.1 ∧ 1 + f p.2 = f s.2 then (s.1 ++ [p], p.2) else s
def apt (f : Nat → Int) (hs : List (Nat × Nat)) : List (Nat × Nat) × Nat := hs.foldl (stepA f) ([], 0)
end
end My

namespace L2
open PySem PySem.Spec PyProof.Rows
/-- a def of the top that makes a lambda, as a caller wants it -/
structure DefAtC (K : PySem.W.Frag) (mg : Str → Option Value) (x : Str) (st : Stmt) (ps : List Str) (f : Addr) (fd : FuncData) (c P : Addr) : Prop where
  fn : FunC K x x st f fd c P
  mg : mg x = some (.ref f)
  bd : Binds K fd ps []
/-- the table of a def with one lambda, ahead of the first call or behind it -/
def TabAt (pos : Pos) (qual : Str) (P : Addr) (H : Hp) : Prop := H P = some (.tbl #[]) ∨ ∃ c, H P = some (.tbl (tab1 pos c)) ∧ H c = some (CodeO c qual)
def Kq (l : Addr) (H H' : Hp) : Prop := ∀ b o, H b = some o → b ≠ l → H' b = some o
theorem TabAt.ne {pos : Pos} {qual : Str} {P b : Addr} {H : Hp} {o : HO} (h : TabAt pos qual P H) (hb : H b = some o) (ho : ∀ ps, o ≠ .tbl ps) : b ≠ P := by
  rintro rfl
  rcases h with h | ⟨c, h, _⟩
  · rw [hb] at h; cases h; exact ho _ rfl
  · rw [hb] at h; cases h; exact ho _ rfl
theorem TabAt.keep {pos : Pos} {qual : Str} {P : Addr} {H H' : Hp} (h : TabAt pos qual P H) (s : Same H H') : TabAt pos qual P H' := by
  rcases h with h | ⟨c, h1, h2⟩
  · exact .inl (s _ _ h)
  · exact .inr ⟨c, s _ _ h1, s _ _ h2⟩
theorem tLam_of {pos : Pos} {qual : Str} {P : Addr} {fd : Addr → Value → FuncData} {σ : St} {H : Hp} {Q : VK} (h : TabAt pos qual P H)
    (k : ∀ f c ct H', H f = none → H' f = some (LamO f (fd c ct)) → H' c = some (CodeO c qual) → H' P = some (.tbl (tab1 pos c)) → Kq P H H' → Q (.ref f) H') : tLam P pos qual fd σ H Q := by
  rcases h with h | ⟨c, h1, h2⟩
  · refine .inl ⟨h, fun f c ct hf hc n => ?_⟩
    have nP : P ≠ f := ne_of_none h hf
    have nPc : P ≠ c := ne_of_none h hc
    refine k f c ct _ hf upd_same (by rw [upd_ne (Ne.symm n), upd_same]) (by rw [upd_ne nP, upd_ne nPc, upd_same]) fun b o e nb => ?_
    rw [upd_ne (ne_of_none e hf), upd_ne (ne_of_none e hc), upd_ne nb]; exact e
  · refine .inr ⟨c, h1, h2, fun f ct hf => ?_⟩
    refine k f c ct _ hf upd_same (by rw [upd_ne (ne_of_none h2 hf)]; exact h2) (by rw [upd_ne (ne_of_none h1 hf)]; exact h1) fun b o e nb => ?_
    rw [upd_ne (ne_of_none e hf)]; exact e
/-! the parts of a lambda in the text -/
def lamA (e : Expr) : Arguments := match e with
  | .Lambda a _ _ _ => a
  | _ => ⟨[], [], none, [], [], none, []⟩
def lamB (e : Expr) : Expr := match e with
  | .Lambda _ b _ _ => b
  | _ => e
def lamS (e : Expr) (d : Scope) : Scope := match e with
  | .Lambda _ _ s _ => s
  | _ => d
def lamP (e : Expr) : Pos := match e with
  | .Lambda _ _ _ p => p
  | _ => ⟨0, 0, 0, 0⟩
end L2
namespace My
open PySem L2
abbrev s_most_apart : Stmt := top 8
def lam_apart : Expr := match defBody s_most_apart with
  | .Assign _ (.Call _ (_ :: _ :: l :: _) _ _) _ :: _ => l
  | _ => .Name "x" ⟨0, 0, 0, 0⟩
abbrev q_apart : Str := ("most_apart" ++ ".<locals>.") ++ "<lambda>"
abbrev pos_apart : Pos := lamP lam_apart
abbrev fd_apart (mg : Str → Option Value) (c : Addr) (ct : Value) : FuncData := PySem.W.kla_fn "<lambda>" q_apart (lamA lam_apart) (lamB lam_apart) (lamS lam_apart (defScope s_most_apart)) [] ((mg "__name__").getD .none) (.ref c) ct
abbrev TabA (P : Addr) (H : Hp) : Prop := TabAt pos_apart q_apart P H
def spLamA (mg : Str → Option Value) (f c : Addr) (ct : Value) : Sp := fun vs H Q _ => ∃ v, vs = [v] ∧ H f = some (LamO f (fd_apart mg c ct)) ∧ H c = some (CodeO c q_apart) ∧ Q (.int 1) H
def spApart (P : Addr) : Sp := fun vs H Q _ => ∃ (p : Addr) (ns : List Int) (tot : Int), vs = [.ref p, .int tot] ∧ RowAt H p ns ∧ TabA P H ∧
  ∀ q f xs H', Bst ns.length (hitsBy ns (eqT tot)) wOne f → H' q = some (.tup xs) → TupsAt g2 H' xs (apt f (hitsBy ns (eqT tot))).1 → Kp P H H' → TabA P H' → Q (.ref q) H'
section
variable {P : Program} {w : World} {K : PySem.W.Frag} {mg : Str → Option Value} {base : Heap}
theorem ok_lamA (f c : Addr) (ct : Value) : FnOk P w K mg base CX0 1 f (fd_apart mg c ct) ["stretch"] (spLamA mg f c ct) := by
  refine lam_of (N := ["stretch"]) ⟨rfl, rfl, rfl, by decide +kernel, rfl, by decide +kernel, by decide +kernel⟩ (fun vs H Q E h => ?_) (fun vs H Q E h => ?_) (fun A outer s H vs Q E hr h => ?_)
  · obtain ⟨v, rfl, _⟩ := h
    rfl
  · obtain ⟨v, rfl, h1, h2, _⟩ := h
    exact ⟨h1, h2⟩
  · obtain ⟨v, rfl, h1, h2, q⟩ := h
    exact ⟨_, pe_int, q⟩
theorem sc_most_apart : FnScope ["row", "total", "most", "chosen", "place", "low", "high"] ["row", "total"] (defScope s_most_apart) := ⟨rfl, rfl, rfl, by decide +kernel, rfl, by decide +kernel, by decide +kernel⟩
theorem ok_most_apart {f fb fa c T0 : Addr} {fd fdb fda : FuncData} (F : FunC K "most_apart" "most_apart" s_most_apart f fd c T0) (T : Txt mg) (BM : BmAt mg base) (D_best_from : DefAt K mg "best_from" s_best_from ["row", "total", "worth"] fb fdb)
    (D_all_with : DefAt K mg "all_with" s_all_with ["row", "total"] fa fda) (G_all_with : FnOk P w K mg base CX0 3 fa fda ["row", "total"] spAll) : FnOk P w K mg base CX0 5 f fd ["row", "total"] (spApart T0) := by
  have G_best_from : FnOk P w K mg base CX0 4 fb fdb ["row", "total", "worth"] (fun vs H Q E => ∃ i : Addr × Addr × Value, spBest i.1 wOne (fun H => H i.1 = some (LamO i.1 (fd_apart mg i.2.1 i.2.2)) ∧ H i.2.1 = some (CodeO i.2.1 q_apart)) vs H Q E) :=
    FnOk.ex fun i => ok_best_from _ _ (fun H H' h s => ⟨s _ _ h.1, s _ _ h.2⟩) D_best_from.fn T D_all_with G_all_with (cal_lam (ok_lamA i.1 i.2.1 i.2.2) (fun vs H Q E ⟨v, _, h, _⟩ => h) (.all fun us hl => match us, hl with | [_], _ => rfl)) (fun a p H Q E h h' q => ⟨_, rfl, h'.1, h'.2, q H (Same.refl _)⟩)
  refine F.ok sc_most_apart (fun vs H Q E h => ?_) (fun A outer s H vs Q E hr h => ?_)
  · obtain ⟨p, ns, tot, rfl, _⟩ := h
    rfl
  · obtain ⟨p, ns, tot, rfl, ⟨hp, hl⟩, hT, k⟩ := h
    refine ⟨_, (pss_cons (ps_set (i := 2) sc_most_apart.nd rfl (Or.inl rfl) (pe_call G_best_from (hr.mono (by first | decide | exact Nat.le_refl _)) rfl D_best_from.mg D_best_from.fn.kp D_best_from.bd .nil pass0 (pa_cons (pv 0) (pa_cons (pv 1) (pa_cons (pe_lam rfl F.hd BM) pa_nil)))))
      (pss_cons (ps_set (i := 3) sc_most_apart.nd rfl (Or.inl rfl) (pe_lst pa_nil))
      (pss_cons (ps_set (i := 4) sc_most_apart.nd rfl (Or.inl rfl) pe_int)
      (pss_cons (ps_for PassesOwn.never rfl (piL (K := K) rfl (pe_call G_all_with (hr.mono (by first | decide | exact Nat.le_refl _)) rfl D_all_with.mg D_all_with.fn.kp D_all_with.bd .nil pass0 (pa_cons (pv 0) (pa_cons (pv 1) pa_nil)))) (pgT (K := K) (n := 2) rfl rfl (pgs_cons (pg_name (i := 5) sc_most_apart.nd rfl (Or.inl rfl)) (pgs_cons (pg_name (i := 6) sc_most_apart.nd rfl (Or.inl rfl)) pgs_nil)))
        (pss_one (ps_if (PW.pt (pw_and (pt_cmpR op_le (pv 4) (pv 5) (nomark _)) (pw_and1 (pt_cmpR op_eq (pe_op op_add pe_int (pe_ix (ixL (K := K) rfl) (pv 2) (pv 6) (fun _ _ => rfl))) (pe_ix (ixL (K := K) rfl) (pv 2) (pv 4) (fun _ _ => rfl)) (nomark _)))))
          (pss_cons (ps_expr (pe_bm PySem.F.plainAttrs_list PySem.F.slot_list_append PySem.F.type_list_append mt_append (pv 3) (pa_cons (pe_tup (pa_cons (pv 5) (pa_cons (pv 6) pa_nil))) pa_nil)))
          (pss_one (ps_set (i := 4) sc_most_apart.nd rfl (Or.inl rfl) (pv 6))))
          pss_nil)))
      (pss_one (ps_ret (pe_callTy (cTuple (K := K) rfl) (by rfl) T.b_tuple PyProof.Rows.Boot.«tuple» (pa_cons (pv 3) pa_nil)))))))), ?_⟩
    have HO := hitsOk ns tot
    have plen : (hitsBy ns (eqT tot)).length ≤ 1000000 := Nat.le_trans (List.length_filter_le _ _) (prs_len ns.length hl)
    refine ⟨_, rfl, _, rfl, tLam_of hT fun fl c' ct H1 hfn hl1 hc1 hP1 K1 => ?_⟩
    have hpP : p ≠ T0 := hT.ne hp (by intro ps z; cases z)
    have hp1 := K1 _ _ hp hpP
    refine ⟨(fl, c', ct), p, ns, tot, rfl, ⟨hp1, hl⟩, ⟨hl1, hc1⟩, fun q f H2 hqn hq hB S2 => ?_⟩
    have K2 : Kp T0 H H2 := fun b o e n => S2 _ _ (K1 b o e n)
    have T2 : TabA T0 H2 := .inr ⟨c', S2 _ _ hP1, S2 _ _ hc1⟩
    dsimp only [gName]
    refine ⟨by show 0 ≤ sizeLine; decide, fun l hl' => ?_⟩
    have S3 := Same.lay (o := .lst []) hl'
    have hp3 := S3 _ _ (S2 _ _ hp1)
    refine ⟨_, rfl, _, rfl, p, ns, tot, rfl, ⟨hp3, hl⟩, fun q2 xs H3 hqn2 hq2 ht S4 => ⟨q2, rfl, ⟨_, SqL.of hq2⟩, ?_⟩⟩
    have hl3 := S4 _ _ (upd_same (H := H2) (a := l) (o := .lst []))
    have hq3 := S4 _ _ (S3 _ _ hq)
    have nq : q ≠ l := ne_of_none hq hl'
    have nq2 : q2 ≠ l := fun e => by subst e; rw [upd_same] at hqn2; cases hqn2
    have S34 := S3.trans S4
    have lT : l ≠ T0 := fun z => by
      subst z
      rcases T2 with z | ⟨_, z, _⟩ <;> (rw [hl'] at z; cases z)
    refine for_list (xs := xs) (fun i σ H' => ∃ (v5 v6 : Option V) (ys : List V), σ = [some (.ref p), some (.int tot), some (.ref q), some (.ref l), some (.int ((apt f ((hitsBy ns (eqT tot)).take i)).2 : Int)), v5, v6] ∧ H' l = some (.lst ys) ∧ TupsAt g2 H' ys (apt f ((hitsBy ns (eqT tot)).take i)).1 ∧ (apt f ((hitsBy ns (eqT tot)).take i)).1.length ≤ i ∧ (apt f ((hitsBy ns (eqT tot)).take i)).2 ≤ ns.length ∧ Kp l H3 H') ?_ ?_ ?_ ?_
    · exact ⟨none, none, [], rfl, hl3, TupsAt.nil, Nat.le_refl _, Nat.zero_le _, Kp.refl _⟩
    · rintro i σ H' _ ⟨v5, v6, ys, rfl, ha, _, _, _, k'⟩
      exact SqL.of (k' _ _ hq2 nq2)
    · rintro i x σ H' hx ⟨v5, v6, ys, rfl, ha, hc, hcl, hpl, k'⟩
      have hi : i < (hitsBy ns (eqT tot)).length := by rw [← ht.1]; exact (List.getElem?_eq_some_iff.mp hx).1
      obtain ⟨a, e1, e2⟩ := (k'.tups hl3 ht).2 i _ (List.getElem?_eq_getElem hi)
      rw [hx] at e1
      have e1 : x = .ref a := Option.some.inj e1
      subst e1
      obtain ⟨⟨lo, hi'⟩, hpr⟩ : ∃ pr, (hitsBy ns (eqT tot))[i] = pr := ⟨_, rfl⟩
      rw [hpr] at e2
      have hg : (hitsBy ns (eqT tot))[i]? = some (lo, hi') := by rw [List.getElem?_eq_getElem hi, hpr]
      obtain ⟨m1, m2⟩ : lo < hi' ∧ hi' ≤ ns.length := HO.mem (lo, hi') (by rw [← hpr]; exact List.getElem_mem hi)
      have stp : apt f ((hitsBy ns (eqT tot)).take (i + 1)) = stepA f (apt f ((hitsBy ns (eqT tot)).take i)) (lo, hi') := by
        unfold apt
        rw [take_succ hg, List.foldl_append]; rfl
      generalize apt f ((hitsBy ns (eqT tot)).take i) = st at hc hcl hpl stp ⊢
      obtain ⟨cs, pl⟩ := st
      dsimp only at hc hcl hpl ⊢
      have hmq := k' _ _ hq3 nq
      refine ⟨a, _, rfl, SqT.of e2, rfl, _, _, rfl, _, _, rfl, rfl, ?_⟩
      have no : ¬ (pl ≤ lo ∧ 1 + f hi' = f pl) → ∃ (v5 v6 : Option V) (ys : List V), [some (.ref p), some (.int tot), some (.ref q), some (.ref l), some (.int (pl : Int)), some (.int (lo : Int)), some (.int (hi' : Int))] = [some (.ref p), some (.int tot), some (.ref q), some (.ref l), some (.int ((apt f ((hitsBy ns (eqT tot)).take (i + 1))).2 : Int)), v5, v6] ∧ H' l = some (.lst ys) ∧ TupsAt g2 H' ys (apt f ((hitsBy ns (eqT tot)).take (i + 1))).1 ∧ (apt f ((hitsBy ns (eqT tot)).take (i + 1))).1.length ≤ i + 1 ∧ (apt f ((hitsBy ns (eqT tot)).take (i + 1))).2 ≤ ns.length ∧ Kp l H3 H' := fun hn => by
        have e : stepA f (cs, pl) (lo, hi') = (cs, pl) := if_neg hn
        rw [stp, e]
        exact ⟨_, _, ys, rfl, ha, hc, Nat.le_succ_of_le hcl, hpl, k'⟩
      refine ⟨_, rfl, _, rfl, _, _, rfl, rfl, _, rfl, ite2 (fun e => ?_) (fun e => ?_)⟩
      · have elo : pl ≤ lo := by have := of_decide_eq_true e; omega
        refine ⟨_, rfl, _, rfl, q, _, _, _, rfl, rfl, SqL.of hmq, fl_at (by omega), _, _, rfl, rfl, _, rfl, _, rfl, q, _, _, _, rfl, rfl, SqL.of hmq, fl_at (by omega), rfl, _, rfl, ite2 (fun e3 => ?_) (fun e3 => ?_)⟩
        · have e3 : 1 + f hi' = f pl := by rw [decide_eq_true_eq] at e3; injection e3
          have e : stepA f (cs, pl) (lo, hi') = (cs ++ [(lo, hi')], hi') := if_pos ⟨elo, e3⟩
          refine ⟨_, rfl, .inl ⟨rfl, _, SqL.of ha⟩, _, rfl, _, rfl, by show 2 ≤ sizeLine; decide, fun tt htt => ⟨l, ys, _, rfl, rfl, (upd_ne (ne_of_none ha htt)).trans ha, size_lt (by rw [hc.1]; omega), ?_⟩⟩
          refine ⟨_, rfl, ?_⟩
          rw [stp, e]
          refine ⟨_, _, _, rfl, upd_same, ?_, by rw [List.length_append]; simp only [List.length_cons, List.length_nil]; omega, m2, (k'.lay htt).wr⟩
          refine TupsAt.snoc (hc.mono fun b zs e => ?_) ?_
          · rw [upd_ne (ne_of e ha (by intro z; cases z)), upd_ne (ne_of_none e htt)]; exact e
          · rw [upd_ne (Ne.symm (ne_of_none ha htt)), upd_same]; rfl
        · exact no fun z => e3 (decide_eq_true (congrArg V.int z.2))
      · exact iteF (no fun z => e (decide_eq_true (by omega)))
    · rintro σ H4 ⟨v5, v6, ys, rfl, ha, hc, hcl, hpl, k'⟩
      rw [ht.1, List.take_length] at hc
      have e4 : ∀ b o, H2 b = some o → H4 b = some o := fun b o e => k' _ _ (S34 _ _ e) (ne_of_none e hl')
      refine ⟨_, rfl, l, ys, rfl, .inl ⟨SqL.of ha, fun q4 hq4 => ?_⟩⟩
      have S5 := Same.lay (o := .tup ys) hq4
      refine k q4 f ys _ hB upd_same (hc.mono fun b zs e => S5 _ _ e) (fun b o e n => S5 _ _ (e4 _ _ (K2 b o e n))) ?_
      rcases T2 with z | ⟨c2, z1, z2⟩
      · exact .inl (S5 _ _ (e4 _ _ z))
      · exact .inr ⟨c2, S5 _ _ (e4 _ _ z1), S5 _ _ (e4 _ _ z2)⟩
end
end My

namespace My
open PySem L2
def waysOf (ns : List Int) (tot : Int) : Nat → Int := ways ns.length (hitsBy ns (eqT tot))
def PartAt (H : Hp) (v : V) : Option (List (Nat × Nat)) → Prop
  | none => v = .non
  | some ps => ∃ q xs, v = .ref q ∧ H q = some (.tup xs) ∧ TupsAt g2 H xs ps
theorem PartAt.mono {H H' : Hp} {v : V} {o : Option (List (Nat × Nat))} (h : PartAt H v o) (s : Same H H') : PartAt H' v o := by
  cases o with
  | none => exact h
  | some ps =>
    obtain ⟨q, xs, e, h1, h2⟩ := h
    exact ⟨q, xs, e, s _ _ h1, h2.mono (same_tup s)⟩
def firstP (ns : List Int) (tot : Int) : Option (List (Nat × Nat)) := if waysOf ns tot 0 = 0 then none else some (chn ns.length (hitsBy ns (eqT tot)) 0)
def spWays : Sp := fun vs H Q _ => ∃ (p : Addr) (ns : List Int) (tot : Int), vs = [.ref p, .int tot] ∧ RowAt H p ns ∧ ∀ q H', H q = none → H' q = some (.lst (fl (ns.length + 1) (waysOf ns tot))) → Same H H' → Q (.ref q) H'
def spCountP : Sp := fun vs H Q _ => ∃ (p : Addr) (ns : List Int) (tot : Int), vs = [.ref p, .int tot] ∧ RowAt H p ns ∧ ∀ H', Same H H' → Q (.int (waysOf ns tot 0)) H'
def spFirstP : Sp := fun vs H Q _ => ∃ (p : Addr) (ns : List Int) (tot : Int), vs = [.ref p, .int tot] ∧ RowAt H p ns ∧ ∀ v H', PartAt H' v (firstP ns tot) → Same H H' → Q v H'
section
variable {P : Program} {w : World} {K : PySem.W.Frag} {mg : Str → Option Value} {base : Heap}
abbrev s_partings_from : Stmt := top 13
theorem sc_partings_from : FnScope ["row", "total", "ways", "low", "high"] ["row", "total"] (defScope s_partings_from) := ⟨rfl, rfl, rfl, by decide +kernel, rfl, by decide +kernel, by decide +kernel⟩
theorem ok_partings_from {f fa : Addr} {fd fda : FuncData} (F : Fun K "partings_from" "partings_from" s_partings_from f fd) (T : Txt mg) (D_all_with : DefAt K mg "all_with" s_all_with ["row", "total"] fa fda) (G_all_with : FnOk P w K mg base CX0 3 fa fda ["row", "total"] spAll) :
    FnOk P w K mg base CX0 4 f fd ["row", "total"] spWays := by
  refine F.ok sc_partings_from (fun vs H Q E h => ?_) (fun cdv A outer s H vs Q E hr h => ?_)
  · obtain ⟨p, ns, tot, rfl, _⟩ := h
    rfl
  · obtain ⟨p, ns, tot, rfl, ⟨hp, hl⟩, k⟩ := h
    refine ⟨_, (pss_cons (ps_set (i := 2) sc_partings_from.nd rfl (Or.inl rfl) (pe_op op_cat (pe_op op_rep (pe_lst (pa_cons pe_int pa_nil)) (pe_callB (cLen (K := K) rfl) (by rfl) T.b_len PyProof.Rows.Boot.«len» (pa_cons (pv 0) pa_nil))) (pe_lst (pa_cons pe_int pa_nil))))
      (pss_cons (ps_for PassesOwn.never rfl (pi_rev (K := K) rfl (by rfl) T.b_reversed (pa_cons (pe_call G_all_with (hr.mono (by first | decide | exact Nat.le_refl _)) rfl D_all_with.mg D_all_with.fn.kp D_all_with.bd .nil pass0 (pa_cons (pv 0) (pa_cons (pv 1) pa_nil))) pa_nil)) (pgT (K := K) (n := 2) rfl rfl (pgs_cons (pg_name (i := 3) sc_partings_from.nd rfl (Or.inl rfl)) (pgs_cons (pg_name (i := 4) sc_partings_from.nd rfl (Or.inl rfl)) pgs_nil)))
        (pss_one (ps_augS (pv 2) (pv 3) (get_listN (K := K) rfl) (pe_ix (ixL (K := K) rfl) (pv 2) (pv 4) (fun _ _ => rfl)) ip_add set_list)))
      (pss_one (ps_ret (pv 2))))), ?_⟩
    have hlm : (ns.map V.int).length = ns.length := List.length_map _
    refine ⟨by show 1 ≤ sizeLine; decide, fun l1 h1 => ⟨_, rfl, p, _, rfl, .inr (SqT.of ((upd_ne (ne_of_none hp h1)).trans hp)), l1, _, _, rfl, rfl, upd_same, by omega, by omega, size_le (by rw [hlm]; simp only [List.length_cons, List.length_nil]; omega), fun l2 h2 => ?_⟩⟩
    refine ⟨by show 1 ≤ sizeLine; decide, fun l3 h3 => ⟨l2, l3, _, _, rfl, rfl, (upd_ne (ne_of_none upd_same h3)).trans upd_same, upd_same, size_le ?_, fun l4 h4 => ?_⟩⟩
    · rw [len_rep, hlm]; simp only [List.length_cons, List.length_nil]; omega
    have S1 : Same H (upd H l1 (.lst [.int 0])) := Same.lay h1
    have S2 := S1.trans (Same.lay (o := .lst (List.replicate ((ns.map V.int).length : Int).toNat [V.int 0]).flatten) h2)
    have S3 := S2.trans (Same.lay (o := .lst [.int 1]) h3)
    have e0 : (List.replicate ((ns.map V.int).length : Int).toNat [V.int 0]).flatten ++ [V.int 1] = fl (ns.length + 1) (ways ns.length []) := by
      rw [hlm, Int.toNat_natCast]
      unfold fl
      rw [List.range_succ, List.map_append]
      congr 1
      · apply List.ext_getElem?
        intro j
        by_cases hj : j < ns.length
        · have : (List.replicate ns.length [V.int 0]).flatten = List.replicate ns.length (V.int 0) := by
            generalize ns.length = m
            induction m with
            | zero => rfl
            | succ m ih => rw [List.replicate_succ, List.flatten_cons, ih, List.replicate_succ]; rfl
          rw [this, List.getElem?_replicate, if_pos hj, List.getElem?_map, List.getElem?_range hj]
          show _ = some (V.int (W0 ns.length j))
          unfold W0
          rw [if_neg (by omega)]
        · rw [List.getElem?_eq_none (by rw [len_rep]; simp only [List.length_cons, List.length_nil]; omega), List.getElem?_eq_none (by rw [List.length_map, List.length_range]; omega)]
      · show _ = [V.int (W0 ns.length ns.length)]
        unfold W0
        rw [if_pos rfl]
    rw [e0]
    have S4 := S3.trans (Same.lay (o := .lst (fl (ns.length + 1) (ways ns.length []))) h4)
    have hn4 := S3.free h4
    refine ⟨_, rfl, _, rfl, p, ns, tot, rfl, ⟨S4 _ _ hp, hl⟩, fun q xs H5 hqn hq ht S5 => ⟨q, xs, rfl, SqL.of hq, ?_⟩⟩
    have h45 := S5 _ _ (upd_same (H := upd (upd (upd H l1 (.lst [.int 0])) l2 (.lst (List.replicate ((ns.map V.int).length : Int).toNat [V.int 0]).flatten)) l3 (.lst [.int 1])) (a := l4) (o := .lst (fl (ns.length + 1) (ways ns.length []))))
    have S45 := S4.trans S5
    have nq : q ≠ l4 := fun e => by subst e; rw [upd_same] at hqn; cases hqn
    have HO := hitsOk ns tot
    refine for_rev (fun i σ H' => ∃ v3 v4 : Option V, σ = [some (.ref p), some (.int tot), some (.ref l4), v3, v4] ∧ H' l4 = some (.lst (fl (ns.length + 1) (ways ns.length ((hitsBy ns (eqT tot)).drop i)))) ∧ Kp l4 H5 H') ?_ ?_ ?_ ?_
    · refine ⟨none, none, rfl, ?_, Kp.refl _⟩
      rw [ht.1, List.drop_length]; exact h45
    · rintro i σ H' ⟨v3, v4, rfl, hw, k'⟩
      exact SqL.of (k' _ _ hq nq)
    · rintro i x σ H' hx ⟨v3, v4, rfl, hw, k'⟩
      have hi : i < (hitsBy ns (eqT tot)).length := by rw [← ht.1]; exact (List.getElem?_eq_some_iff.mp hx).1
      obtain ⟨a, e1, e2⟩ := (k'.tups h45 ht).2 i _ (List.getElem?_eq_getElem hi)
      rw [hx] at e1
      have e1 : x = .ref a := Option.some.inj e1
      subst e1
      obtain ⟨⟨lo, hi'⟩, hpr⟩ : ∃ pr, (hitsBy ns (eqT tot))[i] = pr := ⟨_, rfl⟩
      rw [hpr] at e2
      obtain ⟨m1, m2⟩ := HO.mem (lo, hi') (by rw [← hpr]; exact List.getElem_mem hi)
      refine ⟨a, _, rfl, SqT.of e2, rfl, _, _, rfl, _, _, rfl, rfl, ?_⟩
      refine ⟨_, rfl, _, rfl, l4, _, lo, _, rfl, rfl, SqL.of hw, fl_get (by show lo < _; have : lo < hi' := m1; omega), _, rfl, _, rfl, l4, _, _, _, rfl, rfl, SqL.of hw, fl_at (by have : hi' ≤ ns.length := m2; omega), _, _, rfl, rfl, l4, _, _, lo, rfl, rfl, hw, ixN_nat (by rw [fl_len]; have : lo < hi' := m1; have : hi' ≤ ns.length := m2; omega), ?_⟩
      refine ⟨_, _, rfl, ?_, k'.wr⟩
      rw [upd_same, fl_set]
      congr 2
      rw [List.drop_eq_getElem_cons hi, hpr]
      rfl
    · rintro σ H' ⟨v3, v4, rfl, hw, k'⟩
      exact ⟨_, rfl, k l4 H' hn4 hw (Kp.same S45 hn4 k')⟩
abbrev s_count_partings : Stmt := top 11
theorem sc_count_partings : FnScope ["row", "total"] ["row", "total"] (defScope s_count_partings) := ⟨rfl, rfl, rfl, by decide +kernel, rfl, by decide +kernel, by decide +kernel⟩
theorem ok_count_partings {f fa : Addr} {fd fda : FuncData} (F : Fun K "count_partings" "count_partings" s_count_partings f fd) (T : Txt mg) (D_partings_from : DefAt K mg "partings_from" s_partings_from ["row", "total"] fa fda) (G_partings_from : FnOk P w K mg base CX0 4 fa fda ["row", "total"] spWays) :
    FnOk P w K mg base CX0 5 f fd ["row", "total"] spCountP := by
  refine F.ok sc_count_partings (fun vs H Q E h => ?_) (fun cdv A outer s H vs Q E hr h => ?_)
  · obtain ⟨p, ns, tot, rfl, _⟩ := h
    rfl
  · obtain ⟨p, ns, tot, rfl, ⟨hp, hl⟩, k⟩ := h
    refine ⟨_, (pss_one (ps_ret (pe_ix (ixL (K := K) rfl) (pe_call G_partings_from (hr.mono (by first | decide | exact Nat.le_refl _)) rfl D_partings_from.mg D_partings_from.fn.kp D_partings_from.bd .nil pass0 (pa_cons (pv 0) (pa_cons (pv 1) pa_nil))) pe_int (fun _ _ => rfl)))), ?_⟩
    exact ⟨_, rfl, _, rfl, p, ns, tot, rfl, ⟨hp, hl⟩, fun q H1 _ hq S1 => ⟨q, _, _, _, rfl, rfl, SqL.of hq, fl_at (j := 0) (by omega), k H1 S1⟩⟩
abbrev s_first_parting : Stmt := top 12
theorem sc_first_parting : FnScope ["row", "total", "ways", "chosen", "place", "low", "high"] ["row", "total"] (defScope s_first_parting) := ⟨rfl, rfl, rfl, by decide +kernel, rfl, by decide +kernel, by decide +kernel⟩
theorem ok_first_parting {f fa fb : Addr} {fd fda fdb : FuncData} (F : Fun K "first_parting" "first_parting" s_first_parting f fd) (T : Txt mg) (D_partings_from : DefAt K mg "partings_from" s_partings_from ["row", "total"] fa fda) (G_partings_from : FnOk P w K mg base CX0 4 fa fda ["row", "total"] spWays)
    (D_all_with : DefAt K mg "all_with" s_all_with ["row", "total"] fb fdb) (G_all_with : FnOk P w K mg base CX0 3 fb fdb ["row", "total"] spAll) :
    FnOk P w K mg base CX0 5 f fd ["row", "total"] spFirstP := by
  refine F.ok sc_first_parting (fun vs H Q E h => ?_) (fun cdv A outer s H vs Q E hr h => ?_)
  · obtain ⟨p, ns, tot, rfl, _⟩ := h
    rfl
  · obtain ⟨p, ns, tot, rfl, ⟨hp, hl⟩, k⟩ := h
    refine ⟨_, (pss_cons (ps_set (i := 2) sc_first_parting.nd rfl (Or.inl rfl) (pe_call G_partings_from (hr.mono (by first | decide | exact Nat.le_refl _)) rfl D_partings_from.mg D_partings_from.fn.kp D_partings_from.bd .nil pass0 (pa_cons (pv 0) (pa_cons (pv 1) pa_nil))))
      (pss_cons (ps_if (pt_cmpR op_eq (pe_ix (ixL (K := K) rfl) (pv 2) pe_int (fun _ _ => rfl)) pe_int (nomark _))
        (pss_one (ps_ret pe_non))
        pss_nil)
      (pss_cons (ps_set (i := 3) sc_first_parting.nd rfl (Or.inl rfl) (pe_lst pa_nil))
      (pss_cons (ps_set (i := 4) sc_first_parting.nd rfl (Or.inl rfl) pe_int)
      (pss_cons (ps_for PassesOwn.never rfl (piL (K := K) rfl (pe_call G_all_with (hr.mono (by first | decide | exact Nat.le_refl _)) rfl D_all_with.mg D_all_with.fn.kp D_all_with.bd .nil pass0 (pa_cons (pv 0) (pa_cons (pv 1) pa_nil)))) (pgT (K := K) (n := 2) rfl rfl (pgs_cons (pg_name (i := 5) sc_first_parting.nd rfl (Or.inl rfl)) (pgs_cons (pg_name (i := 6) sc_first_parting.nd rfl (Or.inl rfl)) pgs_nil)))
        (pss_one (ps_if (PW.pt (pw_and (pt_cmpR op_eq (pv 5) (pv 4) (nomark _)) (pw_and1 (pt_cmpR op_gt (pe_ix (ixL (K := K) rfl) (pv 2) (pv 6) (fun _ _ => rfl)) pe_int (nomark _)))))
          (pss_cons (ps_expr (pe_bm PySem.F.plainAttrs_list PySem.F.slot_list_append PySem.F.type_list_append mt_append (pv 3) (pa_cons (pe_tup (pa_cons (pv 5) (pa_cons (pv 6) pa_nil))) pa_nil)))
          (pss_one (ps_set (i := 4) sc_first_parting.nd rfl (Or.inl rfl) (pv 6))))
          pss_nil)))
      (pss_one (ps_ret (pe_callTy (cTuple (K := K) rfl) (by rfl) T.b_tuple PyProof.Rows.Boot.«tuple» (pa_cons (pv 3) pa_nil))))))))), ?_⟩
    refine ⟨_, rfl, _, rfl, p, ns, tot, rfl, ⟨hp, hl⟩, fun q H1 _ hq S1 => ?_⟩
    refine ⟨_, rfl, q, _, _, _, rfl, rfl, SqL.of hq, fl_at (j := 0) (by omega), rfl, _, rfl, ite2 (fun e => ?_) (fun e => ?_)⟩
    · refine k _ _ ?_ S1
      unfold firstP
      rw [if_pos (by rw [decide_eq_true_eq] at e; injection e)]
      exact rfl
    have hne : ¬ waysOf ns tot 0 = 0 := fun z => e (decide_eq_true (congrArg V.int z))
    have hw0 : 0 < waysOf ns tot 0 := by have : 0 ≤ waysOf ns tot 0 := ways_nonneg _ _ _; omega
    have HO := hitsOk ns tot
    refine ⟨by show 0 ≤ sizeLine; decide, fun l hl1 => ?_⟩
    have S2 := S1.trans (Same.lay (o := .lst []) hl1)
    have hn2 := S1.free hl1
    refine ⟨_, rfl, _, rfl, p, ns, tot, rfl, ⟨S2 _ _ hp, hl⟩, fun q2 xs H3 hqn hq2 ht S3 => ⟨q2, rfl, ⟨_, SqL.of hq2⟩, ?_⟩⟩
    have S23 := S2.trans S3
    have hl3 := S3 _ _ (upd_same (H := H1) (a := l) (o := .lst []))
    have hq3 := S3 _ _ ((upd_ne (o := .lst []) (ne_of_none hq hl1)).trans hq)
    have nq : q ≠ l := ne_of_none hq hl1
    have nq2 : q2 ≠ l := fun e => by subst e; rw [upd_same] at hqn; cases hqn
    have plen : (hitsBy ns (eqT tot)).length ≤ 1000000 := Nat.le_trans (List.length_filter_le _ _) (prs_len ns.length hl)
    refine for_list (xs := xs) (fun i σ H' => ∃ (v5 v6 : Option V) (pl : Nat) (cs : List (Nat × Nat)) (ys : List V), σ = [some (.ref p), some (.int tot), some (.ref q), some (.ref l), some (.int pl), v5, v6] ∧ H' l = some (.lst ys) ∧ TupsAt g2 H' ys cs ∧ cs.length ≤ i ∧ Kp l H3 H' ∧
      pl ≤ ns.length ∧ 0 < waysOf ns tot pl ∧ cs ++ chn ns.length (hitsBy ns (eqT tot)) pl = chn ns.length (hitsBy ns (eqT tot)) 0 ∧ ∀ r ∈ (hitsBy ns (eqT tot)).take i, r.1 = pl → ¬ 0 < waysOf ns tot r.2) ?_ ?_ ?_ ?_
    · exact ⟨none, none, 0, [], [], rfl, hl3, TupsAt.nil, Nat.le_refl _, Kp.refl _, Nat.zero_le _, hw0, rfl, by simp⟩
    · rintro i σ H' _ ⟨v5, v6, pl, cs, ys, rfl, ha, _, _, k', _⟩
      exact SqL.of (k' _ _ hq2 nq2)
    · rintro i x σ H' hx ⟨v5, v6, pl, cs, ys, rfl, ha, hc, hcl, k', hpl, hwp, hch, hno⟩
      have hi : i < (hitsBy ns (eqT tot)).length := by rw [← ht.1]; exact (List.getElem?_eq_some_iff.mp hx).1
      obtain ⟨a, e1, e2⟩ := (k'.tups hl3 ht).2 i _ (List.getElem?_eq_getElem hi)
      rw [hx] at e1
      have e1 : x = .ref a := Option.some.inj e1
      subst e1
      obtain ⟨⟨lo, hi'⟩, hpr⟩ : ∃ pr, (hitsBy ns (eqT tot))[i] = pr := ⟨_, rfl⟩
      rw [hpr] at e2
      have hg : (hitsBy ns (eqT tot))[i]? = some (lo, hi') := by rw [List.getElem?_eq_getElem hi, hpr]
      obtain ⟨m1, m2⟩ : lo < hi' ∧ hi' ≤ ns.length := HO.mem (lo, hi') (by rw [← hpr]; exact List.getElem_mem hi)
      have hno' : ∀ pl', (¬ (lo = pl' ∧ 0 < waysOf ns tot hi')) → (∀ r ∈ (hitsBy ns (eqT tot)).take i, r.1 = pl' → ¬ 0 < waysOf ns tot r.2) → ∀ r ∈ (hitsBy ns (eqT tot)).take (i + 1), r.1 = pl' → ¬ 0 < waysOf ns tot r.2 := by
        intro pl' hnn hno r hr e
        rw [take_succ hg] at hr
        rcases List.mem_append.mp hr with h | h
        · exact hno r h e
        · have : r = (lo, hi') := by simpa using h
          subst this
          exact fun z => hnn ⟨e, z⟩
      refine ⟨a, _, rfl, SqT.of e2, rfl, _, _, rfl, _, _, rfl, rfl, ?_⟩
      refine ⟨_, rfl, _, rfl, rfl, _, rfl, ite2 (fun e => ?_) (fun e => ?_)⟩
      · have elo : lo = pl := by rw [decide_eq_true_eq] at e; injection e with e; omega
        refine ⟨_, rfl, _, rfl, q, _, _, _, rfl, rfl, SqL.of (k' _ _ hq3 nq), fl_at (by omega), _, _, rfl, rfl, _, rfl, ite2 (fun e3 => ?_) (fun e3 => ?_)⟩
        · have e3 : 0 < waysOf ns tot hi' := of_decide_eq_true e3
          refine ⟨_, rfl, .inl ⟨rfl, _, SqL.of ha⟩, _, rfl, _, rfl, by show 2 ≤ sizeLine; decide, fun tt htt => ⟨l, ys, _, rfl, rfl, (upd_ne (ne_of_none ha htt)).trans ha, size_lt (by rw [hc.1]; omega), ?_⟩⟩
          refine ⟨_, rfl, ?_⟩
          subst elo
          refine ⟨_, _, hi', cs ++ [(lo, hi')], _, rfl, upd_same, ?_, by rw [List.length_append]; simp only [List.length_cons, List.length_nil]; omega, (k'.lay htt).wr, m2, e3, ?_, ?_⟩
          · refine TupsAt.snoc (hc.mono fun b zs e => ?_) ?_
            · rw [upd_ne (ne_of e ha (by intro z; cases z)), upd_ne (ne_of_none e htt)]; exact e
            · rw [upd_ne (Ne.symm (ne_of_none ha htt)), upd_same]; rfl
          · rw [← hch, chn_eq HO (by omega) (evg_head hg e3 hno), List.append_assoc]; rfl
          · intro r hr er
            exfalso
            have hr' : r ∈ (hitsBy ns (eqT tot)).take (i + 1) := hr
            rw [take_succ hg] at hr'
            rcases List.mem_append.mp hr' with h | h
            · obtain ⟨j, hj, ej⟩ := List.getElem_of_mem h
              have hj' : j < i := by rw [List.length_take] at hj; omega
              have := List.pairwise_iff_getElem.mp HO.sorted j i (by omega) hi hj'
              rw [hpr] at this
              rw [List.getElem_take] at ej
              rw [ej] at this
              rcases this with z | z
              · have : r.1 < lo := z; omega
              · have : r.1 = lo := z.1; omega
            · have : r = (lo, hi') := by simpa using h
              subst this
              have : lo = hi' := er
              omega
        · exact ⟨_, _, pl, cs, ys, rfl, ha, hc, by omega, k', hpl, hwp, hch, hno' pl (fun z => e3 (decide_eq_true z.2)) hno⟩
      · exact iteF ⟨_, _, pl, cs, ys, rfl, ha, hc, by omega, k', hpl, hwp, hch, hno' pl (fun z => e (decide_eq_true (by rw [z.1]))) hno⟩
    · rintro σ H' ⟨v5, v6, pl, cs, ys, rfl, ha, hc, hcl, k', hpl, hwp, hch, hno⟩
      rw [ht.1, List.take_length] at hno
      have epl : pl = ns.length := by
        rcases Nat.lt_or_ge pl ns.length with z | z
        · obtain ⟨x, hx, hg⟩ := (ways_pos HO z).mp hwp
          exact absurd hg (hno (pl, x) (evl_mem HO hx).2.2 rfl)
        · omega
      subst epl
      rw [chn_last HO, List.append_nil] at hch
      subst hch
      refine ⟨_, rfl, l, _, rfl, .inl ⟨SqL.of ha, fun t' ht' => k _ _ ?_ ?_⟩⟩
      · unfold firstP
        rw [if_neg hne]
        exact ⟨t', ys, rfl, upd_same, hc.mono fun b zs e => by rw [upd_ne (ne_of_none e ht')]; exact e⟩
      · exact (Kp.same S23 hn2 k').trans (Same.lay ht')
end
end My

namespace My
open PySem L2
/-! ### ways by residues -/
theorem hits_HO (ns : List Int) (t : Int → Bool) : Hits ns.length (hitsBy ns t) := ⟨hitsBy_sorted ns t, fun p hp => hitsBy_mem hp⟩
theorem mem_hits26 {ns : List Int} {t : Int → Bool} {a b : Nat} : (a, b) ∈ hitsBy ns t ↔ (a < b ∧ b ≤ ns.length) ∧ t (psum ns b - psum ns a) = true := by
  unfold hitsBy
  rw [List.mem_filter]
  refine ⟨fun h => ⟨prs_mem h.1, h.2⟩, fun h => ⟨?_, h.2⟩⟩
  unfold prs prsTo from1
  refine List.mem_flatMap.mpr ⟨a, List.mem_range.mpr (by omega), List.mem_map.mpr ⟨b - a - 1, List.mem_range.mpr (by omega), ?_⟩⟩
  rw [show a + 1 + (b - a - 1) = b by omega]
theorem evl_iff {ns : List Int} {t : Int → Bool} {l x : Nat} : x ∈ evl (hitsBy ns t) l ↔ (l < x ∧ x ≤ ns.length) ∧ t (psum ns x - psum ns l) = true := by
  rw [← mem_hits26]
  exact ⟨fun h => (evl_mem (hits_HO ns t) h).2.2, fun h => mem_evl h⟩
/-- no way where the rest of the row is no multiple of total -/
theorem ways_none {ns : List Int} {tot : Int} : ∀ (k i : Nat), ns.length - i ≤ k → i ≤ ns.length → ¬ tot ∣ (psum ns ns.length - psum ns i) → waysOf ns tot i = 0
  | 0, i, hk, hi, hd => by
    have : i = ns.length := by omega
    subst this
    exact absurd (by rw [Int.sub_self]; exact Int.dvd_zero _) hd
  | k + 1, i, hk, hi, hd => by
    unfold waysOf
    rw [ways_eq (hits_HO ns (eqT tot)) i]
    have hne : i ≠ ns.length := by
      rintro rfl
      exact hd (by rw [Int.sub_self]; exact Int.dvd_zero _)
    have e0 : W0 ns.length i = 0 := by unfold W0; rw [if_neg hne]
    rw [e0, Int.zero_add]
    have e1 : ∀ x ∈ evl (hitsBy ns (eqT tot)) i, ways ns.length (hitsBy ns (eqT tot)) x = 0 := fun x hx => by
      obtain ⟨⟨h1, h2⟩, h3⟩ := evl_iff.mp hx
      have h3 : psum ns x - psum ns i = tot := of_decide_eq_true h3
      refine ways_none k x (by omega) h2 fun hdx => hd ?_
      have e : psum ns ns.length - psum ns i = (psum ns ns.length - psum ns x) + tot := by omega
      rw [e]
      exact Int.dvd_add hdx (Int.dvd_refl _)
    rw [sum_congr e1]
    induction evl (hitsBy ns (eqT tot)) i with
    | nil => rfl
    | cons a r ih => rw [List.map_cons, List.sum_cons, ih]; rfl
theorem evl_nodup (ns : List Int) (t : Int → Bool) (l : Nat) : (evl (hitsBy ns t) l).Pairwise (· < ·) := by
  unfold evl
  rw [List.pairwise_map]
  refine List.Pairwise.imp_of_mem ?_ ((hitsBy_sorted ns t).filter _)
  intro a b ha hb h
  have e1 := of_decide_eq_true (List.mem_filter.mp ha).2
  have e2 := of_decide_eq_true (List.mem_filter.mp hb).2
  rcases h with h | h
  · omega
  · exact h.2
theorem only_one {l : List Nat} {y : Nat} (hp : l.Pairwise (· < ·)) (hm : y ∈ l) (ha : ∀ x ∈ l, x = y) : l = [y] := by
  match l, hp, hm, ha with
  | [a], _, _, ha => rw [ha a (List.mem_cons_self ..)]
  | a :: b :: r, hp, _, ha =>
    have h1 := ha a (List.mem_cons_self ..)
    have h2 := ha b (List.mem_cons_of_mem _ (List.mem_cons_self ..))
    have h3 := (List.pairwise_cons.mp hp).1 b (List.mem_cons_self ..)
    omega
/-- the planted row: the places, each behind the one before, with sums 0, total, 2 total ..; elsewhere no multiple -/
structure Planted (tot : Int) (ns : List Int) (ps : List Nat) : Prop where
  pos : 0 < ps.length
  sum : ∀ (j p : Nat), ps[j]? = some p → p ≤ ns.length ∧ psum ns p = (j : Int) * tot
  asc : ps.Pairwise (· < ·)
  first : ps[0]? = some 0
  last : ps[ps.length - 1]? = some ns.length
  else' : ∀ i, i ≤ ns.length → tot ∣ psum ns i → i ∈ ps
section
variable {tot : Int} {ns : List Int} {ps : List Nat}
theorem Planted.next (P : Planted tot ns ps) (ht : tot ≠ 0) {j p q : Nat} (hp : ps[j]? = some p) (hq : ps[j + 1]? = some q) : evl (hitsBy ns (eqT tot)) p = [q] := by
  obtain ⟨p1, p2⟩ := P.sum j p hp
  obtain ⟨q1, q2⟩ := P.sum (j + 1) q hq
  have hpq : p < q := by
    obtain ⟨h1, e1⟩ := List.getElem?_eq_some_iff.mp hp
    obtain ⟨h2, e2⟩ := List.getElem?_eq_some_iff.mp hq
    have := List.pairwise_iff_getElem.mp P.asc j (j + 1) h1 h2 (by omega)
    rw [e1, e2] at this
    exact this
  refine only_one (evl_nodup ns _ p) (evl_iff.mpr ⟨⟨hpq, q1⟩, decide_eq_true ?_⟩) fun x hx => ?_
  · rw [p2, q2, Int.natCast_succ, Int.add_mul]; omega
  · obtain ⟨⟨h1, h2⟩, h3⟩ := evl_iff.mp hx
    have h3 : psum ns x - psum ns p = tot := of_decide_eq_true h3
    have h4 : psum ns x = ((j + 1 : Nat) : Int) * tot := by rw [Int.natCast_succ, Int.add_mul]; omega
    obtain ⟨m, hm, e⟩ := List.getElem_of_mem (P.else' x h2 (by rw [h4]; exact Int.dvd_mul_left _ _))
    have hm' : ps[m]? = some x := by rw [List.getElem?_eq_getElem hm, e]
    have h5 := (P.sum m x hm').2
    rw [h4] at h5
    have h6 : ((j + 1 : Nat) : Int) = (m : Int) := Int.eq_of_mul_eq_mul_right ht h5
    have h7 : m = j + 1 := by omega
    rw [h7, hq] at hm'
    exact (Option.some.inj hm').symm
theorem Planted.ways1 (P : Planted tot ns ps) (ht : tot ≠ 0) : ∀ (k j p : Nat), ps.length - 1 - j = k → ps[j]? = some p → waysOf ns tot p = 1
  | 0, j, p, hk, hp => by
    have hj : j < ps.length := (List.getElem?_eq_some_iff.mp hp).1
    have : j = ps.length - 1 := by omega
    rw [this, P.last] at hp
    cases hp
    exact ways_last (hits_HO ns _)
  | k + 1, j, p, hk, hp => by
    have hj : j + 1 < ps.length := by omega
    have hq : ps[j + 1]? = some ps[j + 1] := List.getElem?_eq_getElem hj
    generalize ps[j + 1] = q at hq
    have ih := Planted.ways1 P ht k (j + 1) q (by omega) hq
    unfold waysOf at ih ⊢
    rw [ways_eq (hits_HO ns _) p, P.next ht hp hq]
    have e := evl_iff.mp (show q ∈ evl (hitsBy ns (eqT tot)) p by rw [P.next ht hp hq]; exact List.mem_singleton.mpr rfl)
    have e0 : W0 ns.length p = 0 := by unfold W0; rw [if_neg (by omega)]
    rw [e0]
    show 0 + (ways ns.length (hitsBy ns (eqT tot)) q + 0) = 1
    omega
def nbrs (ps : List Nat) : List (Nat × Nat) := ps.zip (ps.drop 1)
theorem Planted.chn1 (P : Planted tot ns ps) (ht : tot ≠ 0) : ∀ (k j p : Nat), ps.length - 1 - j = k → ps[j]? = some p → chn ns.length (hitsBy ns (eqT tot)) p = nbrs (ps.drop j)
  | 0, j, p, hk, hp => by
    have hj : j < ps.length := (List.getElem?_eq_some_iff.mp hp).1
    have hj' : j = ps.length - 1 := by omega
    have e : ps.drop j = [p] := by
      rw [List.drop_eq_getElem_cons hj, (List.getElem?_eq_some_iff.mp hp).2, List.drop_of_length_le (by omega)]
    rw [e]
    rw [hj', P.last] at hp
    cases hp
    rw [chn_last (hits_HO ns _)]
    rfl
  | k + 1, j, p, hk, hp => by
    have hj : j + 1 < ps.length := by omega
    have hq : ps[j + 1]? = some ps[j + 1] := List.getElem?_eq_getElem hj
    have e1 : ps.drop j = p :: ps[j + 1] :: ps.drop (j + 2) := by
      rw [List.drop_eq_getElem_cons (by omega : j < ps.length), (List.getElem?_eq_some_iff.mp hp).2, List.drop_eq_getElem_cons hj]
    have e2 : ps.drop (j + 1) = ps[j + 1] :: ps.drop (j + 2) := List.drop_eq_getElem_cons hj
    have ih := Planted.chn1 P ht k (j + 1) _ (by omega) hq
    have hw := Planted.ways1 P ht (ps.length - 1 - (j + 1)) (j + 1) _ rfl hq
    generalize ps[j + 1] = q at hq e1 e2 ih hw
    have ev := P.next ht hp hq
    have e := evl_iff.mp (show q ∈ evl (hitsBy ns (eqT tot)) p by rw [ev]; exact List.mem_singleton.mpr rfl)
    have hg : (evg ns.length (hitsBy ns (eqT tot)) p).head? = some q := by
      unfold evg
      rw [ev]
      have hw' : ways ns.length (hitsBy ns (eqT tot)) q = 1 := hw
      rw [List.filter_cons, hw']
      rfl
    rw [chn_eq (hits_HO ns _) (by omega) hg, ih, e1, e2]
    rfl
theorem Planted.count (P : Planted tot ns ps) (ht : tot ≠ 0) : waysOf ns tot 0 = 1 := P.ways1 ht _ 0 0 rfl P.first
theorem Planted.firstP (P : Planted tot ns ps) (ht : tot ≠ 0) : firstP ns tot = some (nbrs ps) := by
  unfold My.firstP
  rw [if_neg (by rw [P.count ht]; decide), P.chn1 ht _ 0 0 rfl P.first, List.drop_zero]
theorem len_up {n : Nat} {hs : List (Nat × Nat)} {f : Nat → Int} (HO : Hits n hs) (hf : Bst n hs (fun r => (r.2 : Int) - (r.1 : Int)) f) : ∀ (k p : Nat), n - p ≤ k → p ≤ n → f p ≤ (n : Int) - (p : Int)
  | 0, p, hk, hp => by
    have : p = n := by omega
    subst this
    rw [hf.1]; omega
  | k + 1, p, hk, hp => by
    by_cases e : p = n
    · subst e
      rw [hf.1]; omega
    · rcases (hf.2 p (Nat.zero_le _) (by omega)).2.2 with h | ⟨x, hx, h⟩
      · have := len_up HO hf k (p + 1) (by omega) (by omega)
        rw [h]; omega
      · obtain ⟨h1, h2, _⟩ := evl_mem HO hx
        have := len_up HO hf k x (by omega) h2
        rw [h]
        show (x : Int) - (p : Int) + f x ≤ _
        omega
theorem Planted.len (P : Planted tot ns ps) (ht : tot ≠ 0) {f : Nat → Int} (hf : Bst ns.length (hitsBy ns (eqT tot)) (fun r => (r.2 : Int) - (r.1 : Int)) f) : ∀ (k j p : Nat), ps.length - 1 - j = k → ps[j]? = some p → (ns.length : Int) - (p : Int) ≤ f p
  | 0, j, p, hk, hp => by
    have hj : j < ps.length := (List.getElem?_eq_some_iff.mp hp).1
    have : j = ps.length - 1 := by omega
    rw [this, P.last] at hp
    cases hp
    rw [hf.1]; omega
  | k + 1, j, p, hk, hp => by
    have hj : j + 1 < ps.length := by omega
    have hq : ps[j + 1]? = some ps[j + 1] := List.getElem?_eq_getElem hj
    generalize ps[j + 1] = q at hq
    have ih := Planted.len P ht hf k (j + 1) q (by omega) hq
    have hm : q ∈ evl (hitsBy ns (eqT tot)) p := by rw [P.next ht hp hq]; exact List.mem_singleton.mpr rfl
    have e := evl_iff.mp hm
    have h := (hf.2 p (Nat.zero_le _) (by omega)).2.1 q hm
    have h : (q : Int) - (p : Int) + f q ≤ f p := h
    omega
theorem Planted.nums (P : Planted tot ns ps) (ht : tot ≠ 0) {f : Nat → Int} (hf : Bst ns.length (hitsBy ns (eqT tot)) (fun r => (r.2 : Int) - (r.1 : Int)) f) : f 0 = (ns.length : Int) := by
  have h1 := P.len ht hf _ 0 0 rfl P.first
  have h2 := len_up (hits_HO ns _) hf ns.length 0 (by omega) (Nat.zero_le _)
  omega
end
/-- the row begins: no number, one place -/
theorem planted_nil (tot : Int) : Planted tot [] [0] := by
  refine ⟨by decide, fun j p h => ?_, List.pairwise_singleton .., rfl, rfl, fun i hi _ => ?_⟩
  · cases j with
    | zero => cases h; exact ⟨Nat.le_refl _, by simp [psum]⟩
    | succ j => simp at h
  · have : i = 0 := by simpa using hi
    rw [this]; exact List.mem_singleton.mpr rfl
theorem psum_leftL (a b : List Int) {k : Nat} (h : k ≤ a.length) : psum (a ++ b) k = psum a k := by
  unfold psum
  rw [List.take_append_of_le_length h]
theorem psum_rightL (a b : List Int) (k : Nat) : psum (a ++ b) (a.length + k) = psum a a.length + psum b k := by
  unfold psum
  rw [List.take_length_add_append, List.sum_append, List.take_length]
/-- a stretch is planted behind -/
theorem Planted.snoc {tot : Int} {ns : List Int} {ps : List Nat} (P : Planted tot ns ps) {sg : List Int} (h0 : 0 < sg.length) (hs : psum sg sg.length = tot) (hn : ∀ i, 0 < i → i < sg.length → ¬ tot ∣ psum sg i) : Planted tot (ns ++ sg) (ps ++ [(ns ++ sg).length]) := by
  have hlast := (P.sum _ _ P.last).2
  have hpos := P.pos
  refine ⟨by rw [List.length_append]; simp, fun j p hp => ?_, ?_, ?_, ?_, fun i hi hd => ?_⟩
  · by_cases hj : j < ps.length
    · rw [List.getElem?_append_left hj] at hp
      obtain ⟨h1, h2⟩ := P.sum j p hp
      exact ⟨by rw [List.length_append]; omega, by rw [psum_leftL _ _ h1, h2]⟩
    · rw [List.getElem?_append_right (by omega)] at hp
      have hj' : j - ps.length = 0 := by
        have := (List.getElem?_eq_some_iff.mp hp).1
        simp at this
        omega
      rw [hj'] at hp
      cases hp
      refine ⟨Nat.le_refl _, ?_⟩
      rw [List.length_append, psum_rightL, hs, hlast]
      have e : (j : Int) = ((ps.length - 1 : Nat) : Int) + 1 := by omega
      rw [e, Int.add_mul]
      omega
  · rw [List.pairwise_append]
    refine ⟨P.asc, List.pairwise_singleton .., fun x hx y hy => ?_⟩
    rw [List.mem_singleton.mp hy, List.length_append]
    obtain ⟨j, hj, e⟩ := List.getElem_of_mem hx
    have := (P.sum j x (by rw [List.getElem?_eq_getElem hj, e])).1
    omega
  · rw [List.getElem?_append_left hpos]
    exact P.first
  · rw [List.length_append]
    simp
  · rw [List.mem_append]
    by_cases h1 : i ≤ ns.length
    · rw [psum_leftL _ _ h1] at hd
      exact .inl (P.else' i h1 hd)
    · obtain ⟨k, rfl⟩ : ∃ k, i = ns.length + k := ⟨i - ns.length, by omega⟩
      rw [List.length_append] at hi
      by_cases h2 : k = sg.length
      · right
        rw [h2, List.length_append]
        exact List.mem_singleton.mpr rfl
      · exfalso
        rw [psum_rightL, hlast] at hd
        exact hn k (by omega) (by omega) ((Int.dvd_add_right (Int.dvd_mul_left _ _)).mp hd)
/-- one number too many -/
theorem Planted.wider {tot : Int} {ns : List Int} {ps : List Nat} (P : Planted tot ns ps) {y : Int} (hy : ¬ tot ∣ y) : waysOf (ns ++ [y]) tot 0 = 0 := by
  refine ways_none _ 0 (Nat.le_refl _) (Nat.zero_le _) fun hd => hy ?_
  have e0 : psum (ns ++ [y]) 0 = 0 := by simp [psum]
  have e1 : psum (ns ++ [y]) (ns ++ [y]).length = psum ns ns.length + y := by
    rw [List.length_append, psum_rightL]
    simp [psum]
  rw [e0, e1, (P.sum _ _ P.last).2, Int.sub_zero] at hd
  exact (Int.dvd_add_right (Int.dvd_mul_left _ _)).mp hd
end My

namespace My
open PySem L2
/-! ### rows of noughts, of ones -/
def sgl (n : Nat) : List (Nat × Nat) := (List.range n).map fun i => (i, i + 1)
def zer (n : Nat) : List Int := List.replicate n 0
def one (n : Nat) : List Int := List.replicate n 1
theorem psum_rep (c : Int) (n k : Nat) : psum (List.replicate n c) k = ((min k n : Nat) : Int) * c := by
  unfold psum
  rw [List.take_replicate]
  generalize min k n = m
  induction m with
  | zero => simp
  | succ m ih => rw [List.replicate_succ, List.sum_cons, ih, Int.natCast_succ, Int.add_mul]; omega
theorem planted_one (n : Nat) : Planted 1 (one n) (List.range (n + 1)) := by
  have hl : (one n).length = n := List.length_replicate ..
  refine ⟨by simp, fun j p h => ?_, List.pairwise_lt_range .., by simp, by rw [hl]; simp, fun i hi _ => by rw [hl] at hi; exact List.mem_range.mpr (by omega)⟩
  have hj : j < n + 1 := by have := (List.getElem?_eq_some_iff.mp h).1; simpa using this
  rw [List.getElem?_range hj] at h
  cases h
  refine ⟨by rw [hl]; omega, ?_⟩
  show psum (List.replicate n 1) j = _
  rw [psum_rep, Nat.min_eq_left (by omega)]
theorem pLt_uniq {a b : List (Nat × Nat)} (ha : a.Pairwise pLt) (hb : b.Pairwise pLt) (h : ∀ p, p ∈ a ↔ p ∈ b) : a = b := by
  have nd : ∀ {l : List (Nat × Nat)}, l.Pairwise pLt → l.Nodup := fun hl => hl.imp fun {x y} h e => by
    subst e
    rcases h with h | h
    · omega
    · omega
  refine List.Perm.eq_of_pairwise (fun x y _ _ h1 h2 => ?_) ha hb ((List.perm_ext_iff_of_nodup (nd ha) (nd hb)).mpr h)
  exfalso
  rcases h1 with h1 | h1 <;> rcases h2 with h2 | h2 <;> omega
theorem lt_uniq {a b : List Nat} (ha : a.Pairwise (· < ·)) (hb : b.Pairwise (· < ·)) (h : ∀ p, p ∈ a ↔ p ∈ b) : a = b := by
  have nd : ∀ {l : List Nat}, l.Pairwise (· < ·) → l.Nodup := fun hl => hl.imp fun {x y} h e => by subst e; omega
  refine List.Perm.eq_of_pairwise (fun x y _ _ h1 h2 => by omega) ha hb ((List.perm_ext_iff_of_nodup (nd ha) (nd hb)).mpr h)
section
variable {n : Nat} {hs : List (Nat × Nat)} {f : Nat → Int}
def isS (p : Nat × Nat) : Bool := decide (p.2 = p.1 + 1)
theorem filt_sgl (HO : Hits n hs) (hall : ∀ i, i < n → (i, i + 1) ∈ hs) : hs.filter isS = sgl n := by
  refine pLt_uniq (HO.sorted.filter _) ?_ fun p => ?_
  · unfold sgl
    rw [List.pairwise_map]
    exact (List.pairwise_lt_range ..).imp fun h => .inl h
  · obtain ⟨a, b⟩ := p
    unfold sgl
    constructor
    · intro h
      obtain ⟨h1, h2⟩ := List.mem_filter.mp h
      have h2 : b = a + 1 := of_decide_eq_true h2
      have := (HO.mem _ h1).2
      subst h2
      exact List.mem_map.mpr ⟨a, List.mem_range.mpr (by omega), rfl⟩
    · intro h
      obtain ⟨i, hi, e⟩ := List.mem_map.mp h
      rw [← e]
      exact List.mem_filter.mpr ⟨hall i (List.mem_range.mp hi), decide_eq_true rfl⟩
theorem one_up (HO : Hits n hs) (hf : Bst n hs wOne f) : ∀ (k p : Nat), n - p ≤ k → p ≤ n → f p ≤ (n : Int) - (p : Int)
  | 0, p, hk, hp => by
    have : p = n := by omega
    subst this
    rw [hf.1]; omega
  | k + 1, p, hk, hp => by
    by_cases e : p = n
    · subst e
      rw [hf.1]; omega
    · rcases (hf.2 p (Nat.zero_le _) (by omega)).2.2 with h | ⟨x, hx, h⟩
      · have := one_up HO hf k (p + 1) (by omega) (by omega)
        rw [h]; omega
      · obtain ⟨h1, h2, _⟩ := evl_mem HO hx
        have := one_up HO hf k x (by omega) h2
        rw [h]
        show (1 : Int) + f x ≤ _
        omega
theorem bst_all (HO : Hits n hs) (hf : Bst n hs wOne f) (hall : ∀ i, i < n → (i, i + 1) ∈ hs) : ∀ (k p : Nat), n - p = k → p ≤ n → f p = (n : Int) - (p : Int)
  | 0, p, hk, hp => by
    have : p = n := by omega
    subst this
    rw [hf.1]; omega
  | k + 1, p, hk, hp => by
    have ih := bst_all HO hf hall k (p + 1) (by omega) (by omega)
    have h1 := (hf.2 p (Nat.zero_le _) (by omega)).2.1 (p + 1) (mem_evl (hall p (by omega)))
    have h1 : 1 + f (p + 1) ≤ f p := h1
    have h2 := one_up HO hf n p (by omega) hp
    omega
theorem apt_fold (hv : ∀ p, p ≤ n → f p = (n : Int) - (p : Int)) : ∀ (l : List (Nat × Nat)) (acc : List (Nat × Nat)) (pl m : Nat), (∀ q ∈ l, q.1 < q.2 ∧ q.2 ≤ n) → pl + m = n → l.filter isS = (List.range' pl m).map (fun i => (i, i + 1)) → (l.foldl (stepA f) (acc, pl)).1 = acc ++ (List.range' pl m).map fun i => (i, i + 1)
  | [], acc, pl, m, _, _, h => by
    have h' : (List.range' pl m).map (fun i => (i, i + 1)) = [] := h.symm
    rw [h', List.append_nil]
    rfl
  | q :: r, acc, pl, m, hm, hn, h => by
    have hq := hm q (List.mem_cons_self ..)
    have hr : ∀ q ∈ r, q.1 < q.2 ∧ q.2 ≤ n := fun x hx => hm x (List.mem_cons_of_mem _ hx)
    rw [List.foldl_cons]
    obtain ⟨a, b⟩ := q
    by_cases hs : b = a + 1
    · have hb : isS (a, b) = true := decide_eq_true hs
      rw [List.filter_cons, if_pos hb] at h
      cases m with
      | zero => simp at h
      | succ m =>
        rw [List.range'_succ, List.map_cons] at h
        injection h with h1 h2
        injection h1 with h3 h4
        subst h3
        have hst : stepA f (acc, a) (a, b) = (acc ++ [(a, b)], b) := by
          unfold stepA
          rw [if_pos]
          refine ⟨Nat.le_refl _, ?_⟩
          show 1 + f b = f a
          rw [hv b hq.2, hv a (by omega)]
          omega
        rw [hst]
        have ih := apt_fold hv r (acc ++ [(a, b)]) b m hr (by omega) (by rw [h4]; exact h2)
        rw [ih, List.range'_succ, List.map_cons, h4, List.append_assoc]
        rfl
    · have hb : ¬ isS (a, b) = true := fun z => hs (of_decide_eq_true z)
      rw [List.filter_cons, if_neg hb] at h
      have hst : stepA f (acc, pl) (a, b) = (acc, pl) := by
        unfold stepA
        rw [if_neg]
        rintro ⟨h1, h2⟩
        have h1 : pl ≤ a := h1
        have h2 : 1 + f b = f pl := h2
        have h3 : a < b := hq.1
        rw [hv b hq.2, hv pl (by omega)] at h2
        omega
      rw [hst]
      exact apt_fold hv r acc pl m hr hn h
theorem apt_sgl (HO : Hits n hs) (hf : Bst n hs wOne f) (hall : ∀ i, i < n → (i, i + 1) ∈ hs) : (apt f hs).1 = sgl n := by
  unfold apt
  rw [apt_fold (n := n) (fun p hp => bst_all HO hf hall _ p rfl hp) hs [] 0 n HO.mem (by omega) (by rw [filt_sgl HO hall]; unfold sgl; rw [List.range_eq_range'])]
  rw [List.nil_append]
  unfold sgl
  rw [List.range_eq_range']
end
theorem zer_len (n : Nat) : (zer n).length = n := List.length_replicate ..
theorem one_len (n : Nat) : (one n).length = n := List.length_replicate ..
theorem psum_zer (n k : Nat) : psum (zer n) k = 0 := by
  unfold zer
  rw [psum_rep, Int.mul_zero]
theorem zer_all (n : Nat) {a b : Nat} : (a, b) ∈ hitsBy (zer n) (eqT 0) ↔ a < b ∧ b ≤ n := by
  rw [mem_hits26, psum_zer, psum_zer, zer_len]
  exact ⟨fun h => h.1, fun h => ⟨h, rfl⟩⟩
theorem zer_none (n : Nat) : hitsBy (zer n) (eqT 1) = [] := by
  rw [List.eq_nil_iff_forall_not_mem]
  rintro ⟨a, b⟩ h
  rw [mem_hits26, psum_zer, psum_zer] at h
  have := of_decide_eq_true h.2
  omega
theorem one_hit (n : Nat) {i : Nat} (h : i < n) : (i, i + 1) ∈ hitsBy (one n) (eqT 1) := by
  rw [mem_hits26, one_len]
  refine ⟨⟨by omega, by omega⟩, decide_eq_true ?_⟩
  show psum (List.replicate n 1) (i + 1) - psum (List.replicate n 1) i = 1
  rw [psum_rep, psum_rep, Nat.min_eq_left (by omega), Nat.min_eq_left (by omega)]
  omega
theorem zer_evl (n l : Nat) : evl (hitsBy (zer n) (eqT 0)) l = List.range' (l + 1) (n - l) := by
  refine lt_uniq (evl_nodup _ _ _) (List.pairwise_lt_range' ..) fun x => ?_
  rw [evl_iff, psum_zer, psum_zer, zer_len, List.mem_range'_1]
  constructor
  · rintro ⟨h, _⟩
    omega
  · intro h
    exact ⟨by omega, rfl⟩
theorem zer_step {n l : Nat} (h : l + 1 < n) : waysOf (zer n) 0 l = 2 * waysOf (zer n) 0 (l + 1) := by
  have e : ∀ j, j < n → waysOf (zer n) 0 j = ((List.range' (j + 1) (n - j)).map (waysOf (zer n) 0)).sum := fun j hj => by
    unfold waysOf
    rw [ways_eq (hits_HO (zer n) (eqT 0)) j, zer_evl]
    have : W0 (zer n).length j = 0 := by unfold W0; rw [zer_len, if_neg (by omega)]
    rw [this, Int.zero_add]
  have e1 := e l (by omega)
  have e2 := e (l + 1) h
  rw [show n - l = (n - (l + 1)) + 1 by omega, List.range'_succ, List.map_cons, List.sum_cons, ← e2] at e1
  omega
theorem zer_ways (n : Nat) : ∀ k, k < n → waysOf (zer n) 0 (n - 1 - k) = 2 ^ k
  | 0, h => by
    unfold waysOf
    have hn : n - 1 - 0 + 1 = n := by omega
    rw [ways_eq (hits_HO (zer n) (eqT 0)) (n - 1 - 0), zer_evl]
    have : W0 (zer n).length (n - 1 - 0) = 0 := by unfold W0; rw [zer_len, if_neg (by omega)]
    have hl := ways_last (hits_HO (zer n) (eqT 0))
    rw [zer_len] at hl
    rw [this, show n - (n - 1 - 0) = 1 by omega, hn, zer_len]
    show 0 + (ways n (hitsBy (zer n) (eqT 0)) n + 0) = 1
    rw [hl]
    rfl
  | k + 1, h => by
    have ih := zer_ways n k (by omega)
    rw [zer_step (by omega), show n - 1 - (k + 1) + 1 = n - 1 - k by omega, ih, Int.pow_succ]
    omega
theorem zer_count (n : Nat) : waysOf (zer n) 0 0 = 2 ^ (n - 1) := by
  cases n with
  | zero =>
    have hl := ways_last (hits_HO (zer 0) (eqT 0))
    exact hl
  | succ n =>
    have := zer_ways (n + 1) n (by omega)
    rw [show n + 1 - 1 - n = 0 by omega] at this
    exact this
theorem zer_pos (n : Nat) : ∀ k l, n - l = k → l ≤ n → 0 < waysOf (zer n) 0 l
  | 0, l, hk, hl => by
    have : l = n := by omega
    subst this
    have h := ways_last (hits_HO (zer l) (eqT 0))
    rw [zer_len] at h
    unfold waysOf
    rw [zer_len, h]
    decide
  | k + 1, l, hk, hl => by
    have ih := zer_pos n k (l + 1) (by omega) (by omega)
    unfold waysOf at ih ⊢
    refine (ways_pos (hits_HO (zer n) (eqT 0)) (by rw [zer_len]; omega)).mpr ⟨l + 1, ?_, ih⟩
    rw [zer_evl, List.mem_range'_1]
    omega
theorem zer_chn (n : Nat) : ∀ k l, n - l = k → l ≤ n → chn (zer n).length (hitsBy (zer n) (eqT 0)) l = (List.range' l k).map fun i => (i, i + 1)
  | 0, l, hk, hl => by
    have : l = (zer n).length := by rw [zer_len]; omega
    rw [this, chn_last (hits_HO (zer n) _)]
    rfl
  | k + 1, l, hk, hl => by
    have ih := zer_chn n k (l + 1) (by omega) (by omega)
    have hp := zer_pos n k (l + 1) (by omega) (by omega)
    have hg : (evg (zer n).length (hitsBy (zer n) (eqT 0)) l).head? = some (l + 1) := by
      unfold evg
      rw [zer_evl, hk, List.range'_succ, List.filter_cons, if_pos (show decide (0 < ways (zer n).length (hitsBy (zer n) (eqT 0)) (l + 1)) = true from decide_eq_true hp)]
      rfl
    rw [chn_eq (hits_HO (zer n) _) (by rw [zer_len]; omega) hg, ih, List.range'_succ, List.map_cons]
theorem zer_first (n : Nat) : firstP (zer n) 0 = some (sgl n) := by
  unfold firstP
  have := zer_pos n n 0 (by omega) (Nat.zero_le _)
  rw [if_neg (by omega), zer_chn n n 0 (by omega) (Nat.zero_le _)]
  unfold sgl
  rw [List.range_eq_range']
theorem zer_nums (n : Nat) {f : Nat → Int} (hf : Bst (zer n).length (hitsBy (zer n) (eqT 0)) (fun r => (r.2 : Int) - (r.1 : Int)) f) : f 0 = (n : Int) := by
  have up := len_up (hits_HO (zer n) _) hf n 0 (by rw [zer_len]; omega) (Nat.zero_le _)
  rw [zer_len] at up
  have lo : ∀ k p, n - p = k → p ≤ n → (n : Int) - (p : Int) ≤ f p := fun k => by
    induction k with
    | zero =>
      intro p hk hp
      have : p = (zer n).length := by rw [zer_len]; omega
      rw [this, hf.1, zer_len]; omega
    | succ k ih =>
      intro p hk hp
      have i1 := ih (p + 1) (by omega) (by omega)
      have h := (hf.2 p (Nat.zero_le _) (by rw [zer_len]; omega)).2.1 (p + 1) (mem_evl ((zer_all n).mpr ⟨by omega, by omega⟩))
      have h : ((p + 1 : Nat) : Int) - (p : Int) + f (p + 1) ≤ f p := h
      omega
  have := lo n 0 (by omega) (Nat.zero_le _)
  omega
end My

namespace My
open PySem L2
def pI2 (p : Nat × Nat) : List Int := [(p.1 : Int), (p.2 : Int)]
theorem pairsT_eqD {K : PySem.W.Frag} {H : Hp} {n : Nat} {xs ys : List V} {ps : List (Nat × Nat)} {a b : Addr} (h1 : TupsAt g2 H xs ps) (h2 : TupsAt g2 H ys ps) (ha : H a = some (.tup xs)) (hb : H b = some (.tup ys)) : EqD K H (n + 1 + 1) (.ref a) (.ref b) true := by
  refine EqD.seq (SqB.t ha) (SqB.t hb) (by rw [h1.1, h2.1]) fun i x y hx hy => ?_
  have hi : i < ps.length := by rw [← h1.1]; exact (List.getElem?_eq_some_iff.mp hx).1
  obtain ⟨u, e1, e2⟩ := h1.2 i _ (List.getElem?_eq_getElem hi)
  obtain ⟨v, e3, e4⟩ := h2.2 i _ (List.getElem?_eq_getElem hi)
  rw [hx] at e1; cases e1
  rw [hy] at e3; cases e3
  exact EqD.ints (ns := pI2 ps[i]) (SqB.t e2) (SqB.t e4)
theorem sgl_succ (i : Nat) : sgl (i + 1) = sgl i ++ [(i, i + 1)] := by
  unfold sgl
  rw [List.range_succ, List.map_append]
  rfl
def spAlike (T0 : Addr) : Sp := fun vs H Q _ => ∃ (n : Nat), vs = [.int (n : Int)] ∧ n ≤ 60 ∧ TabA T0 H ∧ ∀ H', Kp T0 H H' → TabA T0 H' → Q (.bl true) H'
section
variable {P : Program} {w : World} {K : PySem.W.Frag} {mg : Str → Option Value} {base : Heap}
abbrev s_law_alike_right : Stmt := top 19
theorem sc_law_alike_right : FnScope ["many", "noughts", "due"] ["many"] (defScope s_law_alike_right) := ⟨rfl, rfl, rfl, by decide +kernel, rfl, by decide +kernel, by decide +kernel⟩
theorem ok_alike_right {f f1 f2 f3 f4 c0 T0 : Addr} {fd fd1 fd2 fd3 fd4 : FuncData} (F : Fun K "_law_alike_right" "_law_alike_right" s_law_alike_right f fd) (T : Txt mg)
    (D_most_apart : DefAtC K mg "most_apart" s_most_apart ["row", "total"] f1 fd1 c0 T0) (G_most_apart : FnOk P w K mg base CX0 5 f1 fd1 ["row", "total"] (spApart T0))
    (D_first_parting : DefAt K mg "first_parting" s_first_parting ["row", "total"] f2 fd2) (G_first_parting : FnOk P w K mg base CX0 5 f2 fd2 ["row", "total"] spFirstP)
    (D_count_partings : DefAt K mg "count_partings" s_count_partings ["row", "total"] f3 fd3) (G_count_partings : FnOk P w K mg base CX0 5 f3 fd3 ["row", "total"] spCountP)
    (D_most_numbers : DefAt K mg "most_numbers" s_most_numbers ["row", "total"] f4 fd4) (G_most_numbers : FnOk P w K mg base CX0 5 f4 fd4 ["row", "total"] spNums) : FnOk P w K mg base CX0 6 f fd ["many"] (spAlike T0) := by
  refine F.ok sc_law_alike_right (fun vs H Q E h => ?_) (fun cdv A outer s H vs Q E hr h => ?_)
  · obtain ⟨n, rfl, _⟩ := h
    rfl
  · obtain ⟨n, rfl, hn, tab, k⟩ := h
    have hu := hr.units0
    have hu64 := hr.units
    have hsl := sizeLine_eq
    refine ⟨_, (pss_cons (ps_set (i := 1) sc_law_alike_right.nd rfl (Or.inl rfl) (pe_op (op_repT (K := K) rfl) (pe_tup (pa_cons pe_int pa_nil)) (pv 0)))
      (pss_cons (ps_set (i := 2) sc_law_alike_right.nd rfl (Or.inl rfl) (pe_callTy (cTuple (K := K) rfl) (by rfl) T.b_tuple PyProof.Rows.Boot.«tuple» (pa_cons (pe_comp (N := ["k"]) (cap := [none]) rfl (show blkOk ["many", "noughts", "due"] (defScope s_law_alike_right) ["k"] [none] _ = true by decide +kernel) (pi_range1 (by rfl) T.b_range (pa_cons (pv 0) pa_nil)) (fun cl C s3 H3 fp => ⟨(pg_name (i := 0) (show (["k"] : List Str).Nodup by decide +kernel) rfl (Or.inl rfl)), pts_nil, fun it acc => (paf_emit rfl (pe_tup (pa_cons (pv 0) (pa_cons (pe_op op_add (pv 0) pe_int) pa_nil))))⟩)) pa_nil)))
      (pss_cons (ps_if (PW.pt (pw_or (pt_cmpR (oNeD (K := K) rfl hu64) (pe_call G_most_apart (hr.mono (by first | decide | exact Nat.le_refl _)) rfl D_most_apart.mg D_most_apart.fn.kp D_most_apart.bd .nil pass0 (pa_cons (pv 1) (pa_cons pe_int pa_nil))) (pv 2) (nomark _)) (pw_or (pt_cmpR (oNeD (K := K) rfl hu64) (pe_call G_first_parting (hr.mono (by first | decide | exact Nat.le_refl _)) rfl D_first_parting.mg D_first_parting.fn.kp D_first_parting.bd .nil pass0 (pa_cons (pv 1) (pa_cons pe_int pa_nil))) (pv 2) (nomark _)) (pw_or1 (pt_cmpR (oNeD (K := K) rfl hu64) (pe_call G_most_apart (hr.mono (by first | decide | exact Nat.le_refl _)) rfl D_most_apart.mg D_most_apart.fn.kp D_most_apart.bd .nil pass0 (pa_cons (pe_op (op_repT (K := K) rfl) (pe_tup (pa_cons pe_int pa_nil)) (pv 0)) (pa_cons pe_int pa_nil))) (pv 2) (nomark _))))))
        (pss_one (ps_ret pe_bl))
        pss_nil)
      (pss_cons (ps_if (pt_cmpR op_ne (pe_call G_count_partings (hr.mono (by first | decide | exact Nat.le_refl _)) rfl D_count_partings.mg D_count_partings.fn.kp D_count_partings.bd .nil pass0 (pa_cons (pv 1) (pa_cons pe_int pa_nil))) (pe_op op_shl pe_int (pe_callB (call_max2 rfl) (by rfl) T.b_max PyProof.Rows.Boot.«max» (pa_cons pe_int (pa_cons (pe_op op_sub (pv 0) pe_int) pa_nil)))) (nomark _))
        (pss_one (ps_ret pe_bl))
        pss_nil)
      (pss_one (ps_ret (pe_and (pe_cmpR op_eq (pe_call G_most_numbers (hr.mono (by first | decide | exact Nat.le_refl _)) rfl D_most_numbers.mg D_most_numbers.fn.kp D_most_numbers.bd .nil pass0 (pa_cons (pv 1) (pa_cons pe_int pa_nil))) (pv 0) (nomark _)) (pe_and (pe_cmpR (oEq (K := K) rfl true hu) (pe_call G_most_apart (hr.mono (by first | decide | exact Nat.le_refl _)) rfl D_most_apart.mg D_most_apart.fn.kp D_most_apart.bd .nil pass0 (pa_cons (pv 1) (pa_cons pe_int pa_nil))) (pe_tup pa_nil) (nomark _)) (pe_one (pe_cmpR op_eq (pe_call G_count_partings (hr.mono (by first | decide | exact Nat.le_refl _)) rfl D_count_partings.mg D_count_partings.fn.kp D_count_partings.bd .nil pass0 (pa_cons (pe_op (op_repT (K := K) rfl) (pe_tup (pa_cons pe_int pa_nil)) (pv 0)) (pa_cons pe_int pa_nil))) pe_int (nomark _))))))))))), ?_⟩
    -- noughts
    refine ⟨by show 1 ≤ sizeLine; decide, fun t1 ht1 => ?_⟩
    have S1 := Same.lay (o := .tup [.int 0]) ht1
    refine ⟨_, rfl, t1, (n : Int), .int 0, rfl, rfl, upd_same, by omega, by omega, fun z H2 S2 hz => ?_⟩
    rw [Int.toNat_natCast] at hz
    have hz : H2 z = some (.tup ((zer n).map V.int)) := by rw [hz]; unfold zer; rw [List.map_replicate]
    have Z2 := S1.trans S2
    dsimp only [gName]
    -- due
    refine ⟨_, rfl, _, rfl, by omega, by omega, fun acc hacc => ?_⟩
    rw [Int.toNat_natCast]
    refine walk_range (fun i σ H' => ∃ (v : Option V) (ys : List V), σ = [v] ∧ H' acc = some (.lst ys) ∧ TupsAt g2 H' ys (sgl i) ∧ Same H2 H') ⟨none, [], rfl, upd_same, TupsAt.nil, Same.lay hacc⟩ ?_ ?_
    · rintro i σ HA hi ⟨v, ys, rfl, ha, hy, SA⟩
      have ylen : ys.length ≤ 100000 := by rw [hy.1]; unfold sgl; rw [List.length_map, List.length_range]; omega
      dsimp only [gName]
      refine ⟨_, rfl, _, rfl, _, _, rfl, rfl, by show 2 ≤ sizeLine; decide, fun t ht => ⟨ys, (upd_ne (ne_of_none ha ht)).trans ha, size_lt (by omega), _, _, rfl, upd_same, ?_, ?_⟩⟩
      · rw [sgl_succ]
        refine TupsAt.snoc (hy.mono fun c zs e => ?_) ?_
        · rw [upd_ne (ne_of e ha (by intro z; cases z)), upd_ne (ne_of_none e ht)]; exact e
        · rw [upd_ne (Ne.symm (ne_of_none ha ht)), upd_same]
          show some (HO.tup [.int (0 + (i : Int)), .int (0 + (i : Int) + 1)]) = some (HO.tup [.int (i : Int), .int ((i + 1 : Nat) : Int)])
          rw [show (0 : Int) + (i : Int) = (i : Int) by omega, show (i : Int) + 1 = ((i + 1 : Nat) : Int) by omega]
      · exact fun c o e => by rw [upd_ne (ne_of_none e hacc), upd_ne (ne_of_none (SA c o e) ht)]; exact SA c o e
    rintro σ H3 ⟨v, ys, rfl, ha, hy, S3⟩
    refine ⟨acc, _, rfl, .inl ⟨SqL.of ha, fun du hdu => ?_⟩⟩
    have S4 := Same.lay (o := .tup ys) hdu
    have hdu1 : upd H3 du (.tup ys) du = some (.tup ys) := upd_same
    have hy4 : TupsAt g2 (upd H3 du (.tup ys)) ys (sgl n) := hy.mono fun a zs e => S4 _ _ e
    dsimp only [gName]
    generalize upd H3 du (.tup ys) = H4 at S4 hdu1 hy4
    have Z4 : Same H H4 := (Z2.trans S3).trans S4
    have hz4 := S4 _ _ (S3 _ _ hz)
    have tab4 := tab.keep Z4
    have zl : (zer n).length ≤ 1000 := by rw [zer_len]; omega
    have ol : (one n).length ≤ 1000 := by rw [one_len]; omega
    -- most_apart(noughts, 0)
    refine ⟨_, rfl, z, zer n, 0, rfl, ⟨hz4, zl⟩, tab4, fun q f xs H5 hB hq htq K5 tab5 => ?_⟩
    have nT4 : ∀ {b : Addr} {zs : List V}, H4 b = some (.tup zs) → b ≠ T0 := fun e => tab4.ne e (by intro ps z; cases z)
    have k5 : ∀ (b : Addr) (zs : List V), H4 b = some (.tup zs) → H5 b = some (.tup zs) := fun b zs e => K5 _ _ e (nT4 e)
    have eq1 : (apt f (hitsBy (zer n) (eqT 0))).1 = sgl (zer n).length := apt_sgl (hits_HO (zer n) _) hB fun i hi => (zer_all n).mpr ⟨by omega, by rw [zer_len] at hi; omega⟩
    rw [eq1, zer_len] at htq
    refine ⟨_, rfl, 1, true, by decide, pairsT_eqD htq (hy4.mono k5) hq (k5 _ _ hdu1), .inl ⟨_, rfl⟩, false, rfl, iteF ?_⟩
    -- first_parting(noughts, 0)
    refine ⟨_, rfl, z, zer n, 0, rfl, ⟨k5 _ _ hz4, zl⟩, fun v H6 hv S6 => ?_⟩
    rw [zer_first] at hv
    obtain ⟨q2, xs2, rfl, hq2, ht2⟩ := hv
    have k6 : ∀ (b : Addr) (zs : List V), H4 b = some (.tup zs) → H6 b = some (.tup zs) := fun b zs e => S6 _ _ (k5 b zs e)
    refine ⟨_, rfl, 1, true, by decide, pairsT_eqD ht2 (hy4.mono k6) hq2 (k6 _ _ hdu1), .inl ⟨_, rfl⟩, false, rfl, iteF ?_⟩
    -- most_apart((1,) * many, 1)
    refine ⟨by show 1 ≤ sizeLine; decide, fun t2 ht2' => ?_⟩
    have S7 := Same.lay (o := .tup [.int 1]) ht2'
    refine ⟨_, rfl, t2, (n : Int), .int 1, rfl, rfl, upd_same, by omega, by omega, fun z2 H8 S8 hz2 => ?_⟩
    rw [Int.toNat_natCast] at hz2
    have hz2 : H8 z2 = some (.tup ((one n).map V.int)) := by rw [hz2]; unfold one; rw [List.map_replicate]
    have S68 := S7.trans S8
    have tab8 := (tab5.keep S6).keep S68
    refine ⟨z2, one n, 1, rfl, ⟨hz2, ol⟩, tab8, fun q3 f3 xs3 H9 hB3 hq3 ht3 K9 tab9 => ?_⟩
    have nT8 : ∀ {b : Addr} {zs : List V}, H8 b = some (.tup zs) → b ≠ T0 := fun e => tab8.ne e (by intro ps z; cases z)
    have k9 : ∀ (b : Addr) (zs : List V), H4 b = some (.tup zs) → H9 b = some (.tup zs) := fun b zs e => K9 _ _ (S68 _ _ (k6 b zs e)) (nT8 (S68 _ _ (k6 b zs e)))
    have eq3 : (apt f3 (hitsBy (one n) (eqT 1))).1 = sgl (one n).length := apt_sgl (hits_HO (one n) _) hB3 fun i hi => one_hit n (by rw [one_len] at hi; exact hi)
    rw [eq3, one_len] at ht3
    refine ⟨_, rfl, 1, true, by decide, pairsT_eqD ht3 (hy4.mono k9) hq3 (k9 _ _ hdu1), .inl ⟨_, rfl⟩, false, rfl, iteF ?_⟩
    -- count_partings(noughts, 0)
    have KK9 : Kp T0 H H9 := fun b o e nb => K9 _ _ (S68 _ _ (S6 _ _ (K5 _ _ (Z4 _ _ e) nb))) nb
    refine ⟨_, rfl, z, zer n, 0, rfl, ⟨k9 _ _ hz4, zl⟩, fun HA SA => ?_⟩
    have epw : ((if (n : Int) - 1 > 0 then (n : Int) - 1 else 0).toNat) = n - 1 := by split <;> omega
    refine ⟨_, rfl, _, _, rfl, rfl, _, _, rfl, _, _, rfl, rfl, ⟨by split <;> omega, by split <;> omega, by decide⟩, rfl, _, rfl, iteNS ?_ ?_⟩
    · show V.int _ = V.int _
      congr 1
      rw [zer_count, epw, Int.one_mul]
    have tabA := tab9.keep SA
    have kA : ∀ (b : Addr) (zs : List V), H4 b = some (.tup zs) → HA b = some (.tup zs) := fun b zs e => SA _ _ (k9 b zs e)
    -- return
    refine ⟨_, rfl, z, zer n, 0, rfl, ⟨kA _ _ hz4, zl⟩, fun f4 HB hB4 SB => ⟨_, rfl, rfl, true, ?_, iteT ?_⟩⟩
    · rw [zer_nums n hB4, decide_eq_true rfl]
    have tabB := tabA.keep SB
    refine ⟨_, rfl, z, zer n, 1, rfl, ⟨SB _ _ (kA _ _ hz4), zl⟩, tabB, fun q5 f5 xs5 HC hB5 hq5 ht5 K10 tabC => ?_⟩
    have e5 : xs5 = [] := by
      have := ht5.1
      rw [zer_none] at this
      exact List.length_eq_zero_iff.mp this
    subst e5
    refine ⟨by show 0 ≤ sizeLine; omega, fun e0 he0 => ?_⟩
    have SD := Same.lay (o := .tup []) he0
    refine ⟨q5, e0, [], [], rfl, rfl, SqT.of (SD _ _ hq5), SqT.of upd_same, rfl, rfl, true, rfl, iteT ?_⟩
    have tabD := tabC.keep SD
    generalize upd HC e0 (.tup []) = HD at SD tabD
    refine ⟨by show 1 ≤ sizeLine; decide, fun t3 ht3' => ?_⟩
    have SE := Same.lay (o := .tup [.int 1]) ht3'
    refine ⟨_, rfl, t3, (n : Int), .int 1, rfl, rfl, upd_same, by omega, by omega, fun z3 HF SF hz3 => ?_⟩
    rw [Int.toNat_natCast] at hz3
    have hz3 : HF z3 = some (.tup ((one n).map V.int)) := by rw [hz3]; unfold one; rw [List.map_replicate]
    refine ⟨z3, one n, 1, rfl, ⟨hz3, ol⟩, fun HG SG => ⟨rfl, ?_⟩⟩
    have ec : decide (V.int (waysOf (one n) 1 0) = V.int 1) = true := by
      apply decide_eq_true
      rw [(planted_one n).count (by decide)]
    show Q (.bl (decide (V.int (waysOf (one n) 1 0) = V.int 1))) HG
    rw [ec]
    refine k HG (fun b o e nb => ?_) (((tabD.keep SE).keep SF).keep SG)
    exact SG _ _ (SF _ _ (SE _ _ (SD _ _ (K10 _ _ (SB _ _ (SA _ _ (KK9 b o e nb))) nb))))
end
end My

namespace L2
open PySem
theorem star_plain {env : Env} : ∀ {e : Expr} (es : List Expr), PySem.W.kdsPlain e = true → starEach (e :: es) env = (false, eval e env) :: starEach es env := fun {e} es h => by
  cases e <;> first | rfl | exact absurd h (by simp [PySem.W.kdsPlain])
theorem pa_consX {X : Cx} {e : Expr} {es : List Expr} {te : TE} {t : TA} (ha : PE X e te) (hr : PA X es t) (hp : PySem.W.kdsPlain e = true) : PA X (e :: es) (tCons te t) := pa_cons ha hr (star_plain es hp)
theorem swaps_sub {a b : Expr} {p : Pos} {t : Option Expr} {l : Nat} {env : Env} : swapsWith (.Subscript a b p) t l env = pure false := rfl
end L2
namespace My
open PySem L2
theorem ndvd {tot x : Int} (ht : 7 ≤ tot.natAbs) (hx : x.natAbs < 7) (h0 : x ≠ 0) : ¬ tot ∣ x := fun h => by
  have := Nat.le_of_dvd (by omega) (Int.natAbs_dvd_natAbs.mpr h)
  omega
/-- what may be planted: some, and the rest of total -/
structure Seg (tot : Int) (sm : List Int) : Prop where
  len : sm.length ≤ 2
  no : ∀ i, 0 < i → i ≤ sm.length → ¬ tot ∣ psum sm i
theorem Seg.good {tot : Int} {sm : List Int} (S : Seg tot sm) : 0 < (sm ++ [tot - sm.sum]).length ∧ psum (sm ++ [tot - sm.sum]) (sm ++ [tot - sm.sum]).length = tot ∧ ∀ i, 0 < i → i < (sm ++ [tot - sm.sum]).length → ¬ tot ∣ psum (sm ++ [tot - sm.sum]) i := by
  refine ⟨by simp, ?_, fun i h0 h1 => ?_⟩
  · unfold psum
    rw [List.take_length, List.sum_append]
    simp only [List.sum_cons, List.sum_nil]
    omega
  · rw [List.length_append] at h1
    simp only [List.length_cons, List.length_nil] at h1
    rw [psum_leftL _ _ (by omega)]
    exact S.no i h0 (by omega)
theorem seg_nil (tot : Int) : Seg tot [] := ⟨by decide, fun i h0 h1 => by simp at h1; omega⟩
theorem seg_one {tot x : Int} (h : ¬ tot ∣ x) : Seg tot [x] := ⟨by simp, fun i h0 h1 => by
  have : i = 1 := by simp at h1; omega
  subst this
  have e : psum [x] 1 = x := by simp [psum]
  rw [e]; exact h⟩
theorem seg_two {tot : Int} (ht : 7 ≤ tot.natAbs) : Seg tot [1, 1] := ⟨by decide, fun i h0 h1 => by
  have : i = 1 ∨ i = 2 := by simp at h1; omega
  rcases this with rfl | rfl
  · exact ndvd ht (by decide) (by decide)
  · exact ndvd ht (by decide) (by decide)⟩
theorem cut_to (xs : List V) (k : Nat) : cutV xs none (some (k : Int)) = xs.take k := by
  have e1 : HT.sIx xs.length 0 none = 0 := rfl
  have e2 : HT.sIx xs.length xs.length (some (k : Int)) = min k xs.length := by
    unfold HT.sIx
    simp only
    split <;> omega
  unfold cutV
  rw [e1, e2, List.drop_zero, Nat.sub_zero]
  rcases Nat.le_total k xs.length with h | h
  · rw [Nat.min_eq_left h]
  · rw [Nat.min_eq_right h, List.take_length, List.take_of_length_le h]
def nI (n : Nat) : V := .int (n : Int)
def spPlant : Sp := fun vs H Q _ => ∃ (d c : Addr) (tot : Int), vs = [.ref d, .int tot] ∧ Deck H d c ∧ 7 ≤ tot.natAbs ∧ tot.natAbs < 2 ^ 60 ∧
  ∀ (t p q : Addr) (ns : List Int) (ps : List Nat) (H' : Hp), H' t = some (.tup [.ref p, .ref q]) → H' p = some (.tup (ns.map V.int)) → H' q = some (.lst (ps.map nI)) → Planted tot ns ps → ns.length ≤ 60 → ps.length ≤ 61 → Deck H' d c → Sv d c H H' → Q (.ref t) H'
section
variable {P : Program} {w : World} {K : PySem.W.Frag} {mg : Str → Option Value} {base : Heap}

abbrev s_law_planted : Stmt := top 17
theorem sc_law_planted : FnScope ["deck", "total", "row", "places", "k", "some"] ["deck", "total"] (defScope s_law_planted) := ⟨rfl, rfl, rfl, by decide +kernel, rfl, by decide +kernel, by decide +kernel⟩
theorem ok_planted {f f1 : Addr} {fd fd1 : FuncData} (F : Fun K "_law_planted" "_law_planted" s_law_planted f fd) (T : Txt mg) (D__law_take : DefAt K mg "_law_take" s_law_take ["deck", "many"] f1 fd1) : FnOk P w K mg base CX0 2 f fd ["deck", "total"] spPlant := by
  have G__law_take : FnOk P w K mg base CX0 1 f1 fd1 ["deck", "many"] spTake := ok_take D__law_take.fn T
  refine F.ok sc_law_planted (fun vs H Q E h => ?_) (fun cdv A outer s H vs Q E hr h => ?_)
  · obtain ⟨d, c, tot, rfl, _⟩ := h
    rfl
  · obtain ⟨d, c, tot, rfl, D, ht7, ht60, k⟩ := h
    have hsl := sizeLine_eq
    refine ⟨_, (pss_cons (ps_set (i := 2) sc_law_planted.nd rfl (Or.inl rfl) (pe_lst pa_nil))
      (pss_cons (ps_set (i := 3) sc_law_planted.nd rfl (Or.inl rfl) (pe_lst (pa_cons pe_int pa_nil)))
      (pss_cons (ps_for PassesOwn.never rfl (pi_range1 (by rfl) T.b_range (pa_cons (pe_call G__law_take (hr.mono (by first | decide | exact Nat.le_refl _)) rfl D__law_take.mg D__law_take.fn.kp D__law_take.bd .nil pass0 (pa_cons (pv 0) (pa_cons pe_int pa_nil))) pa_nil)) (pg_name (i := 4) sc_law_planted.nd rfl (Or.inl rfl))
        (@pss_cons _ _ _ _ _ (@ps_set _ _ 5 _ _ _ _ sc_law_planted.nd rfl (Or.inl rfl) (@pe_ix _ _ _ _ _ _ _ (ixL (K := K) rfl) (@pe_lst _ _ _ _ (@pa_consX _ _ _ _ _ (@pe_lst _ _ _ _ pa_nil) (@pa_consX _ _ _ _ _ (@pe_lst _ _ _ _ (@pa_consX _ _ _ _ _ pe_int pa_nil rfl)) (@pa_consX _ _ _ _ _ (@pe_lst _ _ _ _ (@pa_consX _ _ _ _ _ pe_int (@pa_consX _ _ _ _ _ pe_int pa_nil rfl) rfl)) (@pa_consX _ _ _ _ _ (@pe_lst _ _ _ _ (@pa_consX _ _ _ _ _ pe_int pa_nil rfl)) (@pa_consX _ _ _ _ _ (@pe_lst _ _ _ _ (@pa_consX _ _ _ _ _ (pe_un un_neg pe_int) pa_nil rfl)) (@pa_consX _ _ _ _ _ (@pe_lst _ _ _ _ (@pa_consX _ _ _ _ _ (pe_op op_add (pe_op op_sub (pe_op op_mul (pv 1) (pe_call G__law_take (hr.mono (by first | decide | exact Nat.le_refl _)) rfl D__law_take.mg D__law_take.fn.kp D__law_take.bd .nil pass0 (@pa_consX _ _ _ _ _ (pv 0) (@pa_consX _ _ _ _ _ pe_int pa_nil rfl) rfl))) (pe_op op_mul (pv 1) pe_int)) pe_int) pa_nil rfl)) pa_nil rfl) rfl) rfl) rfl) rfl) rfl)) (pe_call G__law_take (hr.mono (by first | decide | exact Nat.le_refl _)) rfl D__law_take.mg D__law_take.fn.kp D__law_take.bd .nil pass0 (@pa_consX _ _ _ _ _ (pv 0) (@pa_consX _ _ _ _ _ pe_int pa_nil rfl) rfl)) (fun _ _ => rfl)) swaps_sub (Or.inl rfl))
        (pss_cons (ps_set (i := 2) sc_law_planted.nd rfl (Or.inl rfl) (pe_op op_cat (pe_op op_cat (pv 2) (pv 5)) (pe_lst (pa_cons (pe_op op_sub (pv 1) (pe_callB (cSum (K := K) rfl rfl false) (by rfl) T.b_sum PyProof.Rows.Boot.«sum» (pa_cons (pv 5) pa_nil))) pa_nil))))
        (pss_one (ps_expr (pe_bm PySem.F.plainAttrs_list PySem.F.slot_list_append PySem.F.type_list_append mt_append (pv 3) (pa_cons (pe_callB (cLen (K := K) rfl) (by rfl) T.b_len PyProof.Rows.Boot.«len» (pa_cons (pv 2) pa_nil)) pa_nil)))))))
      (pss_one (ps_ret (pe_tup (pa_cons (pe_callTy (cTuple (K := K) rfl) (by rfl) T.b_tuple PyProof.Rows.Boot.«tuple» (pa_cons (pe_slice (slL (K := K) rfl) (pv 2) po_none (po_some pe_int)) pa_nil)) (pa_cons (pe_comp (N := ["place"]) (cap := [none]) rfl (show blkOk ["deck", "total", "row", "places", "k", "some"] (defScope s_law_planted) ["place"] [none] _ = true by decide +kernel) (piL (K := K) rfl (pv 3)) (fun cl C s3 H3 fp => ⟨(pg_name (i := 0) (show (["place"] : List Str).Nodup by decide +kernel) rfl (Or.inl rfl)), (pts_one (pt_cmpR op_le (pv 0) pe_int (nomark _))), fun it acc => (paf_emit rfl (pv 0))⟩)) pa_nil)))))))), ?_⟩
    refine ⟨by show 0 ≤ sizeLine; omega, fun rl hrl => ?_⟩
    have S1 := Sv.lay (d := d) (c := c) (o := .lst []) hrl
    have D1 : Deck (upd H rl (.lst [])) d c := D.lay hrl
    have e1 : upd H rl (.lst []) rl = some (.lst []) := upd_same
    obtain ⟨rn1, rn2⟩ := D.nd hrl
    dsimp only [gName]
    generalize upd H rl (.lst []) = H1 at S1 D1 e1
    refine ⟨by show 1 ≤ sizeLine; decide, fun pl hpl => ?_⟩
    have S2 := Sv.lay (d := d) (c := c) (o := .lst [.int 0]) hpl
    have D2 : Deck (upd H1 pl (.lst [.int 0])) d c := D1.lay hpl
    have e2 : upd H1 pl (.lst [.int 0]) pl = some (.lst (([0] : List Nat).map nI)) := upd_same
    obtain ⟨pn1, pn2⟩ := D1.nd hpl
    have npr : rl ≠ pl := ne_of_none e1 hpl
    have e1' : upd H1 pl (.lst [.int 0]) rl = some (.lst (([] : List Int).map V.int)) := (upd_ne npr).trans e1
    have hplH : H pl = none := by
      cases e : H pl with
      | none => rfl
      | some o => have := S1 _ _ e pn1 pn2; rw [hpl] at this; cases this
    dsimp only [gName]
    generalize upd H1 pl (.lst [.int 0]) = H2 at S2 D2 e2 e1'
    refine ⟨_, rfl, d, c, 21, rfl, D2, by decide, by decide, fun r H3 r0 r1 D3 S3 => ⟨_, rfl, by omega, by omega, ?_⟩⟩
    refine for_range (fun i σ H' => ∃ (v4 v5 : Option V) (rl : Addr) (ns : List Int) (ps : List Nat), σ = [some (.ref d), some (.int tot), some (.ref rl), some (.ref pl), v4, v5] ∧ rl ≠ pl ∧ rl ≠ d ∧ rl ≠ c ∧ H' rl = some (.lst (ns.map V.int)) ∧ H' pl = some (.lst (ps.map nI)) ∧ Planted tot ns ps ∧ ns.length ≤ 3 * i ∧ ps.length ≤ i + 1 ∧ Deck H' d c ∧ Sv d c H H')
      ⟨none, none, rl, [], [0], rfl, npr, rn1, rn2, S3 _ _ e1' rn1 rn2, S3 _ _ e2 pn1 pn2, planted_nil tot, Nat.zero_le _, Nat.le_refl _, D3, S1.trans (S2.trans S3)⟩ ?_ ?_
    · rintro i σ H4 hi ⟨v4, v5, rl, ns, ps, rfl, npr, rn1, rn2, hr4, hp4, PL, nl, pll, D4, S4⟩
      dsimp only [gName]
      -- some
      refine ⟨by show 0 ≤ sizeLine; omega, fun l0 h0 => ?_⟩
      have A0 := Same.lay (o := .lst []) h0
      have b0 : upd H4 l0 (.lst []) l0 = some (.lst (([] : List Int).map V.int)) := upd_same
      generalize upd H4 l0 (.lst []) = G0 at A0 b0
      refine ⟨by show 1 ≤ sizeLine; decide, fun l1 h1 => ?_⟩
      have A1 := Same.lay (o := .lst [.int 1]) h1
      have b1 : upd G0 l1 (.lst [.int 1]) l1 = some (.lst (([1] : List Int).map V.int)) := upd_same
      generalize upd G0 l1 (.lst [.int 1]) = G1 at A1 b1
      refine ⟨by show 2 ≤ sizeLine; decide, fun l2 h2 => ?_⟩
      have A2 := Same.lay (o := .lst [.int 1, .int 1]) h2
      have b2 : upd G1 l2 (.lst [.int 1, .int 1]) l2 = some (.lst (([1, 1] : List Int).map V.int)) := upd_same
      generalize upd G1 l2 (.lst [.int 1, .int 1]) = G2 at A2 b2
      refine ⟨by show 1 ≤ sizeLine; decide, fun l3 h3 => ?_⟩
      have A3 := Same.lay (o := .lst [.int 2]) h3
      have b3 : upd G2 l3 (.lst [.int 2]) l3 = some (.lst (([2] : List Int).map V.int)) := upd_same
      generalize upd G2 l3 (.lst [.int 2]) = G3 at A3 b3
      refine ⟨_, rfl, by show 1 ≤ sizeLine; decide, fun l4 h4 => ?_⟩
      have A4 := Same.lay (o := .lst [.int (-1)]) h4
      have b4 : upd G3 l4 (.lst [.int (-1)]) l4 = some (.lst (([-1] : List Int).map V.int)) := upd_same
      generalize upd G3 l4 (.lst [.int (-1)]) = G4 at A4 b4
      have A04 := A0.trans (A1.trans (A2.trans (A3.trans A4)))
      have DG4 := D4.same A04
      refine ⟨_, rfl, _, rfl, d, c, 9, rfl, DG4, by decide, by decide, fun r9 G5 q0 q1 D5 S5 => ?_⟩
      refine ⟨_, _, rfl, rfl, .inl (by omega), _, rfl, _, _, rfl, rfl, .inl (by omega), _, _, rfl, rfl, _, _, rfl, rfl, by show 1 ≤ sizeLine; decide, fun l5 h5 => ?_⟩
      have A6 := Same.lay (o := .lst [.int (tot * r9 - tot * 4 + 1)]) h5
      have b5 : upd G5 l5 (.lst [.int (tot * r9 - tot * 4 + 1)]) l5 = some (.lst (([tot * r9 - tot * 4 + 1] : List Int).map V.int)) := upd_same
      have D6 := D5.same A6
      obtain ⟨m51, m52⟩ := D5.nd h5
      generalize upd G5 l5 (.lst [.int (tot * r9 - tot * 4 + 1)]) = G6 at A6 b5 D6
      refine ⟨by show 6 ≤ sizeLine; decide, fun ll hll => ?_⟩
      have A7 := Same.lay (o := .lst [.ref l0, .ref l1, .ref l2, .ref l3, .ref l4, .ref l5]) hll
      have b7 : upd G6 ll (.lst [.ref l0, .ref l1, .ref l2, .ref l3, .ref l4, .ref l5]) ll = some (.lst [.ref l0, .ref l1, .ref l2, .ref l3, .ref l4, .ref l5]) := upd_same
      have D7 := D6.same A7
      obtain ⟨ml1, ml2⟩ := D6.nd hll
      generalize upd G6 ll (.lst [.ref l0, .ref l1, .ref l2, .ref l3, .ref l4, .ref l5]) = G7 at A7 b7 D7
      refine ⟨_, rfl, d, c, 6, rfl, D7, by decide, by decide, fun r6 G8 w0 w1 D8 S8 => ?_⟩
      have b7' : G8 ll = some (.lst [.ref l0, .ref l1, .ref l2, .ref l3, .ref l4, .ref l5]) := S8 _ _ b7 ml1 ml2
      -- what stood in G4 stands in G8, but for the deck
      have up4 : ∀ b o, G4 b = some o → b ≠ d → b ≠ c → G8 b = some o := fun b o e n1 n2 => S8 _ _ (A7 _ _ (A6 _ _ (S5 _ _ e n1 n2))) n1 n2
      have nd4 : ∀ {b : Addr} {zs : List Int}, G4 b = some (.lst (zs.map V.int)) → b ≠ c → G8 b = some (.lst (zs.map V.int)) := fun {b zs} e n2 => by
        refine up4 _ _ e (fun z => ?_) n2
        obtain ⟨x, y, hd⟩ := DG4.dk
        rw [z, hd] at e
        cases zs with
        | nil => cases e
        | cons a r => injection e with e; injection e with e; injection e with e _; cases e
      have n0 := D4.nd h0
      have n1 := (D4.same A0).nd h1
      have n2 := (D4.same (A0.trans A1)).nd h2
      have n3 := (D4.same (A0.trans (A1.trans A2))).nd h3
      have n4 := (D4.same (A0.trans (A1.trans (A2.trans A3)))).nd h4
      have hfin : ∃ (sm : Addr) (sg : List Int), atI ([.ref l0, .ref l1, .ref l2, .ref l3, .ref l4, .ref l5] : List V) r6 = some (.ref sm) ∧ G8 sm = some (.lst (sg.map V.int)) ∧ sm ≠ d ∧ sm ≠ c ∧ Seg tot sg := by
        have h6 : r6 = 0 ∨ r6 = 1 ∨ r6 = 2 ∨ r6 = 3 ∨ r6 = 4 ∨ r6 = 5 := by omega
        rcases h6 with rfl | rfl | rfl | rfl | rfl | rfl
        · exact ⟨l0, [], rfl, up4 _ _ (A4 _ _ (A3 _ _ (A2 _ _ (A1 _ _ b0)))) n0.1 n0.2, n0.1, n0.2, seg_nil tot⟩
        · exact ⟨l1, [1], rfl, up4 _ _ (A4 _ _ (A3 _ _ (A2 _ _ b1))) n1.1 n1.2, n1.1, n1.2, seg_one (ndvd ht7 (by decide) (by decide))⟩
        · exact ⟨l2, [1, 1], rfl, up4 _ _ (A4 _ _ (A3 _ _ b2)) n2.1 n2.2, n2.1, n2.2, seg_two ht7⟩
        · exact ⟨l3, [2], rfl, up4 _ _ (A4 _ _ b3) n3.1 n3.2, n3.1, n3.2, seg_one (ndvd ht7 (by decide) (by decide))⟩
        · exact ⟨l4, [-1], rfl, up4 _ _ b4 n4.1 n4.2, n4.1, n4.2, seg_one (ndvd ht7 (by decide) (by decide))⟩
        · refine ⟨l5, [tot * r9 - tot * 4 + 1], rfl, S8 _ _ (A7 _ _ b5) m51 m52, m51, m52, seg_one fun hd => ?_⟩
          have h2 : tot ∣ tot * r9 - tot * 4 := by rw [← Int.mul_sub]; exact Int.dvd_mul_right _ _
          exact ndvd ht7 (x := 1) (by decide) (by decide) ((Int.dvd_add_right h2).mp hd)
      obtain ⟨sm, sg, hat, hsm, sn1, sn2, SG⟩ := hfin
      refine ⟨_, _, _, _, rfl, rfl, SqL.of b7', hat, ?_⟩
      have hr8 := up4 _ _ (A04 _ _ hr4) rn1 rn2
      have hp8 := up4 _ _ (A04 _ _ hp4) pn1 pn2
      have S48 : Sv d c H4 G8 := fun b o e m1 m2 => up4 b o (A04 _ _ e) m1 m2
      have sgl := SG.len
      have lr : ns.length ≤ 60 := by omega
      dsimp only [gName]
      clear up4 nd4 b0 b1 b2 b3 b4 b5 b7 b7' A0 A1 A2 A3 A4 A6 A7 A04 hat
      refine ⟨_, rfl, _, rfl, rl, sm, _, _, rfl, rfl, hr8, hsm, by simp only [List.length_map]; omega, fun m1 hm1 => ?_⟩
      have B1 := Same.lay (o := .lst (ns.map V.int ++ sg.map V.int)) hm1
      have c1 : upd G8 m1 (.lst (ns.map V.int ++ sg.map V.int)) m1 = some (.lst (ns.map V.int ++ sg.map V.int)) := upd_same
      have E1 := D8.same B1
      generalize upd G8 m1 (.lst (ns.map V.int ++ sg.map V.int)) = G9 at B1 c1 E1
      refine ⟨_, rfl, _, rfl, sm, sg, rfl, SqL.of (B1 _ _ hsm), _, _, rfl, rfl, by show 1 ≤ sizeLine; omega, fun m2 hm2 => ?_⟩
      have B2 := Same.lay (o := .lst [.int (tot - sg.sum)]) hm2
      have c2 : upd G9 m2 (.lst [.int (tot - sg.sum)]) m2 = some (.lst [.int (tot - sg.sum)]) := upd_same
      have E2 := E1.same B2
      generalize upd G9 m2 (.lst [.int (tot - sg.sum)]) = G10 at B2 c2 E2
      refine ⟨m1, m2, _, _, rfl, rfl, B2 _ _ c1, c2, by simp only [List.length_append, List.length_map, List.length_cons, List.length_nil]; omega, fun m3 hm3 => ?_⟩
      have e3 : (ns.map V.int ++ sg.map V.int) ++ [V.int (tot - sg.sum)] = (ns ++ (sg ++ [tot - sg.sum])).map V.int := by simp
      rw [e3]
      have B3 := Same.lay (o := .lst ((ns ++ (sg ++ [tot - sg.sum])).map V.int)) hm3
      have c3 : upd G10 m3 (.lst ((ns ++ (sg ++ [tot - sg.sum])).map V.int)) m3 = some (.lst ((ns ++ (sg ++ [tot - sg.sum])).map V.int)) := upd_same
      have E3 := E2.same B3
      obtain ⟨mn1, mn2⟩ := E2.nd hm3
      have nmp : m3 ≠ pl := fun z => by
        have := B2 _ _ (B1 _ _ hp8)
        rw [← z, hm3] at this; cases this
      generalize upd G10 m3 (.lst ((ns ++ (sg ++ [tot - sg.sum])).map V.int)) = G11 at B3 c3 E3
      have B := B1.trans (B2.trans B3)
      have hp11 := B _ _ hp8
      refine ⟨_, rfl, .inl ⟨rfl, _, SqL.of hp11⟩, _, rfl, m3, _, rfl, .inl (SqL.of c3), pl, _, _, rfl, rfl, hp11, by rw [List.length_map]; omega, ?_⟩
      have e4 : ps.map nI ++ [V.int (((ns ++ (sg ++ [tot - sg.sum])).map V.int).length : Int)] = (ps ++ [(ns ++ (sg ++ [tot - sg.sum])).length]).map nI := by
        simp only [List.map_append, List.map_cons, List.map_nil, List.length_append, List.length_map]; rfl
      rw [e4]
      obtain ⟨g1, g2, g3⟩ := SG.good
      refine ⟨_, _, m3, ns ++ (sg ++ [tot - sg.sum]), ps ++ [(ns ++ (sg ++ [tot - sg.sum])).length], rfl, nmp, mn1, mn2, (upd_ne nmp).trans c3, upd_same, PL.snoc g1 g2 g3, ?_, ?_, ?_, ?_⟩
      · simp only [List.length_append, List.length_cons, List.length_nil]; omega
      · simp only [List.length_append, List.length_cons, List.length_nil]; omega
      · obtain ⟨⟨x, y, z1⟩, zs, z2, z3⟩ := E3
        exact ⟨⟨x, y, (upd_ne (Ne.symm pn1)).trans z1⟩, zs, (upd_ne (Ne.symm pn2)).trans z2, z3⟩
      · intro b o e m1' m2'
        have nb : b ≠ pl := fun z => by rw [z, hplH] at e; cases e
        exact (upd_ne nb).trans (B _ _ (S48 _ _ (S4 _ _ e m1' m2') m1' m2'))
    · rintro σ H4 ⟨v4, v5, rl, ns, ps, rfl, npr, rn1, rn2, hr4, hp4, PL, nl, pll, D4, S4⟩
      have nl60 : ns.length ≤ 60 := by omega
      have pl60 : ∀ x ∈ ps, x ≤ 60 := fun x hx => by
        obtain ⟨j, hj, e⟩ := List.getElem_of_mem hx
        have := (PL.sum j x (by rw [List.getElem?_eq_getElem hj, e])).1
        omega
      refine ⟨_, rfl, 60, rfl, rl, _, rfl, SqL.of hr4, fun p1 hp1 => ?_⟩
      have ec : cutV (ns.map V.int) none (some 60) = ns.map V.int := by
        rw [show (60 : Int) = ((60 : Nat) : Int) from rfl, cut_to, List.take_of_length_le (by rw [List.length_map]; exact nl60)]
      rw [ec]
      have B1 := Same.lay (o := .lst (ns.map V.int)) hp1
      have c1 : upd H4 p1 (.lst (ns.map V.int)) p1 = some (.lst (ns.map V.int)) := upd_same
      have E1 := D4.same B1
      generalize upd H4 p1 (.lst (ns.map V.int)) = G1 at B1 c1 E1
      refine ⟨p1, _, rfl, .inl ⟨SqL.of c1, fun p2 hp2 => ?_⟩⟩
      have B2 := Same.lay (o := .tup (ns.map V.int)) hp2
      have c2 : upd G1 p2 (.tup (ns.map V.int)) p2 = some (.tup (ns.map V.int)) := upd_same
      have E2 := E1.same B2
      generalize upd G1 p2 (.tup (ns.map V.int)) = G2 at B2 c2 E2
      have hp2' := B2 _ _ (B1 _ _ hp4)
      refine ⟨_, rfl, pl, rfl, ⟨_, SqL.of hp2'⟩, fun acc hacc => ?_⟩
      refine walk_list (xs := ps.map nI) (fun i σ H' => ∃ v1 : Option V, σ = [v1] ∧ H' acc = some (.lst ((ps.take i).map nI)) ∧ Same G2 H') ⟨none, rfl, upd_same, Same.lay hacc⟩ ?_ ?_ ?_
      · rintro i σ H' _ ⟨v1, rfl, ha, S'⟩
        exact SqL.of (S' _ _ hp2')
      · rintro i y σ H' hy ⟨v1, rfl, ha, S'⟩
        rw [List.getElem?_map] at hy
        obtain ⟨x, hx, rfl⟩ := Option.map_eq_some_iff.mp hy
        have hx60 := pl60 x (List.mem_of_getElem? hx)
        refine ⟨_, rfl, _, _, rfl, rfl, _, rfl, ?_⟩
        show (if decide ((x : Int) ≤ 60) = true then _ else _)
        rw [if_pos (decide_eq_true (by omega))]
        refine ⟨_, rfl, _, ha, by rw [List.length_map, List.length_take]; omega, _, rfl, ?_, fun b o e => by rw [upd_ne (ne_of_none e hacc)]; exact S' b o e⟩
        rw [upd_same, List.take_add_one, hx, List.map_append]
        rfl
      · rintro σ H' ⟨v1, rfl, ha, S'⟩
        rw [List.length_map, List.take_length] at ha
        refine ⟨by show 2 ≤ sizeLine; omega, fun t ht => ?_⟩
        have B3 := Same.lay (o := .tup [.ref p2, .ref acc]) ht
        have E3 := (E2.same S').same B3
        refine k t p2 acc ns ps _ upd_same (B3 _ _ (S' _ _ c2)) (B3 _ _ ha) PL nl60 (by omega) E3 fun b o e m1 m2 => B3 _ _ (S' _ _ (B2 _ _ (B1 _ _ (S4 _ _ e m1 m2))))
end
end My

namespace My
open PySem L2
def spPRight : Sp := fun vs H Q _ => ∃ (d c : Addr) (tot : Int), vs = [.ref d, .int tot] ∧ Deck H d c ∧ 7 ≤ tot.natAbs ∧ tot.natAbs < 2 ^ 60 ∧ ∀ H' : Hp, Deck H' d c → Sv d c H H' → Q (.bl true) H'
theorem cut_from1 (xs : List V) : cutV xs (some 1) none = xs.drop 1 := by
  have e1 : HT.sIx xs.length 0 (some (1 : Int)) = min 1 xs.length := HT.sIx_nat _ _ 1
  unfold cutV
  rw [e1, HT.sIx_none]
  cases xs with
  | nil => rfl
  | cons x r =>
    rw [List.length_cons, Nat.min_eq_left (by omega), Nat.add_sub_cancel]
    show r.take r.length = r
    exact List.take_length
theorem nbrs_tups {H : Hp} {ps : List Nat} {as : List Addr} (hl : as.length = min (ps.map nI).length ((ps.map nI).drop 1).length) (PA : PairsAt H (ps.map nI) ((ps.map nI).drop 1) as) : TupsAt g2 H (as.map V.ref) (nbrs ps) := by
  refine ⟨?_, fun i p hp => ?_⟩
  · unfold nbrs
    rw [List.length_map, hl, List.length_zip, List.length_drop, List.length_drop, List.length_map]
  · unfold nbrs at hp
    rw [List.getElem?_zip_eq_some] at hp
    obtain ⟨p1, p2⟩ := hp
    have hi : i < as.length := by
      rw [hl, List.length_drop, List.length_map]
      have h1 := (List.getElem?_eq_some_iff.mp p1).1
      have h2 := (List.getElem?_eq_some_iff.mp p2).1
      rw [List.length_drop] at h2
      omega
    obtain ⟨x, y, ex, ey, e⟩ := PA i _ (List.getElem?_eq_getElem hi)
    rw [List.getElem?_map, p1] at ex
    rw [← List.map_drop, List.getElem?_map, p2] at ey
    refine ⟨as[i], by rw [List.getElem?_map, List.getElem?_eq_getElem hi]; rfl, ?_⟩
    rw [e]
    cases ex
    cases ey
    rfl
theorem last_at {ps : List Nat} {n : Nat} (h : ps[ps.length - 1]? = some n) : atI (ps.map nI) (-1) = some (nI n) := by
  have h0 := (List.getElem?_eq_some_iff.mp h).1
  have e : ps = ps.take (ps.length - 1) ++ [n] := by
    conv => lhs; rw [← List.take_append_drop (ps.length - 1) ps]
    rw [List.drop_eq_getElem_cons h0, (List.getElem?_eq_some_iff.mp h).2, List.drop_of_length_le (by omega)]
  rw [e, List.map_append]
  exact atI_last _ _
section
variable {P : Program} {w : World} {K : PySem.W.Frag} {mg : Str → Option Value} {base : Heap}

abbrev s_law_planted_right : Stmt := top 18
theorem sc_law_planted_right : FnScope ["deck", "total", "row", "places", "due", "wider"] ["deck", "total"] (defScope s_law_planted_right) := ⟨rfl, rfl, rfl, by decide +kernel, rfl, by decide +kernel, by decide +kernel⟩
theorem ok_planted_right {f f1 f2 f3 f4 f5 : Addr} {fd fd1 fd2 fd3 fd4 fd5 : FuncData} (F : Fun K "_law_planted_right" "_law_planted_right" s_law_planted_right f fd) (T : Txt mg)
    (D__law_take : DefAt K mg "_law_take" s_law_take ["deck", "many"] f1 fd1)
    (D__law_planted : DefAt K mg "_law_planted" s_law_planted ["deck", "total"] f5 fd5)
    (D_first_parting : DefAt K mg "first_parting" s_first_parting ["row", "total"] f2 fd2) (G_first_parting : FnOk P w K mg base CX0 5 f2 fd2 ["row", "total"] spFirstP)
    (D_count_partings : DefAt K mg "count_partings" s_count_partings ["row", "total"] f3 fd3) (G_count_partings : FnOk P w K mg base CX0 5 f3 fd3 ["row", "total"] spCountP)
    (D_most_numbers : DefAt K mg "most_numbers" s_most_numbers ["row", "total"] f4 fd4) (G_most_numbers : FnOk P w K mg base CX0 5 f4 fd4 ["row", "total"] spNums) : FnOk P w K mg base CX0 6 f fd ["deck", "total"] spPRight := by
  have G__law_take : FnOk P w K mg base CX0 1 f1 fd1 ["deck", "many"] spTake := ok_take D__law_take.fn T
  have G__law_planted : FnOk P w K mg base CX0 2 f5 fd5 ["deck", "total"] spPlant := ok_planted D__law_planted.fn T D__law_take
  refine F.ok sc_law_planted_right (fun vs H Q E h => ?_) (fun cdv A outer s H vs Q E hr h => ?_)
  · obtain ⟨d, c, tot, rfl, _⟩ := h
    rfl
  · obtain ⟨d, c, tot, rfl, D, ht7, ht60, k⟩ := h
    have hu := hr.units0
    have hu64 := hr.units
    have hsl := sizeLine_eq
    refine ⟨_, (pss_cons (ps_asg (pe_call G__law_planted (hr.mono (by first | decide | exact Nat.le_refl _)) rfl D__law_planted.mg D__law_planted.fn.kp D__law_planted.bd .nil pass0 (pa_cons (pv 0) (pa_cons (pv 1) pa_nil))) (pgT (K := K) (n := 2) rfl rfl (pgs_cons (pg_name (i := 2) sc_law_planted_right.nd rfl (Or.inl rfl)) (pgs_cons (pg_name (i := 3) sc_law_planted_right.nd rfl (Or.inl rfl)) pgs_nil))))
      (pss_cons (ps_set (i := 2) sc_law_planted_right.nd rfl (Or.inl rfl) (pe_slice slTB (pv 2) po_none (po_some (pe_ix (ixL (K := K) rfl) (pv 3) (pe_un un_neg pe_int) (fun _ _ => rfl)))))
      (pss_cons (ps_set (i := 4) sc_law_planted_right.nd rfl (Or.inl rfl) (pe_callTy (cTuple (K := K) rfl) (by rfl) T.b_tuple PyProof.Rows.Boot.«tuple» (pa_cons (pe_listZip false false rfl (by rfl) T.b_list (by rfl) T.b_zip (pa_cons (pv 3) (pa_cons (pe_slice (slL (K := K) rfl) (pv 3) (po_some pe_int) po_none) pa_nil))) pa_nil)))
      (pss_cons (ps_if (PW.pt (pw_or (pt_cmpR op_ne (pe_call G_count_partings (hr.mono (by first | decide | exact Nat.le_refl _)) rfl D_count_partings.mg D_count_partings.fn.kp D_count_partings.bd .nil pass0 (pa_cons (pv 2) (pa_cons (pv 1) pa_nil))) pe_int (nomark _)) (pw_or1 (pt_cmpR (oNeD (K := K) rfl hu64) (pe_call G_first_parting (hr.mono (by first | decide | exact Nat.le_refl _)) rfl D_first_parting.mg D_first_parting.fn.kp D_first_parting.bd .nil pass0 (pa_cons (pv 2) (pa_cons (pv 1) pa_nil))) (pv 4) (nomark _)))))
        (pss_one (ps_ret pe_bl))
        pss_nil)
      (pss_cons (ps_if (pt_cmpR op_ne (pe_call G_most_numbers (hr.mono (by first | decide | exact Nat.le_refl _)) rfl D_most_numbers.mg D_most_numbers.fn.kp D_most_numbers.bd .nil pass0 (pa_cons (pv 2) (pa_cons (pv 1) pa_nil))) (pe_callB (cLen (K := K) rfl) (by rfl) T.b_len PyProof.Rows.Boot.«len» (pa_cons (pv 2) pa_nil)) (nomark _))
        (pss_one (ps_ret pe_bl))
        pss_nil)
      (pss_cons (ps_set (i := 5) sc_law_planted_right.nd rfl (Or.inl rfl) (pe_op oCatB (pv 2) (pe_tup (pa_cons (pe_op op_add (pe_op op_add (pv 1) pe_int) (pe_op op_mul pe_int (pe_call G__law_take (hr.mono (by first | decide | exact Nat.le_refl _)) rfl D__law_take.mg D__law_take.fn.kp D__law_take.bd .nil pass0 (pa_cons (pv 0) (pa_cons pe_int pa_nil))))) pa_nil))))
      (pss_one (ps_ret (pe_or (pe_cmpR op_gt (pe_callB (cLen (K := K) rfl) (by rfl) T.b_len PyProof.Rows.Boot.«len» (pa_cons (pv 5) pa_nil)) pe_int (nomark _)) (pe_one (pe_and (pe_cmpR op_eq (pe_call G_count_partings (hr.mono (by first | decide | exact Nat.le_refl _)) rfl D_count_partings.mg D_count_partings.fn.kp D_count_partings.bd .nil pass0 (pa_cons (pv 5) (pa_cons (pv 1) pa_nil))) pe_int (nomark _)) (pe_one (pe_cmpR op_isN (pe_call G_first_parting (hr.mono (by first | decide | exact Nat.le_refl _)) rfl D_first_parting.mg D_first_parting.fn.kp D_first_parting.bd .nil pass0 (pa_cons (pv 5) (pa_cons (pv 1) pa_nil))) pe_non (nomark _)))))))))))))), ?_⟩
    refine ⟨_, rfl, _, rfl, d, c, tot, rfl, D, ht7, ht60, fun t p q ns ps H1 ht hp hq PL nl pbd D1 S1 => ?_⟩
    have ht0 : tot ≠ 0 := by omega
    refine ⟨t, _, rfl, SqT.of ht, rfl, _, _, rfl, _, _, rfl, rfl, ?_⟩
    dsimp only [gName]
    refine ⟨_, rfl, _, rfl, _, rfl, q, _, -1, _, rfl, rfl, SqL.of hq, last_at PL.last, _, rfl, p, _, rfl, hp, fun rw2 H2 S2 hrw => ?_⟩
    rw [cut_to, List.take_of_length_le (by rw [List.length_map]; exact Nat.le_refl _)] at hrw
    have D2 := D1.same S2
    have hq2 := S2 _ _ hq
    dsimp only [gName]
    -- due
    refine ⟨_, rfl, _, rfl, 1, rfl, q, _, rfl, SqL.of hq2, fun p3 hp3 => ?_⟩
    rw [cut_from1]
    have S3 := Same.lay (o := .lst ((ps.map nI).drop 1)) hp3
    have e3 : upd H2 p3 (.lst ((ps.map nI).drop 1)) p3 = some (.lst ((ps.map nI).drop 1)) := upd_same
    generalize upd H2 p3 (.lst ((ps.map nI).drop 1)) = H3 at S3 e3
    refine ⟨q, p3, _, _, rfl, SqL.of (S3 _ _ hq2), SqL.of e3, by rw [List.length_map]; omega, fun p4 as H4 hn3 hn4 S4 hal PA => ?_⟩
    have S5 := Same.lay (o := .lst (as.map V.ref)) hn4
    have e5 : upd H4 p4 (.lst (as.map V.ref)) p4 = some (.lst (as.map V.ref)) := upd_same
    have tp := nbrs_tups hal PA
    generalize upd H4 p4 (.lst (as.map V.ref)) = H5 at S5 e5
    refine ⟨p4, _, rfl, .inl ⟨SqL.of e5, fun du hdu => ?_⟩⟩
    have S6 := Same.lay (o := .tup (as.map V.ref)) hdu
    have e6 : upd H5 du (.tup (as.map V.ref)) du = some (.tup (as.map V.ref)) := upd_same
    generalize upd H5 du (.tup (as.map V.ref)) = H6 at S6 e6
    have tp6 : TupsAt g2 H6 (as.map V.ref) (nbrs ps) := tp.mono fun a zs e => S6 _ _ (S5 _ _ e)
    have S26 : Same H2 H6 := S3.trans (S4.trans (S5.trans S6))
    have hrw6 := S26 _ _ hrw
    have D6 := D2.same S26
    have nl' : ns.length ≤ 1000 := by omega
    dsimp only [gName]
    -- count_partings
    refine ⟨_, rfl, _, rfl, rw2, ns, tot, rfl, ⟨hrw6, nl'⟩, fun H7 S7 => ⟨rfl, _, rfl, iteNS ?_ ?_⟩⟩
    · rw [PL.count ht0]
    -- first_parting
    refine ⟨_, rfl, _, rfl, rw2, ns, tot, rfl, ⟨S7 _ _ hrw6, nl'⟩, fun v H8 hv S8 => ?_⟩
    rw [PL.firstP ht0] at hv
    obtain ⟨q2, xs2, rfl, hq2', ht2⟩ := hv
    have S68 := S7.trans S8
    refine ⟨_, rfl, 1, true, by decide, pairsT_eqD ht2 (tp6.mono fun a zs e => S68 _ _ e) hq2' (S68 _ _ e6), .inl ⟨_, rfl⟩, false, rfl, iteF ?_⟩
    -- most_numbers
    refine ⟨_, rfl, _, rfl, rw2, ns, tot, rfl, ⟨S68 _ _ hrw6, nl'⟩, fun f9 H9 hB9 S9 => ⟨_, rfl, rw2, _, rfl, .inr (SqT.of (S9 _ _ (S68 _ _ hrw6))), rfl, _, rfl, iteNS ?_ ?_⟩⟩
    · rw [PL.nums ht0 hB9, List.length_map]
    have S69 := S68.trans S9
    have D9 := D6.same S69
    have hrw9 := S69 _ _ hrw6
    -- wider
    refine ⟨_, rfl, _, rfl, _, _, rfl, rfl, _, rfl, d, c, 3, rfl, D9, by decide, by decide, fun r H10 r0 r1 D10 S10 => ?_⟩
    have nd9 : rw2 ≠ d ∧ rw2 ≠ c := by
      obtain ⟨⟨x, y, z1⟩, zs, z2, z3⟩ := D9
      exact ⟨ne_of hrw9 z1 (by intro z; cases z), ne_of hrw9 z2 (by intro z; cases z)⟩
    have hrw10 := S10 _ _ hrw9 nd9.1 nd9.2
    refine ⟨_, _, rfl, rfl, .inl (by omega), _, _, rfl, rfl, by show 1 ≤ sizeLine; omega, fun t1 ht1 => ?_⟩
    have S11 := Same.lay (o := .tup [.int (tot + 1 + 2 * r)]) ht1
    have e11 : upd H10 t1 (.tup [.int (tot + 1 + 2 * r)]) t1 = some (.tup [.int (tot + 1 + 2 * r)]) := upd_same
    generalize upd H10 t1 (.tup [.int (tot + 1 + 2 * r)]) = H11 at S11 e11
    refine ⟨rw2, t1, _, _, rfl, rfl, S11 _ _ hrw10, e11, by simp only [List.length_map, List.length_cons, List.length_nil]; omega, fun wd H12 S12 hwd => ?_⟩
    have hwd : H12 wd = some (.tup ((ns ++ [tot + 1 + 2 * r]).map V.int)) := by rw [hwd, List.map_append]; rfl
    have hnd : ¬ tot ∣ tot + 1 + 2 * r := fun h => by
      have e : tot + 1 + 2 * r = tot + (1 + 2 * r) := by omega
      rw [e] at h
      exact ndvd ht7 (x := 1 + 2 * r) (by omega) (by omega) ((Int.dvd_add_right (Int.dvd_refl _)).mp h)
    have hw0 := PL.wider hnd
    have hf0 : firstP (ns ++ [tot + 1 + 2 * r]) tot = none := by unfold firstP; rw [if_pos hw0]
    have wl : (ns ++ [tot + 1 + 2 * r]).length ≤ 1000 := by rw [List.length_append, List.length_singleton]; omega
    have S1012 := S11.trans S12
    have D12 := D10.same S1012
    have SV : ∀ {H' : Hp}, Same H12 H' → Sv d c H H' := fun {H'} S b o e m1 m2 => S _ _ (S1012 _ _ (S10 _ _ (S69 _ _ (S26 _ _ (S2 _ _ (S1 _ _ e m1 m2)))) m1 m2))
    generalize ns ++ [tot + 1 + 2 * r] = ws at hwd hw0 hf0 wl
    dsimp only [gName]
    refine ⟨_, rfl, wd, _, rfl, .inr (SqT.of hwd), _, _, rfl, rfl, _, rfl, ite2 (fun _ => ?_) (fun _ => ?_)⟩
    · exact k H12 D12 (SV (Same.refl _))
    · refine ⟨_, rfl, _, rfl, wd, ws, tot, rfl, ⟨hwd, wl⟩, fun H13 S13 => ⟨rfl, true, ?_, iteT ?_⟩⟩
      · rw [hw0]; rfl
      refine ⟨_, rfl, _, rfl, wd, ws, tot, rfl, ⟨S13 _ _ hwd, wl⟩, fun v H14 hv S14 => ⟨rfl, ?_⟩⟩
      rw [hf0] at hv
      have hv : v = .non := hv
      subst hv
      exact k H14 (D12.same (S13.trans S14)) (SV (S13.trans S14))
end
end My

namespace My
open PySem L2
/-- the deck's deeds leave the table -/
theorem tab_sv {pos : Pos} {qual : Str} {P d c : Addr} {H H' : Hp} (h : TabAt pos qual P H) (D : Deck H d c) (s : Sv d c H H') : TabAt pos qual P H' := by
  obtain ⟨⟨a, sd, h1⟩, ns, h2, _⟩ := D
  have ne : ∀ b o, H b = some o → (∀ xs, o ≠ .lst xs) → H' b = some o := fun b o e n => s b o e (ne_of e h1 (n _)) (ne_of e h2 (n _))
  rcases h with h | ⟨c', e1, e2⟩
  · exact .inl (ne _ _ h (by intro xs z; cases z))
  · exact .inr ⟨c', ne _ _ e1 (by intro xs z; cases z), ne _ _ e2 (by intro xs z; cases z)⟩
theorem Deck.kq {P d c : Addr} {pos : Pos} {qual : Str} {H H' : Hp} (D : Deck H d c) (h : TabAt pos qual P H) (s : Kp P H H') : Deck H' d c := by
  obtain ⟨⟨a, sd, h1⟩, ns, h2, h3⟩ := D
  exact ⟨⟨a, sd, s _ _ h1 (h.ne h1 (by intro ps z; cases z))⟩, ns, s _ _ h2 (h.ne h2 (by intro ps z; cases z)), h3⟩
theorem CP6 : CPow 10 6 := ⟨by decide, by decide, by decide⟩
theorem CP4 : CPow 10 4 := ⟨by decide, by decide, by decide⟩
def spLaw (K : PySem.W.Frag) (tabs : List Addr) : Sp := fun vs H Q _ => ∃ (a : Addr) (ns : List Int), vs = [.ref a] ∧ SqL K H a (ns.map V.int) ∧ ns.length ≤ 63 ∧ (∀ P ∈ tabs, H P = some (.tbl #[])) ∧ ∀ H', Q (.bl true) H'
section
variable {P : Program} {w : World} {K : PySem.W.Frag} {mg : Str → Option Value} {base : Heap}

abbrev s_law : Stmt := top 20
theorem sc_law : FnScope ["script", "deck", "turn", "total"] ["script"] (defScope s_law) := ⟨rfl, rfl, rfl, by decide +kernel, rfl, by decide +kernel, by decide +kernel⟩
theorem ok_law {f f1 f2 f3 f4 f5 f6 f7 f8 f9 f10 f11 f12 f13 f14 f15 f16 c0 T0 : Addr} {fd fd1 fd2 fd3 fd4 fd5 fd6 fd7 fd8 fd9 fd10 fd11 fd12 fd13 fd14 fd15 fd16 : FuncData} (F : Fun K "law" "law" s_law f fd) (T : Txt mg) (BM : BmAt mg base)
    (D_sums_ahead : DefAt K mg "sums_ahead" s_sums_ahead ["row"] f1 fd1) (D_stretches_of : DefAt K mg "stretches_of" s_stretches_of ["row"] f2 fd2) (D_summed_stretches : DefAt K mg "summed_stretches" s_summed_stretches ["row"] f3 fd3) (D_all_with : DefAt K mg "all_with" s_all_with ["row", "total"] f4 fd4)
    (D_most_apart : DefAtC K mg "most_apart" s_most_apart ["row", "total"] f5 fd5 c0 T0) (D_best_from : DefAt K mg "best_from" s_best_from ["row", "total", "worth"] f6 fd6)
    (D_length_of : DefAt K mg "length_of" s_length_of ["stretch"] f7 fd7) (D_most_numbers : DefAt K mg "most_numbers" s_most_numbers ["row", "total"] f10 fd10) (D_partings_from : DefAt K mg "partings_from" s_partings_from ["row", "total"] f11 fd11)
    (D_count_partings : DefAt K mg "count_partings" s_count_partings ["row", "total"] f12 fd12) (D_first_parting : DefAt K mg "first_parting" s_first_parting ["row", "total"] f13 fd13)
    (D__law_deck : DefAt K mg "_law_deck" s_law_deck ["script"] f8 fd8) (D__law_take : DefAt K mg "_law_take" s_law_take ["deck", "many"] f9 fd9)
    (D__law_planted : DefAt K mg "_law_planted" s_law_planted ["deck", "total"] f14 fd14) (D__law_planted_right : DefAt K mg "_law_planted_right" s_law_planted_right ["deck", "total"] f15 fd15) (D__law_alike_right : DefAt K mg "_law_alike_right" s_law_alike_right ["many"] f16 fd16) : FnOk P w K mg base CX0 7 f fd ["script"] (spLaw K [T0]) := by
  have G_summed_stretches : FnOk P w K mg base CX0 2 f3 fd3 ["row"] spSummed := ok_summed_stretches D_summed_stretches.fn T D_sums_ahead D_stretches_of
  have G_all_with : FnOk P w K mg base CX0 3 f4 fd4 ["row", "total"] spAll := ok_all_with D_all_with.fn T D_summed_stretches G_summed_stretches
  have G_most_apart : FnOk P w K mg base CX0 5 f5 fd5 ["row", "total"] (spApart T0) := ok_most_apart D_most_apart.fn T BM D_best_from D_all_with G_all_with
  have G_most_numbers : FnOk P w K mg base CX0 5 f10 fd10 ["row", "total"] spNums := ok_most_numbers D_most_numbers.fn T D_best_from D_length_of D_all_with G_all_with
  have G_count_partings : FnOk P w K mg base CX0 5 f12 fd12 ["row", "total"] spCountP := ok_count_partings D_count_partings.fn T D_partings_from (ok_partings_from D_partings_from.fn T D_all_with G_all_with)
  have G_first_parting : FnOk P w K mg base CX0 5 f13 fd13 ["row", "total"] spFirstP := ok_first_parting D_first_parting.fn T D_partings_from (ok_partings_from D_partings_from.fn T D_all_with G_all_with) D_all_with G_all_with
  have G__law_deck : FnOk P w K mg base CX0 1 f8 fd8 ["script"] (spDeck K) := ok_deck D__law_deck.fn T
  have G__law_take : FnOk P w K mg base CX0 1 f9 fd9 ["deck", "many"] spTake := ok_take D__law_take.fn T
  have G__law_planted_right : FnOk P w K mg base CX0 6 f15 fd15 ["deck", "total"] spPRight := ok_planted_right D__law_planted_right.fn T D__law_take D__law_planted D_first_parting G_first_parting D_count_partings G_count_partings D_most_numbers G_most_numbers
  have G__law_alike_right : FnOk P w K mg base CX0 6 f16 fd16 ["many"] (spAlike T0) := ok_alike_right D__law_alike_right.fn T D_most_apart G_most_apart D_first_parting G_first_parting D_count_partings G_count_partings D_most_numbers G_most_numbers
  refine F.ok sc_law (fun vs H Q E h => ?_) (fun cdv A outer s H vs Q E hr h => ?_)
  · obtain ⟨a, ns, rfl, _⟩ := h
    rfl
  · obtain ⟨a, scr, rfl, hS, hlen, hT0, k⟩ := h
    have hsl := sizeLine_eq
    have tab0 : TabA T0 H := .inl (hT0 T0 (List.mem_singleton.mpr rfl))
    refine ⟨_, (pss_cons (ps_set (i := 1) sc_law.nd rfl (Or.inl rfl) (pe_call G__law_deck (hr.mono (by first | decide | exact Nat.le_refl _)) rfl D__law_deck.mg D__law_deck.fn.kp D__law_deck.bd .nil pass0 (pa_cons (pv 0) pa_nil)))
      (pss_cons (ps_for PassesOwn.never rfl (pi_range1 (by rfl) T.b_range (pa_cons pe_int pa_nil)) (pg_name (i := 2) sc_law.nd rfl (Or.inl rfl))
        (pss_cons (ps_set (i := 3) sc_law.nd rfl (Or.inl rfl) (pe_ix (ixL (K := K) rfl) (pe_lst (pa_cons (pe_op op_add pe_int (pe_call G__law_take (hr.mono (by first | decide | exact Nat.le_refl _)) rfl D__law_take.mg D__law_take.fn.kp D__law_take.bd .nil pass0 (pa_cons (pv 1) (pa_cons pe_int pa_nil)))) (pa_cons (pe_op op_add pe_int (pe_op op_mul (pe_call G__law_take (hr.mono (by first | decide | exact Nat.le_refl _)) rfl D__law_take.mg D__law_take.fn.kp D__law_take.bd .nil pass0 (pa_cons (pv 1) (pa_cons (pe_op op_pow pe_int pe_int) pa_nil))) (pe_op op_pow pe_int pe_int))) pa_nil))) (pe_call G__law_take (hr.mono (by first | decide | exact Nat.le_refl _)) rfl D__law_take.mg D__law_take.fn.kp D__law_take.bd .nil pass0 (pa_cons (pv 1) (pa_cons pe_int pa_nil))) (fun _ _ => rfl)))
        (pss_cons (ps_if (pt_not (pt_val (pe_call G__law_planted_right (hr.mono (by first | decide | exact Nat.le_refl _)) rfl D__law_planted_right.mg D__law_planted_right.fn.kp D__law_planted_right.bd .nil pass0 (pa_cons (pv 1) (pa_cons (pe_op op_mul (pv 3) (pe_ix (ixL (K := K) rfl) (pe_lst (pa_cons pe_int (pa_cons (pe_un un_neg pe_int) pa_nil))) (pe_call G__law_take (hr.mono (by first | decide | exact Nat.le_refl _)) rfl D__law_take.mg D__law_take.fn.kp D__law_take.bd .nil pass0 (pa_cons (pv 1) (pa_cons pe_int pa_nil))) (fun _ _ => rfl))) pa_nil)))))
          (pss_one (ps_ret pe_bl))
          pss_nil)
        (pss_one (ps_if (pt_not (pt_val (pe_call G__law_alike_right (hr.mono (by first | decide | exact Nat.le_refl _)) rfl D__law_alike_right.mg D__law_alike_right.fn.kp D__law_alike_right.bd .nil pass0 (pa_cons (pe_call G__law_take (hr.mono (by first | decide | exact Nat.le_refl _)) rfl D__law_take.mg D__law_take.fn.kp D__law_take.bd .nil pass0 (pa_cons (pv 1) (pa_cons pe_int pa_nil))) pa_nil))))
          (pss_one (ps_ret pe_bl))
          pss_nil)))))
      (pss_one (ps_ret pe_bl)))), ?_⟩
    refine ⟨_, rfl, a, scr, rfl, hS, hlen, fun d c H1 _ _ D1 S1 => ?_⟩
    have tab1 := tab0.keep S1
    refine ⟨_, rfl, by decide, by decide, for_range (n := 6) (fun i σ H' => ∃ v2 v3 : Option V, σ = [some (.ref a), some (.ref d), v2, v3] ∧ Deck H' d c ∧ TabA T0 H') ⟨_, _, rfl, D1, tab1⟩ ?_ ?_⟩
    · rintro i σ H2 _ ⟨v2, v3, rfl, D2, tab2⟩
      dsimp only [gName]
      -- total
      refine ⟨_, rfl, d, c, 90, rfl, D2, by decide, by decide, fun r1 H3 r10 r11 D3 S3 => ⟨_, _, rfl, rfl, ?_⟩⟩
      refine ⟨_, rfl, _, _, rfl, rfl, CP6, d, c, 10 ^ 6, rfl, D3, by decide, by decide, fun r2 H4 r20 r21 D4 S4 => ?_⟩
      refine ⟨_, _, rfl, rfl, CP4, _, _, rfl, rfl, .inl (by omega), _, _, rfl, rfl, by show 2 ≤ sizeLine; decide, fun l hl => ?_⟩
      have D5 := D4.same (Same.lay (o := .lst [.int (7 + r1), .int (7 + r2 * 10 ^ (4 : Int).toNat)]) hl)
      have tab5 := (tab_sv (tab_sv tab2 D2 S3) D3 S4).keep (Same.lay (o := .lst [.int (7 + r1), .int (7 + r2 * 10 ^ (4 : Int).toNat)]) hl)
      have e5 : upd H4 l (.lst [.int (7 + r1), .int (7 + r2 * 10 ^ (4 : Int).toNat)]) l = some (.lst [.int (7 + r1), .int (7 + r2 * 10 ^ (4 : Int).toNat)]) := upd_same
      obtain ⟨ln1, ln2⟩ := D4.nd hl
      generalize upd H4 l (.lst [.int (7 + r1), .int (7 + r2 * 10 ^ (4 : Int).toNat)]) = H5 at D5 tab5 e5
      refine ⟨_, rfl, d, c, 2, rfl, D5, by decide, by decide, fun r3 H6 r30 r31 D6 S6 => ?_⟩
      have tab6 := tab_sv tab5 D5 S6
      obtain ⟨tot, hat, t7, t60⟩ : ∃ tot : Int, atI ([.int (7 + r1), .int (7 + r2 * 10 ^ (4 : Int).toNat)] : List V) r3 = some (.int tot) ∧ 7 ≤ tot ∧ tot < 2 ^ 60 := by
        have e4 : (10 : Int) ^ (4 : Int).toNat = 10000 := by decide
        have h6 : r3 = 0 ∨ r3 = 1 := by omega
        rcases h6 with rfl | rfl
        · exact ⟨7 + r1, rfl, by omega, by omega⟩
        · refine ⟨7 + r2 * 10 ^ (4 : Int).toNat, rfl, ?_, ?_⟩
          · rw [e4]; omega
          · rw [e4]
            have : r2 < 1000000 := by simpa using r21
            omega
      refine ⟨l, _, r3, _, rfl, rfl, SqL.of (S6 _ _ e5 ln1 ln2), hat, ?_⟩
      dsimp only [gName]
      -- planted
      refine ⟨_, rfl, _, rfl, _, rfl, by show 2 ≤ sizeLine; decide, fun l2 hl2 => ?_⟩
      have D7 := D6.same (Same.lay (o := .lst [.int 1, .int (-1)]) hl2)
      have tab7 := tab6.keep (Same.lay (o := .lst [.int 1, .int (-1)]) hl2)
      have e7 : upd H6 l2 (.lst [.int 1, .int (-1)]) l2 = some (.lst [.int 1, .int (-1)]) := upd_same
      obtain ⟨mn1, mn2⟩ := D6.nd hl2
      generalize upd H6 l2 (.lst [.int 1, .int (-1)]) = H7 at D7 tab7 e7
      refine ⟨_, rfl, d, c, 2, rfl, D7, by decide, by decide, fun r4 H8 r40 r41 D8 S8 => ?_⟩
      have tab8 := tab_sv tab7 D7 S8
      obtain ⟨sg, hat2, hsg⟩ : ∃ sg : Int, atI ([.int 1, .int (-1)] : List V) r4 = some (.int sg) ∧ (sg = 1 ∨ sg = -1) := by
        have h6 : r4 = 0 ∨ r4 = 1 := by omega
        rcases h6 with rfl | rfl
        · exact ⟨1, rfl, .inl rfl⟩
        · exact ⟨-1, rfl, .inr rfl⟩
      refine ⟨l2, _, r4, _, rfl, rfl, SqL.of (S8 _ _ e7 mn1 mn2), hat2, _, _, rfl, rfl, .inr ?_, d, c, tot * sg, rfl, D8, ?_, ?_, fun H9 D9 S9 => ?_⟩
      · rcases hsg with rfl | rfl <;> decide
      · rcases hsg with rfl | rfl <;> omega
      · rcases hsg with rfl | rfl <;> omega
      have tab9 := tab_sv tab8 D8 S9
      refine ⟨true, rfl, iteF ?_⟩
      refine ⟨_, rfl, d, c, 61, rfl, D9, by decide, by decide, fun r5 H10 r50 r51 D10 S10 => ?_⟩
      have tab10 := tab_sv tab9 D9 S10
      refine ⟨r5.toNat, by rw [Int.toNat_of_nonneg r50]; rfl, by omega, tab10, fun H11 K11 tab11 => ⟨true, rfl, iteF ⟨_, _, rfl, D10.kq tab10 K11, tab11⟩⟩⟩
    · rintro σ H' ⟨v2, v3, rfl, D', _⟩
      exact k H'
end
end My

namespace My
open PySem L2
theorem all_mk {l : PySem.W.OpenLaw} {w : World} {K : PySem.W.Frag} {h : Heap} {mg : Str → Option Value} {ts : List Addr} {fa f1 f2 f3 f4 f5 f6 f7 f8 f9 f10 f11 f12 f13 f14 f15 f16 f17 cc5 tt5 : Addr} (X : K.In h) (G : h.Ns mainGlobals mg) (hfa : mg "law" = some (.ref fa))
    {od1 an1 od2 an2 od3 an3 od4 an4 od5 an5 od6 an6 od7 an7 od8 an8 od9 an9 od10 an10 od11 an11 od12 an12 od13 an13 od14 an14 od15 an15 od16 an16 od17 an17 : Option Addr} {sl1 sl2 sl3 sl4 sl5 sl6 sl7 sl8 sl9 sl10 sl11 sl12 sl13 sl14 sl15 sl16 sl17 : Array (Option Value)} {oc1 kV1 dc1 pm1 cd1 ct1 oc2 kV2 dc2 pm2 cd2 ct2 oc3 kV3 dc3 pm3 cd3 ct3 oc4 kV4 dc4 pm4 cd4 ct4 oc5 kV5 dc5 pm5 ct5 oc6 kV6 dc6 pm6 cd6 ct6 oc7 kV7 dc7 pm7 cd7 ct7 oc8 kV8 dc8 pm8 cd8 ct8 oc9 kV9 dc9 pm9 cd9 ct9 oc10 kV10 dc10 pm10 cd10 ct10 oc11 kV11 dc11 pm11 cd11 ct11 oc12 kV12 dc12 pm12 cd12 ct12 oc13 kV13 dc13 pm13 cd13 ct13 oc14 kV14 dc14 pm14 cd14 ct14 oc15 kV15 dc15 pm15 cd15 ct15 oc16 kV16 dc16 pm16 cd16 ct16 oc17 kV17 dc17 pm17 cd17 ct17 : Value}
    {qo5 : Value} {qd5 : Option Addr} {qv5 : Array Value} {qs5 : Array (Option Value)}
    (a1 : PySem.W.nsIn K mainGlobals "sums_ahead" = some (some (.ref f1)))
    (l1 : K.lookup f1 = some ⟨oc1, od1, .func (PySem.W.fnOf "sums_ahead" "sums_ahead" (defArgs s_sums_ahead) (defBody s_sums_ahead) (defScope s_sums_ahead) .none kV1 dc1 pm1 an1 cd1 ct1), sl1⟩)
    (c1 : PySem.W.codeIn K cd1 "sums_ahead" = true)
    (k1 : PySem.W.keepIn K (.ref f1) = true)
    (a2 : PySem.W.nsIn K mainGlobals "stretches_of" = some (some (.ref f2)))
    (l2 : K.lookup f2 = some ⟨oc2, od2, .func (PySem.W.fnOf "stretches_of" "stretches_of" (defArgs s_stretches_of) (defBody s_stretches_of) (defScope s_stretches_of) .none kV2 dc2 pm2 an2 cd2 ct2), sl2⟩)
    (c2 : PySem.W.codeIn K cd2 "stretches_of" = true)
    (k2 : PySem.W.keepIn K (.ref f2) = true)
    (a3 : PySem.W.nsIn K mainGlobals "summed_stretches" = some (some (.ref f3)))
    (l3 : K.lookup f3 = some ⟨oc3, od3, .func (PySem.W.fnOf "summed_stretches" "summed_stretches" (defArgs s_summed_stretches) (defBody s_summed_stretches) (defScope s_summed_stretches) .none kV3 dc3 pm3 an3 cd3 ct3), sl3⟩)
    (c3 : PySem.W.codeIn K cd3 "summed_stretches" = true)
    (k3 : PySem.W.keepIn K (.ref f3) = true)
    (a4 : PySem.W.nsIn K mainGlobals "all_with" = some (some (.ref f4)))
    (l4 : K.lookup f4 = some ⟨oc4, od4, .func (PySem.W.fnOf "all_with" "all_with" (defArgs s_all_with) (defBody s_all_with) (defScope s_all_with) .none kV4 dc4 pm4 an4 cd4 ct4), sl4⟩)
    (c4 : PySem.W.codeIn K cd4 "all_with" = true)
    (k4 : PySem.W.keepIn K (.ref f4) = true)
    (a5 : PySem.W.nsIn K mainGlobals "most_apart" = some (some (.ref f5)))
    (l5 : K.lookup f5 = some ⟨oc5, od5, .func (PySem.W.fnOf "most_apart" "most_apart" (defArgs s_most_apart) (defBody s_most_apart) (defScope s_most_apart) .none kV5 dc5 pm5 an5 (.ref cc5) ct5), sl5⟩)
    (c5 : PySem.W.codeIn K (.ref cc5) "most_apart" = true)
    (k5 : PySem.W.keepIn K (.ref f5) = true)
    (q5 : K.lookup cc5 = some ⟨qo5, qd5, .fields qv5, qs5⟩)
    (w5 : qv5[11]? = some (.ref tt5))
    (g5 : PySem.W.codeHdIn K cc5 tt5 = true)
    (n5 : K.lookup tt5 = none)
    (m5 : tt5 ∈ ts)
    (a6 : PySem.W.nsIn K mainGlobals "best_from" = some (some (.ref f6)))
    (l6 : K.lookup f6 = some ⟨oc6, od6, .func (PySem.W.fnOf "best_from" "best_from" (defArgs s_best_from) (defBody s_best_from) (defScope s_best_from) .none kV6 dc6 pm6 an6 cd6 ct6), sl6⟩)
    (c6 : PySem.W.codeIn K cd6 "best_from" = true)
    (k6 : PySem.W.keepIn K (.ref f6) = true)
    (a7 : PySem.W.nsIn K mainGlobals "length_of" = some (some (.ref f7)))
    (l7 : K.lookup f7 = some ⟨oc7, od7, .func (PySem.W.fnOf "length_of" "length_of" (defArgs s_length_of) (defBody s_length_of) (defScope s_length_of) .none kV7 dc7 pm7 an7 cd7 ct7), sl7⟩)
    (c7 : PySem.W.codeIn K cd7 "length_of" = true)
    (k7 : PySem.W.keepIn K (.ref f7) = true)
    (a8 : PySem.W.nsIn K mainGlobals "most_numbers" = some (some (.ref f8)))
    (l8 : K.lookup f8 = some ⟨oc8, od8, .func (PySem.W.fnOf "most_numbers" "most_numbers" (defArgs s_most_numbers) (defBody s_most_numbers) (defScope s_most_numbers) .none kV8 dc8 pm8 an8 cd8 ct8), sl8⟩)
    (c8 : PySem.W.codeIn K cd8 "most_numbers" = true)
    (k8 : PySem.W.keepIn K (.ref f8) = true)
    (a9 : PySem.W.nsIn K mainGlobals "partings_from" = some (some (.ref f9)))
    (l9 : K.lookup f9 = some ⟨oc9, od9, .func (PySem.W.fnOf "partings_from" "partings_from" (defArgs s_partings_from) (defBody s_partings_from) (defScope s_partings_from) .none kV9 dc9 pm9 an9 cd9 ct9), sl9⟩)
    (c9 : PySem.W.codeIn K cd9 "partings_from" = true)
    (k9 : PySem.W.keepIn K (.ref f9) = true)
    (a10 : PySem.W.nsIn K mainGlobals "count_partings" = some (some (.ref f10)))
    (l10 : K.lookup f10 = some ⟨oc10, od10, .func (PySem.W.fnOf "count_partings" "count_partings" (defArgs s_count_partings) (defBody s_count_partings) (defScope s_count_partings) .none kV10 dc10 pm10 an10 cd10 ct10), sl10⟩)
    (c10 : PySem.W.codeIn K cd10 "count_partings" = true)
    (k10 : PySem.W.keepIn K (.ref f10) = true)
    (a11 : PySem.W.nsIn K mainGlobals "first_parting" = some (some (.ref f11)))
    (l11 : K.lookup f11 = some ⟨oc11, od11, .func (PySem.W.fnOf "first_parting" "first_parting" (defArgs s_first_parting) (defBody s_first_parting) (defScope s_first_parting) .none kV11 dc11 pm11 an11 cd11 ct11), sl11⟩)
    (c11 : PySem.W.codeIn K cd11 "first_parting" = true)
    (k11 : PySem.W.keepIn K (.ref f11) = true)
    (a12 : PySem.W.nsIn K mainGlobals "_law_deck" = some (some (.ref f12)))
    (l12 : K.lookup f12 = some ⟨oc12, od12, .func (PySem.W.fnOf "_law_deck" "_law_deck" (defArgs s_law_deck) (defBody s_law_deck) (defScope s_law_deck) .none kV12 dc12 pm12 an12 cd12 ct12), sl12⟩)
    (c12 : PySem.W.codeIn K cd12 "_law_deck" = true)
    (k12 : PySem.W.keepIn K (.ref f12) = true)
    (a13 : PySem.W.nsIn K mainGlobals "_law_take" = some (some (.ref f13)))
    (l13 : K.lookup f13 = some ⟨oc13, od13, .func (PySem.W.fnOf "_law_take" "_law_take" (defArgs s_law_take) (defBody s_law_take) (defScope s_law_take) .none kV13 dc13 pm13 an13 cd13 ct13), sl13⟩)
    (c13 : PySem.W.codeIn K cd13 "_law_take" = true)
    (k13 : PySem.W.keepIn K (.ref f13) = true)
    (a14 : PySem.W.nsIn K mainGlobals "_law_planted" = some (some (.ref f14)))
    (l14 : K.lookup f14 = some ⟨oc14, od14, .func (PySem.W.fnOf "_law_planted" "_law_planted" (defArgs s_law_planted) (defBody s_law_planted) (defScope s_law_planted) .none kV14 dc14 pm14 an14 cd14 ct14), sl14⟩)
    (c14 : PySem.W.codeIn K cd14 "_law_planted" = true)
    (k14 : PySem.W.keepIn K (.ref f14) = true)
    (a15 : PySem.W.nsIn K mainGlobals "_law_planted_right" = some (some (.ref f15)))
    (l15 : K.lookup f15 = some ⟨oc15, od15, .func (PySem.W.fnOf "_law_planted_right" "_law_planted_right" (defArgs s_law_planted_right) (defBody s_law_planted_right) (defScope s_law_planted_right) .none kV15 dc15 pm15 an15 cd15 ct15), sl15⟩)
    (c15 : PySem.W.codeIn K cd15 "_law_planted_right" = true)
    (k15 : PySem.W.keepIn K (.ref f15) = true)
    (a16 : PySem.W.nsIn K mainGlobals "_law_alike_right" = some (some (.ref f16)))
    (l16 : K.lookup f16 = some ⟨oc16, od16, .func (PySem.W.fnOf "_law_alike_right" "_law_alike_right" (defArgs s_law_alike_right) (defBody s_law_alike_right) (defScope s_law_alike_right) .none kV16 dc16 pm16 an16 cd16 ct16), sl16⟩)
    (c16 : PySem.W.codeIn K cd16 "_law_alike_right" = true)
    (k16 : PySem.W.keepIn K (.ref f16) = true)
    (a17 : PySem.W.nsIn K mainGlobals "law" = some (some (.ref f17)))
    (l17 : K.lookup f17 = some ⟨oc17, od17, .func (PySem.W.fnOf "law" "law" (defArgs s_law) (defBody s_law) (defScope s_law) .none kV17 dc17 pm17 an17 cd17 ct17), sl17⟩)
    (c17 : PySem.W.codeIn K cd17 "law" = true)
    (k17 : PySem.W.keepIn K (.ref f17) = true)
    (z_len : PySem.W.nsIn K mainGlobals "len" = some none)
    (z_sum : PySem.W.nsIn K mainGlobals "sum" = some none)
    (z_range : PySem.W.nsIn K mainGlobals "range" = some none)
    (z_tuple : PySem.W.nsIn K mainGlobals "tuple" = some none)
    (z_list : PySem.W.nsIn K mainGlobals "list" = some none)
    (z_int : PySem.W.nsIn K mainGlobals "int" = some none)
    (z_str : PySem.W.nsIn K mainGlobals "str" = some none)
    (z_bool : PySem.W.nsIn K mainGlobals "bool" = some none)
    (z_isinstance : PySem.W.nsIn K mainGlobals "isinstance" = some none)
    (z_min : PySem.W.nsIn K mainGlobals "min" = some none)
    (z_max : PySem.W.nsIn K mainGlobals "max" = some none)
    (z_zip : PySem.W.nsIn K mainGlobals "zip" = some none)
    (z_reversed : PySem.W.nsIn K mainGlobals "reversed" = some none)
    (z_sorted : PySem.W.nsIn K mainGlobals "sorted" = some none)
    (z_abs : PySem.W.nsIn K mainGlobals "abs" = some none)
    (z_all : PySem.W.nsIn K mainGlobals "all" = some none)
    (z_any : PySem.W.nsIn K mainGlobals "any" = some none)
    (z_set : PySem.W.nsIn K mainGlobals "set" = some none)
    (z_ValueError : PySem.W.nsIn K mainGlobals "ValueError" = some none)
    : ∃ (fd : FuncData) (tabs : List Addr), (∀ P ∈ tabs, P ∈ ts ∧ K.lookup P = none ∧ ∃ c, PySem.W.codeHdIn K c P = true) ∧ (∀ (s : Shared) (v : Value), BindsTo s fd ⟨[v], []⟩ [("script", v)]) ∧ (∀ base : Heap, K.In base → base.Ns mainGlobals mg → BmAt mg base → FnOk l.prog w K mg base CX0 7 fa fd ["script"] (spLaw K tabs)) ∧
      ∀ (H : Hp) (a : Addr) (ns : List Int), ns.length ≤ 63 → SqL K H a (ns.map V.int) → (∀ P ∈ tabs, H P = some (.tbl #[])) → spLaw K tabs [.ref a] H (fun v _ => v = .bl true) fun _ _ _ => False := by
  have e := hfa.symm.trans (PySem.W.mg_of X G a17)
  cases e
  have T : Txt mg := ⟨PySem.W.mg_none_of X G z_len, PySem.W.mg_none_of X G z_sum, PySem.W.mg_none_of X G z_range, PySem.W.mg_none_of X G z_tuple, PySem.W.mg_none_of X G z_list, PySem.W.mg_none_of X G z_int, PySem.W.mg_none_of X G z_str, PySem.W.mg_none_of X G z_bool, PySem.W.mg_none_of X G z_isinstance, PySem.W.mg_none_of X G z_min, PySem.W.mg_none_of X G z_max, PySem.W.mg_none_of X G z_zip, PySem.W.mg_none_of X G z_reversed, PySem.W.mg_none_of X G z_sorted, PySem.W.mg_none_of X G z_abs, PySem.W.mg_none_of X G z_all, PySem.W.mg_none_of X G z_any, PySem.W.mg_none_of X G z_set, PySem.W.mg_none_of X G z_ValueError⟩
  have F1 := fun_mk (st := s_sums_ahead) l1 c1 k1
  have b1 := F1.binds (ps := ["row"]) fun _ _ _ _ _ _ us hl => match us, hl with | [_], _ => rfl
  have D1 : DefAt K mg "sums_ahead" s_sums_ahead ["row"] f1 _ := ⟨F1, PySem.W.mg_of X G a1, b1⟩
  have F2 := fun_mk (st := s_stretches_of) l2 c2 k2
  have b2 := F2.binds (ps := ["row"]) fun _ _ _ _ _ _ us hl => match us, hl with | [_], _ => rfl
  have D2 : DefAt K mg "stretches_of" s_stretches_of ["row"] f2 _ := ⟨F2, PySem.W.mg_of X G a2, b2⟩
  have F3 := fun_mk (st := s_summed_stretches) l3 c3 k3
  have b3 := F3.binds (ps := ["row"]) fun _ _ _ _ _ _ us hl => match us, hl with | [_], _ => rfl
  have D3 : DefAt K mg "summed_stretches" s_summed_stretches ["row"] f3 _ := ⟨F3, PySem.W.mg_of X G a3, b3⟩
  have F4 := fun_mk (st := s_all_with) l4 c4 k4
  have b4 := F4.binds (ps := ["row", "total"]) fun _ _ _ _ _ _ us hl => match us, hl with | [_, _], _ => rfl
  have D4 : DefAt K mg "all_with" s_all_with ["row", "total"] f4 _ := ⟨F4, PySem.W.mg_of X G a4, b4⟩
  have F5 := fun_mk (st := s_most_apart) l5 c5 k5
  have b5 := F5.binds (ps := ["row", "total"]) fun _ _ _ _ _ _ us hl => match us, hl with | [_, _], _ => rfl
  have D5 : DefAtC K mg "most_apart" s_most_apart ["row", "total"] f5 _ cc5 tt5 := ⟨⟨⟨_, _, _, _, _, _, _, _, rfl, l5, c5⟩, k5, g5⟩, PySem.W.mg_of X G a5, b5⟩
  have F6 := fun_mk (st := s_best_from) l6 c6 k6
  have b6 := F6.binds (ps := ["row", "total", "worth"]) fun _ _ _ _ _ _ us hl => match us, hl with | [_, _, _], _ => rfl
  have D6 : DefAt K mg "best_from" s_best_from ["row", "total", "worth"] f6 _ := ⟨F6, PySem.W.mg_of X G a6, b6⟩
  have F7 := fun_mk (st := s_length_of) l7 c7 k7
  have b7 := F7.binds (ps := ["stretch"]) fun _ _ _ _ _ _ us hl => match us, hl with | [_], _ => rfl
  have D7 : DefAt K mg "length_of" s_length_of ["stretch"] f7 _ := ⟨F7, PySem.W.mg_of X G a7, b7⟩
  have F8 := fun_mk (st := s_most_numbers) l8 c8 k8
  have b8 := F8.binds (ps := ["row", "total"]) fun _ _ _ _ _ _ us hl => match us, hl with | [_, _], _ => rfl
  have D8 : DefAt K mg "most_numbers" s_most_numbers ["row", "total"] f8 _ := ⟨F8, PySem.W.mg_of X G a8, b8⟩
  have F9 := fun_mk (st := s_partings_from) l9 c9 k9
  have b9 := F9.binds (ps := ["row", "total"]) fun _ _ _ _ _ _ us hl => match us, hl with | [_, _], _ => rfl
  have D9 : DefAt K mg "partings_from" s_partings_from ["row", "total"] f9 _ := ⟨F9, PySem.W.mg_of X G a9, b9⟩
  have F10 := fun_mk (st := s_count_partings) l10 c10 k10
  have b10 := F10.binds (ps := ["row", "total"]) fun _ _ _ _ _ _ us hl => match us, hl with | [_, _], _ => rfl
  have D10 : DefAt K mg "count_partings" s_count_partings ["row", "total"] f10 _ := ⟨F10, PySem.W.mg_of X G a10, b10⟩
  have F11 := fun_mk (st := s_first_parting) l11 c11 k11
  have b11 := F11.binds (ps := ["row", "total"]) fun _ _ _ _ _ _ us hl => match us, hl with | [_, _], _ => rfl
  have D11 : DefAt K mg "first_parting" s_first_parting ["row", "total"] f11 _ := ⟨F11, PySem.W.mg_of X G a11, b11⟩
  have F12 := fun_mk (st := s_law_deck) l12 c12 k12
  have b12 := F12.binds (ps := ["script"]) fun _ _ _ _ _ _ us hl => match us, hl with | [_], _ => rfl
  have D12 : DefAt K mg "_law_deck" s_law_deck ["script"] f12 _ := ⟨F12, PySem.W.mg_of X G a12, b12⟩
  have F13 := fun_mk (st := s_law_take) l13 c13 k13
  have b13 := F13.binds (ps := ["deck", "many"]) fun _ _ _ _ _ _ us hl => match us, hl with | [_, _], _ => rfl
  have D13 : DefAt K mg "_law_take" s_law_take ["deck", "many"] f13 _ := ⟨F13, PySem.W.mg_of X G a13, b13⟩
  have F14 := fun_mk (st := s_law_planted) l14 c14 k14
  have b14 := F14.binds (ps := ["deck", "total"]) fun _ _ _ _ _ _ us hl => match us, hl with | [_, _], _ => rfl
  have D14 : DefAt K mg "_law_planted" s_law_planted ["deck", "total"] f14 _ := ⟨F14, PySem.W.mg_of X G a14, b14⟩
  have F15 := fun_mk (st := s_law_planted_right) l15 c15 k15
  have b15 := F15.binds (ps := ["deck", "total"]) fun _ _ _ _ _ _ us hl => match us, hl with | [_, _], _ => rfl
  have D15 : DefAt K mg "_law_planted_right" s_law_planted_right ["deck", "total"] f15 _ := ⟨F15, PySem.W.mg_of X G a15, b15⟩
  have F16 := fun_mk (st := s_law_alike_right) l16 c16 k16
  have b16 := F16.binds (ps := ["many"]) fun _ _ _ _ _ _ us hl => match us, hl with | [_], _ => rfl
  have D16 : DefAt K mg "_law_alike_right" s_law_alike_right ["many"] f16 _ := ⟨F16, PySem.W.mg_of X G a16, b16⟩
  have F17 := fun_mk (st := s_law) l17 c17 k17
  refine ⟨PySem.W.fnOf "law" "law" (defArgs s_law) (defBody s_law) (defScope s_law) .none kV17 dc17 pm17 an17 cd17 ct17, [tt5], fun P hP => ?_, fun s v => .of_eq rfl, fun base _ _ BM => ok_law F17 T BM D1 D2 D3 D4 D5 D6 D7 D8 D9 D10 D11 D12 D13 D14 D15 D16, fun H a ns hl hS hT => ⟨a, ns, rfl, hS, hl, hT, fun _ => rfl⟩⟩
  ·
    rcases List.mem_cons.mp hP with rfl | hP
    · exact ⟨m5, n5, cc5, g5⟩
    cases hP
theorem walk {l : PySem.W.OpenLaw} {q : Program} {loose : List Str} {XP : (Str → Option Value) → Heap → Prop} {YP : World → Heap → Prop} {d : DefRec} {K : Params → PySem.W.Frag} {ts : List Addr} (hn : l.most = some 63) (hdf : d.params.defaults = [])
    (hY : ∀ (w : World) (h : Heap), YP w h → (K w.params).In h ∧ ∀ P ∈ ts, h.get? P = some (PySem.W.tabObj #[]))
    (F : ∀ (w : World) (mg : Str → Option Value) (fa : Addr) (h : Heap), (K w.params).In h → h.Ns mainGlobals mg → mg d.name = some (.ref fa) →
      ∃ (fd : FuncData) (tabs : List Addr), (∀ P ∈ tabs, P ∈ ts ∧ (K w.params).lookup P = none ∧ ∃ c, PySem.W.codeHdIn (K w.params) c P = true) ∧ (∀ (s : Shared) (u : Value), BindsTo s fd ⟨[u], []⟩ [("script", u)]) ∧ (∀ base : Heap, (K w.params).In base → base.Ns mainGlobals mg → BmAt mg base → FnOk l.prog w (K w.params) mg base CX0 7 fa fd ["script"] (spLaw (K w.params) tabs)) ∧
        ∀ (H : Hp) (a : Addr) (ns : List Int), ns.length ≤ 63 → SqL (K w.params) H a (ns.map V.int) → (∀ P ∈ tabs, H P = some (.tbl #[])) → spLaw (K w.params) tabs [.ref a] H (fun v _ => v = .bl true) fun _ _ _ => False) :
    PySem.W.WalkO q loose XP YP l.row.toRowW d [] (fun f vs => PySem.call f vs) :=
  L2.walk_ofT (n := 63) (k := 7) (x := "script") (sp := fun w tabs => spLaw (K w.params) tabs) hn (by decide) hdf ⟨rfl, by decide, by decide⟩ hY F
end My
open PySem PySem.W PyProof.Rows
set_option maxRecDepth 100000 in
set_option maxHeartbeats 0 in
theorem PySem.Challenge.cw_toldsums_k26_whole_planted_rows_parted_holds : PySem.Challenge.rw_toldsums_k26_whole_planted_rows_parted.Holds := by
  w_on; o_law; k_head; (case hw => w_witness2)
  k_fill
  refine My.walk (l := PySem.Challenge.rw_toldsums_k26_whole_planted_rows_parted) rfl rfl (fun w h Y => ⟨PySem.W.km_in_of Y, PySem.W.km_tabs_of Y⟩) ?F
  case F =>
    intro w mg fa h KX G hmg
    refine' My.all_mk KX G hmg ?a1 ?l1 ?c1 ?k1 ?a2 ?l2 ?c2 ?k2 ?a3 ?l3 ?c3 ?k3 ?a4 ?l4 ?c4 ?k4 ?a5 ?l5 ?c5 ?k5 ?q5 ?w5 ?g5 ?n5 ?m5 ?a6 ?l6 ?c6 ?k6 ?a7 ?l7 ?c7 ?k7 ?a8 ?l8 ?c8 ?k8 ?a9 ?l9 ?c9 ?k9 ?a10 ?l10 ?c10 ?k10 ?a11 ?l11 ?c11 ?k11 ?a12 ?l12 ?c12 ?k12 ?a13 ?l13 ?c13 ?k13 ?a14 ?l14 ?c14 ?k14 ?a15 ?l15 ?c15 ?k15 ?a16 ?l16 ?c16 ?k16 ?a17 ?l17 ?c17 ?k17 ?z_len ?z_sum ?z_range ?z_tuple ?z_list ?z_int ?z_str ?z_bool ?z_isinstance ?z_min ?z_max ?z_zip ?z_reversed ?z_sorted ?z_abs ?z_all ?z_any ?z_set ?z_ValueError
    (case a1 => k_is)
    (case l1 => k_is)
    (case c1 => k_is)
    (case k1 => k_is)
    (case a2 => k_is)
    (case l2 => k_is)
    (case c2 => k_is)
    (case k2 => k_is)
    (case a3 => k_is)
    (case l3 => k_is)
    (case c3 => k_is)
    (case k3 => k_is)
    (case a4 => k_is)
    (case l4 => k_is)
    (case c4 => k_is)
    (case k4 => k_is)
    (case a5 => k_is)
    (case l5 => k_is)
    (case c5 => k_is)
    (case k5 => k_is)
    (case q5 => k_is)
    (case w5 => exact rfl)
    (case g5 => kernel_rfl)
    (case n5 => kernel_rfl)
    (case m5 => first | exact List.Mem.head _ | exact List.Mem.tail _ (List.Mem.head _) | exact List.Mem.tail _ (List.Mem.tail _ (List.Mem.head _)) | decide)
    (case a6 => k_is)
    (case l6 => k_is)
    (case c6 => k_is)
    (case k6 => k_is)
    (case a7 => k_is)
    (case l7 => k_is)
    (case c7 => k_is)
    (case k7 => k_is)
    (case a8 => k_is)
    (case l8 => k_is)
    (case c8 => k_is)
    (case k8 => k_is)
    (case a9 => k_is)
    (case l9 => k_is)
    (case c9 => k_is)
    (case k9 => k_is)
    (case a10 => k_is)
    (case l10 => k_is)
    (case c10 => k_is)
    (case k10 => k_is)
    (case a11 => k_is)
    (case l11 => k_is)
    (case c11 => k_is)
    (case k11 => k_is)
    (case a12 => k_is)
    (case l12 => k_is)
    (case c12 => k_is)
    (case k12 => k_is)
    (case a13 => k_is)
    (case l13 => k_is)
    (case c13 => k_is)
    (case k13 => k_is)
    (case a14 => k_is)
    (case l14 => k_is)
    (case c14 => k_is)
    (case k14 => k_is)
    (case a15 => k_is)
    (case l15 => k_is)
    (case c15 => k_is)
    (case k15 => k_is)
    (case a16 => k_is)
    (case l16 => k_is)
    (case c16 => k_is)
    (case k16 => k_is)
    (case a17 => k_is)
    (case l17 => k_is)
    (case c17 => k_is)
    (case k17 => k_is)
    (case z_len => k_is)
    (case z_sum => k_is)
    (case z_range => k_is)
    (case z_tuple => k_is)
    (case z_list => k_is)
    (case z_int => k_is)
    (case z_str => k_is)
    (case z_bool => k_is)
    (case z_isinstance => k_is)
    (case z_min => k_is)
    (case z_max => k_is)
    (case z_zip => k_is)
    (case z_reversed => k_is)
    (case z_sorted => k_is)
    (case z_abs => k_is)
    (case z_all => k_is)
    (case z_any => k_is)
    (case z_set => k_is)
    (case z_ValueError => k_is)

