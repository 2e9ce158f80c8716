import PyProof.Rows.All
import Wide.All
import OpenK.AllK
import Wide.FinOn
import Lean
import PyProof.EqAt
import PyProof.EqKinds
import PyProof.TupleCall
import PyProof.ZipIter
import PyProof.NeKinds
import PyProof.Rows.CallKwBuiltin
import KE.KDictSum
import KE.KSortTup
import KE.KRevIter
import PyProof.Rows.Range3
import PyProof.Rows.FactsT2
import PyProof.DictTable
import PyProof.NsDelKeeps
import PyProof.Rows.SortRuns
import PyProof.ListRange
import KE.KLam
import KE.KNestM
import KE.KIntText
import PyProof.StrLawsTight
import PyProof.StrLawsIn
import PyProof.StrLawsAffix
import PyProof.StrLawsChain
import PyProof.StrWalks
import PyProof.ConsumeWalk
import PyProof.SliceStr2
import PyProof.StrLawsIdx
import PyProof.StrOps2
import PyProof.AutoSeq1
import PyProof.ListMulRoad
import KE.KSortKey
import PyProof.DictTruth
import PyProof.Rows.SetFrom
import PyProof.SetRoads
import PyProof.Cells
import PyProof.TupleKey
import OpenK.KMore
import PySem.Challenge.RW_toldsums_k34_whole_kept_for_all_sums
set_option Elab.async false
set_option linter.all false
set_option maxRecDepth 100000
set_option maxHeartbeats 4000000
/-! THE HAND LAYER, for ints, bools, texts, own classes, LISTS and tuples (index, slices, in, append, pop ..), calls, loops. Paste it whole ahead of your own text; what your proof does not reach may be deleted. -/
namespace L2
open PySem PySem.Spec PyProof.Rows

/-- a key: an int or a str -/
abbrev Key := Sum Int Str
def keyIs : Key → Value → Bool
  | .inl k, v => Value.isInt k v
  | .inr x, v => Value.isStrOf x v
def keyH (w : World) : Key → Int
  | .inl k => hashInt k
  | .inr x => hashStr w x
theorem keyIs_shape : ∀ {k : Key} {v : Value}, keyIs k v = true → (∃ i t, k = Sum.inl i ∧ v = Value.int i t) ∨ (∃ x t, k = Sum.inr x ∧ v = Value.str x t)
  | .inl i, v, h => by
    obtain ⟨t, e⟩ := Value.isInt_shape (k := i) (v := v) h
    exact .inl ⟨i, t, rfl, e⟩
  | .inr x, v, h => by
    obtain ⟨t, e⟩ := Value.isStrOf_shape (x := x) (v := v) h
    exact .inr ⟨x, t, rfl, e⟩
theorem keyIs_int (i : Int) (t : Tok) : keyIs (.inl i) (.int i t) = true := by simp [keyIs, Value.isInt]
theorem keyIs_str (x : Str) (t : Tok) : keyIs (.inr x) (.str x t) = true := by simp [keyIs, Value.isStrOf]
theorem key_ll (a b : Int) : decide ((Sum.inl a : Key) = Sum.inl b) = (a == b) := by
  by_cases e : a = b
  · subst e; simp
  · have h : ¬ (Sum.inl a : Key) = Sum.inl b := fun q => e (Sum.inl.inj q)
    rw [decide_eq_false h]
    exact (beq_eq_false_iff_ne.mpr e).symm
theorem key_rr (a b : Str) : decide ((Sum.inr a : Key) = Sum.inr b) = decide (a = b) := by
  by_cases e : a = b
  · subst e; simp
  · have h : ¬ (Sum.inr a : Key) = Sum.inr b := fun q => e (Sum.inr.inj q)
    rw [decide_eq_false h, decide_eq_false e]
theorem key_lr (a : Int) (b : Str) : decide ((Sum.inl a : Key) = Sum.inr b) = false := decide_eq_false (fun q => nomatch q)
theorem key_rl (a : Str) (b : Int) : decide ((Sum.inr a : Key) = Sum.inl b) = false := decide_eq_false (fun q => nomatch q)

def mixKind (prog : Program) (w : World) : PySem.KeyKind prog w Key where
  is := keyIs
  hash := keyH w
  inj := fun v a b ha hb => by
    rcases keyIs_shape ha with ⟨i, t, rfl, rfl⟩ | ⟨x, t, rfl, rfl⟩
    · rcases keyIs_shape hb with ⟨j, u, rfl, e⟩ | ⟨y, u, rfl, e⟩
      · injection e with e1 _; rw [e1]
      · exact nomatch e
    · rcases keyIs_shape hb with ⟨j, u, rfl, e⟩ | ⟨y, u, rfl, e⟩
      · exact nomatch e
      · injection e with e1 _; rw [e1]
  byValue := fun k v h => by
    rcases keyIs_shape h with ⟨i, t, rfl, rfl⟩ | ⟨x, t, rfl, rfl⟩ <;> rfl
  pyHash := fun hv h => by
    rcases keyIs_shape hv with ⟨i, t, rfl, rfl⟩ | ⟨x, t, rfl, rfl⟩
    · exact wpAny_pyHash_int h
    · exact wpAny_pyHash_str h
  eqBool := fun hu hv h => by
    rcases keyIs_shape hu with ⟨i, t, rfl, rfl⟩ | ⟨x, t, rfl, rfl⟩
    · rcases keyIs_shape hv with ⟨j, u, rfl, rfl⟩ | ⟨y, u, rfl, rfl⟩
      · rw [key_ll] at h; exact wpAny_eqBool_int h
      · rw [key_lr] at h; exact SeqAt.EqAt.int_str i t y u _ _ _ _ h
    · rcases keyIs_shape hv with ⟨j, u, rfl, rfl⟩ | ⟨y, u, rfl, rfl⟩
      · rw [key_rl] at h; exact SeqAt.EqAt.str_int x t j u _ _ _ _ h
      · rw [key_rr] at h; exact wpAny_eqBool_str h
  «strs» := fun k x t v h => by
    rcases keyIs_shape h with ⟨i, u, rfl, e⟩ | ⟨y, u, rfl, e⟩
    · exact nomatch e
    · injection e with e1 _
      subst e1
      cases v <;> rfl

theorem mixKind_int (prog : Program) (w : World) (i : Int) (t : Tok) : (mixKind prog w).is (.inl i) (.int i t) = true := keyIs_int i t
theorem mixKind_str (prog : Program) (w : World) (x : Str) (t : Tok) : (mixKind prog w).is (.inr x) (.str x t) = true := keyIs_str x t
end L2

namespace L2
open PySem PySem.Spec PyProof.Rows

/-- a value, without the heap -/
inductive V where
  | non | bl (b : Bool) | int (i : Int) | str (x : Str) | byt (b : Array UInt8) | flt (b : UInt64) | ref (a : Addr) | ty (n : String)
  deriving DecidableEq

def RelV : V → Value → Prop
  | .non, u => u = Value.none
  | .bl b, u => u = Value.bool b
  | .int i, u => ∃ t, u = Value.int i t
  | .str x, u => ∃ t, u = Value.str x t
  | .byt b, u => ∃ t, u = Value.bytes b t
  | .flt b, u => ∃ t, u = Value.float b t
  | .ref a, u => u = Value.ref a
  | .ty n, u => u = Value.type n

abbrev Vals : List V → List Value → Prop := Paired RelV
theorem Vals.length {xs : List V} {us : List Value} (r : Vals xs us) : xs.length = us.length := Paired.length r
theorem Vals.get : ∀ {xs : List V} {us : List Value} {i : Nat} {x : V}, Vals xs us → xs[i]? = some x → ∃ u, us[i]? = some u ∧ RelV x u
  | _, _, _, _, .nil, e => by simp at e
  | _, _, 0, _, .cons r _, e => by simp at e; subst e; exact ⟨_, rfl, r⟩
  | _, _, i + 1, x, .cons _ t, e => by
    obtain ⟨u, h1, h2⟩ := Vals.get (i := i) (x := x) t (by simpa using e)
    exact ⟨u, by simpa using h1, h2⟩
theorem Vals.set {x : V} {u : Value} (r : RelV x u) : ∀ {xs : List V} {us : List Value} (i : Nat), Vals xs us → Vals (xs.set i x) (us.set i u)
  | _, _, _, .nil => .nil
  | _, _, 0, .cons _ t => .cons r t
  | _, _, i + 1, .cons q t => .cons q (Vals.set r i t)
theorem Vals.append : ∀ {xs ys : List V} {us ws : List Value}, Vals xs us → Vals ys ws → Vals (xs ++ ys) (us ++ ws)
  | _, _, _, _, .nil, s => s
  | _, _, _, _, .cons r t, s => .cons r (Vals.append t s)
theorem Vals.take : ∀ {xs : List V} {us : List Value} (n : Nat), Vals xs us → Vals (xs.take n) (us.take n)
  | _, _, 0, _ => .nil
  | _, _, _ + 1, .nil => .nil
  | _, _, n + 1, .cons r t => .cons r (Vals.take n t)
theorem Vals.drop : ∀ {xs : List V} {us : List Value} (n : Nat), Vals xs us → Vals (xs.drop n) (us.drop n)
  | _, _, 0, r => r
  | _, _, _ + 1, .nil => .nil
  | _, _, n + 1, .cons _ t => Vals.drop n t
def RelO : Option V → Option Value → Prop
  | some v, some u => RelV v u
  | none, none => True
  | _, _ => False
def KV {κ : Type} : List (κ × V) → List (κ × Value) → Prop := Paired fun (p : κ × V) (q : κ × Value) => p.1 = q.1 ∧ RelV p.2 q.2

/-- a key of a dict (00_mix): an int or a text -/
def kV : Key → V
  | .inl i => .int i
  | .inr x => .str x

/-- what stands at a tracked address -/
inductive HO where
  /-- a list -/
  | lst (xs : List V)
  /-- a tuple (never changes) -/
  | tup (xs : List V)
  /-- a dict whose keys are ints and texts; one whose keys are tuples of ints and texts (the empty one is both) -/
  | dK (kvs : List (Key × V)) | dT (kvs : List (List Key × V))
  /-- a set of ints: its members, its size -/
  | set (S : Int → Bool) (n : Nat)
  /-- an instance of the class at C, its dict at dx, its attributes -/
  | ins (C dx : Addr) (fs : List (Str × V))
  /-- the dict of the instance at x -/
  | own (x : Addr)
  /-- the dict of an exception -/
  | xd (fs : List (Str × V))
  /-- a bound method, f of x -/
  | met (f x : Addr)
  /-- a range object lo, lo + 1, .. below hi -/
  | rng (lo hi : Int)
  /-- a thing that is known to the object (the script; a dict while a loop walks it): read, never written while it is so -/
  | frz (o : Obj) (u : HO)
  /-- a code object's table -/
  | tbl (ps : Array Value)
  /-- any other thing, by what is true of its one object (a def of one's own: SetO a S n := HO.ext fun h => ..) -/
  | ext (φ : Heap → Prop)

abbrev Hp := Addr → Option HO
def upd (H : Hp) (a : Addr) (o : HO) : Hp := fun b => if b = a then some o else H b
theorem upd_same {H : Hp} {a : Addr} {o : HO} : upd H a o a = some o := by unfold upd; rw [if_pos rfl]
theorem upd_ne {H : Hp} {a b : Addr} {o : HO} (h : b ≠ a) : upd H a o b = H b := by unfold upd; rw [if_neg h]
/-- two objects of different content stand apart -/
theorem ne_of {H : Hp} {a b : Addr} {o u : HO} (h : H a = some o) (h' : H b = some u) (d : o ≠ u) : a ≠ b := by
  intro e; subst e; rw [h] at h'; exact d (Option.some.inj h')
theorem ne_of_none {H : Hp} {a b : Addr} {o : HO} (h : H a = some o) (h' : H b = none) : a ≠ b := by
  intro e; subst e; rw [h] at h'; cases h'

section
variable (P : Program) (w : World)
def ObjOk (H : Hp) (h : Heap) (a : Addr) : HO → Prop
  | .lst xs => xs.length ≤ sizeLine ∧ ∃ (its : List Value) (n : Nat), Vals xs its ∧ h.get? a = some { cls := .type "list", data := .seq its.toArray n }
  | .tup xs => xs.length ≤ sizeLine ∧ ∃ its : List Value, Vals xs its ∧ IsTup h a its.toArray
  | .dK kvs => kvs.length ≤ sizeLine ∧ (a == sysModules) = false ∧ ∃ vs, KV kvs vs ∧ h.DictOf (mixKind P w) a vs
  | .dT kvs => kvs.length ≤ sizeLine ∧ (a == sysModules) = false ∧ ∃ xs : List (List Key × Addr × Value),
      Paired (fun (p : List Key × V) (q : List Key × Addr × Value) => p.1 = q.1 ∧ H q.2.1 = some (.tup (p.1.map kV)) ∧ RelV p.2 q.2.2) kvs xs ∧
      ∃ o es ep, h.get? a = some o ∧ o.ExactDict ∧ o.data = .dict es ep ∧ es.toList = xs.map (entryOfKey (tupleKind (mixKind P w))) ∧ (xs.map (·.1)).Nodup
  | .set S n => h.SetOf (intKind P w) a S n
  | .ins C dx fs => H dx = some (.own a) ∧ fs.length ≤ 1000 ∧ dx ≠ a ∧ h.get? a = some (PySem.W.instObj C dx) ∧
      ∃ mA, h.Ns1 dx mA ∧ (∀ f, RelO (fs.lookup f) (mA f)) ∧ PySem.Within mA (fs.map (·.1))
  | .own _ => ∃ o, h.get? a = some o
  | .xd fs => ∃ mA, h.Ns1 a mA ∧ ∀ f, RelO (fs.lookup f) (mA f)
  | .rng lo hi => ∃ t u v, h.get? a = some { cls := .type "range", data := .fields #[.int lo t, .int hi u, .int 1 v] }
  | .frz o u => h.get? a = some o ∧ ObjOk H h a u
  | .tbl ps => h.get? a = some { cls := .none, data := .fields ps }
  | .met f x => h.get? a = some (PySem.W.methodObj (.ref f) (.ref x))
  | .ext φ => φ h ∧ (∃ o, h.get? a = some o) ∧ ∀ h1 h2 : Heap, φ h1 → (∀ o, h1.get? a = some o → h2.get? a = some o) → φ h2
/-- the abstract heap is held -/
def HOk (H : Hp) (h : Heap) : Prop := ∀ a o, H a = some o → ObjOk P w H h a o
end

section
variable {P : Program} {w : World} {H H' : Hp} {h h' : Heap} {a : Addr} {o : HO}
theorem ObjOk.lt (x : ObjOk P w H h a o) : a < h.objs.size := by
  cases o with
  | lst xs => obtain ⟨_, _, _, _, e⟩ := x; exact Heap.lt_size e
  | tup xs => obtain ⟨_, _, _, p⟩ := x; exact p.lt
  | dK kvs => obtain ⟨_, _, _, _, o, _, _, e, _⟩ := x; exact Heap.lt_size e
  | dT kvs => obtain ⟨_, _, _, _, o, _, _, e, _⟩ := x; exact Heap.lt_size e
  | set S n => obtain ⟨o, _, _, _, e, _⟩ := x; exact Heap.lt_size e
  | ins C dx fs => obtain ⟨_, _, _, e, _⟩ := x; exact Heap.lt_size e
  | own y => obtain ⟨_, e⟩ := x; exact Heap.lt_size e
  | xd fs => obtain ⟨_, ⟨_, _, _, e, _⟩, _⟩ := x; exact Heap.lt_size e
  | rng lo hi => obtain ⟨_, _, _, e⟩ := x; exact Heap.lt_size e
  | frz ob u => obtain ⟨e, _⟩ := x; exact Heap.lt_size e
  | tbl ps => exact Heap.lt_size (show h.get? a = some _ from x)
  | met f y => exact Heap.lt_size (show h.get? a = some _ from x)
  | ext φ => obtain ⟨_, ⟨_, e⟩, _⟩ := x; exact Heap.lt_size e
theorem Paired.mapP {α β : Type} {F G : α → β → Prop} : ∀ {l₁ : List α} {l₂ : List β}, Paired F l₁ l₂ → (∀ a b, F a b → G a b) → Paired G l₁ l₂
  | _, _, .nil, _ => .nil
  | _, _, .cons r t, f => .cons (f _ _ r) (Paired.mapP t f)
theorem Paired.imp' {α β : Type} {F G : α → β → Prop} (f : ∀ a b, F a b → G a b) {l₁ : List α} {l₂ : List β} (r : Paired F l₁ l₂) : Paired G l₁ l₂ := Paired.mapP r f
/-- what an object's description leans on: its own object, its own dict, the tuples -/
theorem ObjOk.stay (x : ObjOk P w H h a o) (k : ∀ b u, (b = a ∨ H b = some (.own a)) → h.get? b = some u → h'.get? b = some u)
    (ho : ∀ b, H b = some (.own a) → H' b = some (.own a)) (ht : ∀ b xs, H b = some (.tup xs) → H' b = some (.tup xs)) : ObjOk P w H' h' a o := by
  induction o with
  | lst xs => obtain ⟨z, its, n, r, e⟩ := x; exact ⟨z, its, n, r, k _ _ (.inl rfl) e⟩
  | tup xs => obtain ⟨z, its, r, ob, e, c⟩ := x; exact ⟨z, its, r, ob, k _ _ (.inl rfl) e, c⟩
  | dK kvs => obtain ⟨z, y, vs, r, ob, es, ep, e, c⟩ := x; exact ⟨z, y, vs, r, ob, es, ep, k _ _ (.inl rfl) e, c⟩
  | dT kvs =>
    obtain ⟨z, y, xs, r, ob, es, ep, e, c⟩ := x
    exact ⟨z, y, xs, Paired.mapP r fun p q z => ⟨z.1, ht _ _ z.2.1, z.2.2⟩, ob, es, ep, k _ _ (.inl rfl) e, c⟩
  | set S n => obtain ⟨ob, es, ep, t, e, c⟩ := x; exact ⟨ob, es, ep, t, k _ _ (.inl rfl) e, c⟩
  | ins C dx fs =>
    obtain ⟨d, z, ne, e, mA, ⟨od, es, ep, e2, c⟩, r⟩ := x
    exact ⟨ho _ d, z, ne, k _ _ (.inl rfl) e, mA, ⟨od, es, ep, k _ _ (.inr d) e2, c⟩, r⟩
  | own y => obtain ⟨ob, e⟩ := x; exact ⟨ob, k _ _ (.inl rfl) e⟩
  | xd fs => obtain ⟨mA, ⟨od, es, ep, e, c⟩, r⟩ := x; exact ⟨mA, ⟨od, es, ep, k _ _ (.inl rfl) e, c⟩, r⟩
  | rng lo hi => obtain ⟨t, u, v, e⟩ := x; exact ⟨t, u, v, k _ _ (.inl rfl) e⟩
  | frz ob u ih => obtain ⟨e, q⟩ := x; exact ⟨k _ _ (.inl rfl) e, ih q⟩
  | tbl ps =>
    have e : h.get? a = some { cls := .none, data := .fields ps } := x
    show h'.get? a = some { cls := .none, data := .fields ps }
    exact k a _ (.inl rfl) e
  | met f y =>
    have e : h.get? a = some (PySem.W.methodObj (.ref f) (.ref y)) := x
    show h'.get? a = some (PySem.W.methodObj (.ref f) (.ref y))
    exact k a _ (.inl rfl) e
  | ext φ => obtain ⟨p, ⟨o, e⟩, st⟩ := x; exact ⟨st _ _ p fun o q => k _ _ (.inl rfl) q, ⟨o, k _ _ (.inl rfl) e⟩, st⟩
theorem HOk.lt (x : HOk P w H h) (e : H a = some o) : a < h.objs.size := (x a o e).lt
theorem HOk.fresh (x : HOk P w H h) (e : h.objs.size ≤ a) : H a = none := by
  cases q : H a with
  | none => rfl
  | some u => exact absurd (Nat.lt_of_lt_of_le (x.lt q) e) (Nat.lt_irrefl _)
/-- every object of the heap is kept -/
theorem HOk.kept (x : HOk P w H h) (k : ∀ b u, h.get? b = some u → h'.get? b = some u) : HOk P w H h' := fun a o e =>
  (x a o e).stay (fun b u _ q => k b u q) (fun _ q => q) fun _ _ q => q
/-- a new object is laid and tracked -/
theorem HOk.laid (x : HOk P w H h) (k : ∀ b u, h.get? b = some u → h'.get? b = some u) (hp : h.objs.size ≤ a) (new : ObjOk P w (upd H a o) h' a o) : HOk P w (upd H a o) h' := fun b u e => by
  have hn := x.fresh hp
  by_cases hb : b = a
  · subst hb; rw [upd_same] at e; cases e; exact new
  · rw [upd_ne hb] at e
    exact (x b u e).stay (fun c v _ q => k c v q) (fun c q => by rw [upd_ne (ne_of_none q hn)]; exact q) fun c xs q => by rw [upd_ne (ne_of_none q hn)]; exact q
end

/-- what may be read as u: it is u, or a known u -/
def Rd (H : Hp) (a : Addr) (u : HO) : Prop := H a = some u ∨ ∃ o, H a = some (.frz o u)
theorem Rd.of {H : Hp} {a : Addr} {u : HO} (h : H a = some u) : Rd H a u := .inl h
theorem Rd.ok {P : Program} {w : World} {H : Hp} {h : Heap} {a : Addr} {u : HO} (r : Rd H a u) (x : HOk P w H h) : ObjOk P w H h a u := by
  rcases r with r | ⟨o, r⟩
  · exact x a u r
  · obtain ⟨_, q⟩ := x a _ r
    exact q
/-- what may be written -/
def Mut : Option HO → Prop
  | some (.lst _) => True
  | some (.dK _) => True
  | some (.dT _) => True
  | some (.set _ _) => True
  | some (.ins _ _ _) => True
  | some (.ext _) => True
  | _ => False
section
variable {P : Program} {w : World} {H : Hp} {h h' : Heap} {x e : Addr} {o' : HO}
/-- the object at e is changed: x itself, or the dict of the instance x -/
theorem HOk.write (ok : HOk P w H h) (mu : Mut (H x)) (he : e = x ∨ H e = some (.own x)) (k : ∀ b u, b ≠ e → h.get? b = some u → h'.get? b = some u) (heo : ∃ u, h'.get? e = some u)
    (new : ObjOk P w (upd H x o') h' x o') : HOk P w (upd H x o') h' := fun b u q => by
  have nown : ∀ c y, H c = some (.own y) → c ≠ x := fun c y r z => by subst z; rw [r] at mu; exact mu
  have ntup : ∀ c xs, H c = some (.tup xs) → c ≠ x := fun c xs r z => by subst z; rw [r] at mu; exact mu
  by_cases hb : b = x
  · subst hb; rw [upd_same] at q; cases q; exact new
  · rw [upd_ne hb] at q
    by_cases hbe : b = e
    · have q' : H b = some (.own x) := by
        rcases he with z | z
        · exact absurd (hbe.trans z) hb
        · rw [hbe]; exact z
      rw [q] at q'; cases q'
      obtain ⟨v, hv⟩ := heo
      exact ⟨v, by rw [hbe]; exact hv⟩
    · refine (ok b u q).stay (fun c v hc r => k c v ?_ r) (fun c r => by rw [upd_ne (nown c b r)]; exact r) fun c xs r => by rw [upd_ne (ntup c xs r)]; exact r
      rcases hc with rfl | hc
      · exact hbe
      · rintro rfl
        rcases he with z | z
        · exact nown c b hc z
        · rw [hc] at z; cases z; exact hb rfl
end

/-! ### kept unless tracked; of the frames at fs (the callers') the slots may change (an exception that passes writes there); of the records at ex (iterators) nothing is said -/
structure Un (fs ex : List Addr) (H H' : Hp) (h h' : Heap) : Prop where
  keep : ∀ b o, h.get? b = some o → H b = none → b ∉ fs → b ∉ ex → h'.get? b = some o
  slot : ∀ b o, h.get? b = some o → H b = none → b ∈ fs → b ∉ ex → ∃ sl, h'.get? b = some { o with slots := sl }
  free : ∀ b o, h.get? b = some o → H b = none → b ∉ ex → H' b = none
  there : ∀ b o, h.get? b = some o → b ∉ ex → ∃ o', h'.get? b = some o'
  tups : ∀ b xs, H b = some (.tup xs) → H' b = some (.tup xs)
  frzs : ∀ b o u, H b = some (.frz o u) → H' b = some (.frz o u)
  tbls : ∀ b ps, H b = some (.tbl ps) → ∃ more, H' b = some (.tbl (ps ++ more))
section
variable {fs fs' ex ex' : List Addr} {H H1 H2 : Hp} {h h1 h2 h' : Heap} {a x e : Addr} {o : HO}
theorem Un.any (u : Un fs ex H H1 h h1) {b : Addr} {ob : Obj} (q : h.get? b = some ob) (n : H b = none) (hx : b ∉ ex) : ∃ sl, h1.get? b = some { ob with slots := sl } := by
  by_cases hb : b ∈ fs
  · exact u.slot b ob q n hb hx
  · exact ⟨ob.slots, u.keep b ob q n hb hx⟩
theorem Un.trans (a : Un fs ex H H1 h h1) (b : Un fs ex H1 H2 h1 h2) : Un fs ex H H2 h h2 where
  keep := fun c ob q n hc hx => b.keep c ob (a.keep c ob q n hc hx) (a.free c ob q n hx) hc hx
  slot := fun c ob q n hc hx => by
    obtain ⟨sl, e1⟩ := a.slot c ob q n hc hx
    obtain ⟨sl', e2⟩ := b.slot c _ e1 (a.free c ob q n hx) hc hx
    exact ⟨sl', e2⟩
  free := fun c ob q n hx => by
    obtain ⟨o', e1⟩ := a.there c ob q hx
    exact b.free c o' e1 (a.free c ob q n hx) hx
  there := fun c ob q hx => by
    obtain ⟨o', e1⟩ := a.there c ob q hx
    exact b.there c o' e1 hx
  tups := fun c xs q => b.tups c xs (a.tups c xs q)
  frzs := fun c ob xs q => b.frzs c ob xs (a.frzs c ob xs q)
  tbls := fun c ps q => by
    obtain ⟨m1, e1⟩ := a.tbls c ps q
    obtain ⟨m2, e2⟩ := b.tbls c _ e1
    exact ⟨m1 ++ m2, by rw [e2, Array.append_assoc]⟩
theorem Un.kept (k : ∀ b u, h.get? b = some u → h'.get? b = some u) : Un fs ex H H h h' :=
  ⟨fun b ob q _ _ _ => k b ob q, fun b ob q _ _ _ => ⟨ob.slots, k b ob q⟩, fun _ _ _ n _ => n, fun b ob q _ => ⟨ob, k b ob q⟩, fun _ _ q => q, fun _ _ _ q => q, fun _ ps q => ⟨#[], by rw [q]; simp⟩⟩
theorem Un.refl : Un fs ex H H h h := Un.kept fun _ _ q => q
theorem Un.laid (k : ∀ b u, h.get? b = some u → h'.get? b = some u) (hp : h.objs.size ≤ a) (hn : H a = none) : Un fs ex H (upd H a o) h h' where
  keep := fun b u q _ _ _ => k b u q
  slot := fun b u q _ _ _ => ⟨u.slots, k b u q⟩
  free := fun b u q n _ => by rw [upd_ne (Nat.ne_of_lt (Nat.lt_of_lt_of_le (Heap.lt_size q) hp))]; exact n
  there := fun b u q _ => ⟨u, k b u q⟩
  tups := fun b xs q => by rw [upd_ne (ne_of_none q hn)]; exact q
  frzs := fun b u xs q => by rw [upd_ne (ne_of_none q hn)]; exact q
  tbls := fun b ps q => ⟨#[], by rw [upd_ne (ne_of_none q hn), q]; simp⟩
theorem Un.write (mu : Mut (H x)) (he : e = x ∨ H e = some (.own x)) (k : ∀ b u, b ≠ e → h.get? b = some u → h'.get? b = some u) (heo : ∃ u, h'.get? e = some u) : Un fs ex H (upd H x o) h h' := by
  have hx : ∀ b, H b = none → b ≠ x := fun b n z => by subst z; rw [n] at mu; exact mu
  have hb : ∀ b, H b = none → b ≠ e := fun b n z => by
    subst z
    rcases he with r | r
    · exact hx b n r
    · rw [n] at r; cases r
  have hm : ∀ b u, H b = some u → ¬ Mut (some u) → b ≠ x := fun b u q nm z => by subst z; rw [q] at mu; exact nm mu
  refine ⟨fun b u q n _ _ => k b u (hb b n) q, fun b u q n _ _ => ⟨u.slots, k b u (hb b n) q⟩, fun b u q n _ => by rw [upd_ne (hx b n)]; exact n, fun b u q _ => ?_,
    fun b xs q => by rw [upd_ne (hm b _ q fun z => z)]; exact q, fun b u xs q => by rw [upd_ne (hm b _ q fun z => z)]; exact q, fun b ps q => ⟨#[], by rw [upd_ne (hm b _ q fun z => z), q]; simp⟩⟩
  by_cases hbe : b = e
  · subst hbe; exact heo
  · exact ⟨u, k b u hbe q⟩
theorem Un.mono (u : Un fs ex H H1 h h1) (hs : ∀ b ∈ fs, b ∈ fs') (hx : ∀ b ∈ ex, b ∈ ex') : Un fs' ex' H H1 h h1 :=
  ⟨fun b ob q n hb he => u.keep b ob q n (fun z => hb (hs b z)) fun z => he (hx b z), fun _ _ q n _ he => u.any q n fun z => he (hx _ z), fun b ob q n he => u.free b ob q n fun z => he (hx b z), fun b ob q he => u.there b ob q fun z => he (hx b z), u.tups, u.frzs, u.tbls⟩
end

/-! ### the heap without what is tracked -/
def trk (h : Heap) (H : Hp) : List Addr := (List.range h.objs.size).filter fun a => (H a).isSome
def hidT (h : Heap) (H : Hp) : Heap := PySem.W.hideAll h (trk h H)
theorem hidT_size (h : Heap) (H : Hp) : (hidT h H).objs.size = h.objs.size := PySem.W.hideAll_size _ _
theorem hidT_get {h : Heap} {H : Hp} {b : Addr} {o : Obj} (e : h.get? b = some o) (n : H b = none) : (hidT h H).get? b = some o :=
  PySem.W.hideAll_get _ e fun hm => by
    have q : (H b).isSome = true := (List.mem_filter.mp hm).2
    rw [n] at q; simp at q
theorem of_hidT {h : Heap} {H : Hp} {b : Addr} {o : Obj} (e : (hidT h H).get? b = some o) : h.get? b = some o ∧ H b = none := by
  have e' : h.get? b = some o := PySem.W.of_hideAll (trk h H) e
  refine ⟨e', ?_⟩
  cases q : H b with
  | none => rfl
  | some x =>
    have hm : b ∈ trk h H := List.mem_filter.mpr ⟨List.mem_range.mpr (Heap.lt_size e'), by simp [q]⟩
    have z : (hidT h H).get? b = none := PySem.W.hideAll_none (trk h H) hm
    rw [z] at e; cases e

/-! ### OpenK's ledger, filled with every new object but one -/
def allNews (g h : Heap) (L : Addr) : List (Addr × Obj) := (List.range h.objs.size).filterMap fun a => if a = L ∨ (g.get? a).isSome = true then none else (h.get? a).map fun o => (a, o)
def rest (g h : Heap) (L d : Addr) : List (Addr × Obj) := (allNews g h L).filter fun p => decide (p.1 ≠ d)
end L2

namespace L2
open PySem PySem.Spec PyProof.Rows

/-- the module's facts, over the base: the heap at the law's entry without what is tracked there -/
structure Mod (K : PySem.W.Frag) (mg : Str → Option Value) (base : Heap) : Prop where
  kin : K.In base
  glob : base.Ns mainGlobals mg
  blt : ∃ mb, base.Ns builtinsNs mb ∧ ∀ x : Str, x ≠ "__name__" → mb x = bootBuiltins x
  nolimit : base.NoLimit

/-- the context: a def's body (or a comprehension's block) running. base: fixed through the whole law; s₀, H₀: the entry; outer: the frames whose slots others may change (a def's callers); stack: all frames that run;
   ex: iterators that were made ahead of the entry and are walked here (a comprehension's); fn: the names whose cells were made at the entry (a def: all; a comprehension's block: its own); calm: not within an except suite; pn: pins that every state bears; xe: what is wanted of an exception that leaves the code -/
structure Cx where
  prog : Program
  w : World
  K : PySem.W.Frag
  mg : Str → Option Value
  base : Heap
  A : Around
  N : List Str
  s₀ : Shared
  H₀ : Hp
  env : Env
  outer : List Env
  stack : List Env
  ex : List Addr
  fn : Str → Bool
  calm : Bool
  pn : List (Addr × Obj)
  xe : Value → Shared → Prop
/-- the callers' frames -/
def frs (l : List Env) : List Addr := l.filterMap (·.frame)
abbrev Cx.fs (X : Cx) : List Addr := frs X.outer

def Vis (sc : Scope) (x : Str) : Prop := sc.names.lookup x = some .local ∨ sc.names.lookup x = some .cell ∨ sc.names.lookup x = some .free
def Loc (sc : Scope) (x : Str) : Prop := sc.names.lookup x = some .local ∨ sc.names.lookup x = some .cell
def Look (env : Env) (h : Heap) (m : Str → Option Value) (x : Str) (u : Value) : Prop :=
  (env.kindOf x = some .local ∧ m x = some u) ∨ ((env.kindOf x = some .cell ∨ env.kindOf x = some .free) ∧ ∃ c, env.cells.lookup x = some c ∧ h.IsCell c (some u))

structure Cx.Ok (X : Cx) : Prop where
  mod : Mod X.K X.mg X.base
  kind : X.env.scope.kind = .function
  glob : X.env.globals = mainGlobals
  blt : X.env.builtins = builtinsNs
  above : X.s₀.heap.objs.size ≤ X.env.locals
  inj : ∀ x y c, X.env.cells.lookup x = some c → X.env.cells.lookup y = some c → x = y
  has : ∀ x, (X.env.kindOf x = some .cell ∨ X.env.kindOf x = some .free) → ∃ c, X.env.cells.lookup x = some c
  cab : ∀ x c, X.fn x = true → X.env.cells.lookup x = some c → X.s₀.heap.objs.size ≤ c
  hd : X.calm = true → X.A.handled = none
  frames : X.A.frames = some X.stack
  stk : X.stack = X.outer ∨ (X.stack = X.env :: X.outer ∧ X.env.frame = some X.env.locals)
  exf : ∀ b ∈ X.ex, b ≠ X.env.locals ∧ ∀ x c, X.env.cells.lookup x = some c → c ≠ b
  bs : ∀ b o, X.base.get? b = some o → X.s₀.heap.get? b = some o ∧ X.H₀ b = none
  bsz : X.base.objs.size ≤ X.s₀.heap.objs.size
  noex : ∀ b o, X.base.get? b = some o → b ∉ X.ex
  exfs : ∀ b ∈ X.ex, b ∉ X.fs
  funs : X.s₀.heap.FunFrames X.base X.outer
  frf : ∀ b ∈ X.fs, X.H₀ b = none

structure Inv (X : Cx) (pins : List (Addr × Obj)) (σ : List (Option V)) (H : Hp) (s : Shared) : Prop where
  ok : X.Ok
  os : s.os = X.s₀.os
  bare : AllBare s.gens
  base : Un X.fs X.ex X.H₀ H X.s₀.heap s.heap
  loc : ∃ m, s.heap.Ns X.env.locals m ∧ ∀ (i : Nat) (x : Str) (v : V), X.N[i]? = some x → σ[i]? = some (some v) → Vis X.env.scope x → ∃ u, RelV v u ∧ Look X.env s.heap m x u
  cell : ∀ x c, X.env.cells.lookup x = some c → ∃ v, s.heap.IsCell c v
  free : H X.env.locals = none
  freeC : ∀ x c, X.env.cells.lookup x = some c → H c = none
  pin : ∀ p ∈ X.pn ++ pins, s.heap.get? p.1 = some p.2 ∧ H p.1 = none ∧ p.1 ≠ X.env.locals ∧ p.1 ∉ X.fs ∧ ∀ v, p.2.data ≠ .cell v
  hok : HOk X.prog X.w H s.heap
  len : σ.length = X.N.length

section
variable {X : Cx} {pins : List (Addr × Obj)} {σ : List (Option V)} {H H' : Hp} {s : Shared} {h' : Heap}

theorem Cx.Ok.nofr (ok : X.Ok) {b : Addr} {o : Obj} (e : X.base.get? b = some o) : b ∉ X.fs := fun hb => by
  have := (ok.funs.mem hb).1
  rw [e] at this; cases this
theorem Inv.bs (I : Inv X pins σ H s) : ∀ b o, X.base.get? b = some o → s.heap.get? b = some o ∧ H b = none := fun b o e =>
  ⟨I.base.keep b o (I.ok.bs b o e).1 (I.ok.bs b o e).2 (I.ok.nofr e) (I.ok.noex b o e), I.base.free b o (I.ok.bs b o e).1 (I.ok.bs b o e).2 (I.ok.noex b o e)⟩
theorem Inv.bk (I : Inv X pins σ H s) : ∀ b o, X.base.get? b = some o → s.heap.get? b = some o := fun b o e => (I.bs b o e).1
theorem Inv.mod (I : Inv X pins σ H s) : Mod X.K X.mg X.base := I.ok.mod
theorem Inv.kIn (I : Inv X pins σ H s) : X.K.In s.heap := I.ok.mod.kin.keeps I.bk
/-- the frame over the base: for OpenK's rules (K.In X.base is I.mod.kin) -/
theorem Inv.fr (I : Inv X pins σ H s) : ∃ m, Fr X.base X.env.locals s.heap m :=
  let ⟨m, hn, _⟩ := I.loc
  ⟨m, hn, I.bk, Nat.le_trans I.ok.bsz I.ok.above⟩
theorem Inv.lt (I : Inv X pins σ H s) : X.env.locals < s.heap.objs.size := let ⟨_, hn, _⟩ := I.loc; hn.lt
theorem Inv.sz (I : Inv X pins σ H s) : X.s₀.heap.objs.size ≤ s.heap.objs.size := Nat.le_trans I.ok.above (Nat.le_of_lt I.lt)
theorem Inv.nofs (I : Inv X pins σ H s) {a : Addr} (h : s.heap.objs.size ≤ a) : a ∉ X.fs := fun hb => by
  obtain ⟨_, o, ho, _⟩ := I.ok.funs.mem hb
  exact absurd (Nat.lt_of_lt_of_le (Heap.lt_size ho) (Nat.le_trans I.sz h)) (Nat.lt_irrefl _)
theorem Inv.cne (I : Inv X pins σ H s) : ∀ x c, X.env.cells.lookup x = some c → c ≠ X.env.locals := fun x c e z => by
  obtain ⟨v, o, ho, hd⟩ := I.cell x c e
  obtain ⟨m, ⟨o', es, ep, ho', hd', _⟩, _⟩ := I.loc
  rw [z, ho'] at ho; cases ho; rw [hd'] at hd; cases hd
theorem Inv.funs (I : Inv X pins σ H s) : s.heap.FunFrames X.base X.outer := by
  have all : ∀ (l : List Env), (∀ b ∈ frs l, b ∈ X.fs) → X.s₀.heap.FunFrames X.base l → s.heap.FunFrames X.base l := by
    intro l
    induction l with
    | nil => intro _ _; trivial
    | cons env r ih =>
      intro hs hl
      obtain ⟨hk, ⟨L, o, hf, hn, ho, hd⟩, hr⟩ := hl
      have hL : L ∈ X.fs := hs L (by unfold frs; rw [List.filterMap_cons, hf]; exact List.mem_cons_self)
      obtain ⟨sl, e⟩ := I.base.slot L o ho (I.ok.frf L hL) hL fun z => I.ok.exfs L z hL
      exact ⟨hk, ⟨L, _, hf, hn, e, hd⟩, ih (fun b hb => hs b (by unfold frs; rw [List.filterMap_cons, hf]; exact List.mem_cons_of_mem _ hb)) hr⟩
  exact all X.outer (fun _ hb => hb) I.ok.funs

/-- the frames that run, for a call -/
theorem Inv.stack (I : Inv X pins σ H s) : s.heap.FunFrames X.base X.stack := by
  rcases I.ok.stk with e | ⟨e, hf⟩
  · rw [e]; exact I.funs
  · rw [e]
    obtain ⟨m, hn, _⟩ := I.loc
    refine .cons (by rw [I.ok.kind]; decide) hf hn ?_ I.funs
    exact Heap.get?_none_of_le (Nat.le_trans I.ok.bsz I.ok.above)
theorem Inv.stkSub (I : Inv X pins σ H s) : ∀ b ∈ frs X.stack, b ∈ X.env.locals :: X.fs := fun b hb => by
  rcases I.ok.stk with e | ⟨e, hf⟩
  · rw [e] at hb; exact List.mem_cons_of_mem _ hb
  · rw [e] at hb
    unfold frs at hb
    rw [List.filterMap_cons, hf] at hb
    exact hb
theorem Inv.stkFree (I : Inv X pins σ H s) : ∀ b ∈ frs X.stack, H b = none := fun b hb => by
  rcases List.mem_cons.mp (I.stkSub b hb) with e | hb
  · rw [e]; exact I.free
  · obtain ⟨_, o, ho, _⟩ := I.ok.funs.mem hb
    exact I.base.free b o ho (I.ok.frf b hb) fun z => I.ok.exfs b z hb

/-- THE STEP: the untracked objects but the frame and the records at ch are kept (the callers' frames up to slots), the frame's map is kept, the new abstract heap is held -/
theorem Inv.step {g' : Array GenState} {t' : Nat} {d' : Drawn} {ch : List Addr} (I : Inv X pins σ H s)
    (hch : ∀ b ∈ ch, (b ∈ X.ex ∨ X.s₀.heap.objs.size ≤ b) ∧ b ≠ X.env.locals ∧ (∀ x c, X.env.cells.lookup x = some c → c ≠ b) ∧ ∀ p ∈ X.pn ++ pins, p.1 ≠ b)
    (keep : ∀ b o, b ≠ X.env.locals → b ∉ X.fs → b ∉ ch → s.heap.get? b = some o → H b = none → h'.get? b = some o)
    (slot : ∀ b o, b ≠ X.env.locals → b ∈ X.fs → b ∉ ch → s.heap.get? b = some o → H b = none → ∃ sl, h'.get? b = some { o with slots := sl }) (free : ∀ b o, b ∉ ch → s.heap.get? b = some o → H b = none → H' b = none)
    (there : ∀ b o, b ∉ ch → s.heap.get? b = some o → ∃ o', h'.get? b = some o')
    (tups : ∀ b xs, H b = some (.tup xs) → H' b = some (.tup xs)) (frzs : ∀ b o u, H b = some (.frz o u) → H' b = some (.frz o u)) (tbls : ∀ b ps, H b = some (.tbl ps) → ∃ more, H' b = some (.tbl (ps ++ more)))
    (ns : ∀ m, s.heap.Ns X.env.locals m → h'.Ns X.env.locals m) (hok : HOk X.prog X.w H' h') (hg : AllBare g') :
    Inv X pins σ H' { s with heap := h', gens := g', drawn := d', toks := t' } := by
  have neL : ∀ b o, X.s₀.heap.get? b = some o → b ≠ X.env.locals := fun b o e => Nat.ne_of_lt (Nat.lt_of_lt_of_le (Heap.lt_size e) I.ok.above)
  have neC : ∀ b o, X.s₀.heap.get? b = some o → b ∉ X.ex → b ∉ ch := fun b o e hx hb => by
    rcases (hch b hb).1 with z | z
    · exact hx z
    · exact absurd (Nat.lt_of_lt_of_le (Heap.lt_size e) z) (Nat.lt_irrefl _)
  have cellK : ∀ x c, X.env.cells.lookup x = some c → ∀ v, s.heap.IsCell c v → h'.IsCell c v := fun x c e v ⟨o, ho, hd⟩ => by
    have nch : c ∉ ch := fun z => (hch c z).2.2.1 x c e rfl
    by_cases hc : c ∈ X.fs
    · obtain ⟨sl, q⟩ := slot c o (I.cne x c e) hc nch ho (I.freeC x c e)
      exact ⟨_, q, hd⟩
    · exact ⟨o, keep c o (I.cne x c e) hc nch ho (I.freeC x c e), hd⟩
  refine ⟨I.ok, I.os, hg, ⟨fun b o e n hb hx => ?_, fun b o e n hb hx => ?_, fun b o e n hx => ?_, fun b o e hx => ?_, fun b xs e => tups b xs (I.base.tups b xs e), fun b o xs e => frzs b o xs (I.base.frzs b o xs e), fun b ps e => ?_⟩, ?_, fun x c e => ?_, ?_, fun x c e => ?_, fun p hp => ?_, hok, I.len⟩
  · exact keep b o (neL b o e) hb (neC b o e hx) (I.base.keep b o e n hb hx) (I.base.free b o e n hx)
  · obtain ⟨sl, e1⟩ := I.base.slot b o e n hb hx
    obtain ⟨sl', e2⟩ := slot b _ (neL b o e) hb (neC b o e hx) e1 (I.base.free b o e n hx)
    exact ⟨sl', e2⟩
  · obtain ⟨o', e1⟩ := I.base.there b o e hx
    exact free b o' (neC b o e hx) e1 (I.base.free b o e n hx)
  · obtain ⟨o', e1⟩ := I.base.there b o e hx
    exact there b o' (neC b o e hx) e1
  · obtain ⟨m1, e1⟩ := I.base.tbls b ps e
    obtain ⟨m2, e2⟩ := tbls b _ e1
    exact ⟨m1 ++ m2, by rw [e2, Array.append_assoc]⟩
  · obtain ⟨m, hn, hl⟩ := I.loc
    refine ⟨m, ns m hn, fun i x v e1 e2 e3 => ?_⟩
    obtain ⟨u, r, l⟩ := hl i x v e1 e2 e3
    refine ⟨u, r, ?_⟩
    rcases l with l | ⟨k, c, e, z⟩
    · exact .inl l
    · exact .inr ⟨k, c, e, cellK x c e _ z⟩
  · obtain ⟨v, z⟩ := I.cell x c e
    exact ⟨v, cellK x c e v z⟩
  · obtain ⟨m, ⟨o, _, _, ho, _⟩, _⟩ := I.loc
    exact free _ o (fun z => (hch _ z).2.1 rfl) ho I.free
  · obtain ⟨v, o, ho, hd⟩ := I.cell x c e
    exact free c o (fun z => (hch c z).2.2.1 x c e rfl) ho (I.freeC x c e)
  · obtain ⟨e, n, ne, nf, d⟩ := I.pin p hp
    have nch : p.1 ∉ ch := fun z => (hch p.1 z).2.2.2 p hp rfl
    exact ⟨keep p.1 p.2 ne nf nch e n, free p.1 p.2 nch e n, ne, nf, d⟩
/-- .. where the frame's own object is kept too -/
theorem Inv.un {t' : Nat} (I : Inv X pins σ H s) (u : Un X.fs [] H H' s.heap h') (hok : HOk X.prog X.w H' h') : Inv X pins σ H' { s with heap := h', toks := t' } := by
  obtain ⟨m, ⟨o, es, ep, ho, r⟩, _⟩ := id I.loc
  obtain ⟨sl, hL⟩ := u.any ho I.free (by simp)
  exact I.step (g' := s.gens) (d' := s.drawn) (ch := []) (fun _ z => nomatch z) (fun b o _ hb _ e n => u.keep b o e n hb (by simp)) (fun b o _ hb _ e n => u.slot b o e n hb (by simp)) (fun b o _ e n => u.free b o e n (by simp)) (fun b o _ e => u.there b o e (by simp)) u.tups u.frzs u.tbls (fun m' hm => by
    obtain ⟨o', es', ep', ho', r'⟩ := hm
    rw [ho] at ho'; cases ho'
    exact ⟨_, es', ep', hL, r'⟩) hok I.bare
/-- behind a call (or a comprehension's block): the slots of this frame may have changed too, the records at ch may have turned -/
theorem Inv.call {g' : Array GenState} {t' : Nat} {d' : Drawn} {ch : List Addr} (I : Inv X pins σ H s) (u : Un (frs X.stack) ch H H' s.heap h') (hok : HOk X.prog X.w H' h') (hg : AllBare g')
    (hch : ∀ b ∈ ch, (b ∈ X.ex ∨ X.s₀.heap.objs.size ≤ b) ∧ b ≠ X.env.locals ∧ (∀ x c, X.env.cells.lookup x = some c → c ≠ b) ∧ ∀ p ∈ X.pn ++ pins, p.1 ≠ b) :
    Inv X pins σ H' { s with heap := h', gens := g', drawn := d', toks := t' } := by
  obtain ⟨m, ⟨o, es, ep, ho, r⟩, _⟩ := id I.loc
  obtain ⟨sl, hL⟩ := u.any ho I.free fun z => (hch _ z).2.1 rfl
  exact I.step (ch := ch) hch (fun b o hL hb hc e n => u.keep b o e n (fun z => (List.mem_cons.mp (I.stkSub b z)).elim hL hb) hc) (fun b o _ _ hc e n => u.any e n hc) (fun b o hc e n => u.free b o e n hc) (fun b o hc e => u.there b o e hc) u.tups u.frzs u.tbls (fun m' hm => by
    obtain ⟨o', es', ep', ho', r'⟩ := hm
    rw [ho] at ho'; cases ho'
    exact ⟨_, es', ep', hL, r'⟩) hok hg
/-- an untracked record of ours (an iterator) has turned -/
theorem Inv.turned {t' : Nat} {it : Addr} (I : Inv X pins σ H s) (k : ∀ b o, b ≠ it → s.heap.get? b = some o → h'.get? b = some o) (hn : H it = none) (hL : it ≠ X.env.locals)
    (h1 : it ∈ X.ex ∨ X.s₀.heap.objs.size ≤ it) (h2 : ∀ x c, X.env.cells.lookup x = some c → c ≠ it) (h3 : ∀ p ∈ X.pn ++ pins, p.1 ≠ it) : Inv X pins σ H { s with heap := h', toks := t' } := by
  have nit : ∀ b u, H b = some u → b ≠ it := fun b u e z => by rw [z, hn] at e; cases e
  refine I.step (g' := s.gens) (d' := s.drawn) (ch := [it]) (fun b hb => ?_) (fun b o _ _ hc e _ => k b o (fun z => hc (by simp [z])) e) (fun b o _ _ hc e _ => ⟨o.slots, k b o (fun z => hc (by simp [z])) e⟩) (fun _ _ _ _ n => n)
    (fun b o hc e => ⟨o, k b o (fun z => hc (by simp [z])) e⟩) (fun _ _ e => e) (fun _ _ _ e => e) (fun b ps e => ⟨#[], by rw [e]; simp⟩) (fun m hm => ?_) (fun b u e => ?_) I.bare
  · have e : b = it := by simpa using hb
    subst e
    exact ⟨h1, hL, h2, h3⟩
  · obtain ⟨o, es, ep, ho, r⟩ := hm
    exact ⟨o, es, ep, k _ o (Ne.symm hL) ho, r⟩
  · refine (I.hok b u e).stay (fun c v hc q => k c v ?_ q) (fun _ q => q) fun _ _ q => q
    rcases hc with z | z
    · rw [z]; exact nit b u e
    · exact nit c _ z
theorem Inv.tok (I : Inv X pins σ H s) (t : Nat) : Inv X pins σ H { s with toks := t } := I.un (h' := s.heap) (t' := t) Un.refl I.hok
/-- all objects kept -/
theorem Inv.kept {t' : Nat} (I : Inv X pins σ H s) (k : ∀ b u, s.heap.get? b = some u → h'.get? b = some u) : Inv X pins σ H { s with heap := h', toks := t' } := I.un (Un.kept k) (I.hok.kept k)
/-- a new object laid and tracked -/
theorem Inv.laid {a : Addr} {o : HO} {t' : Nat} (I : Inv X pins σ H s) (k : ∀ b u, s.heap.get? b = some u → h'.get? b = some u) (hp : s.heap.objs.size ≤ a) (new : ObjOk X.prog X.w (upd H a o) h' a o) :
    Inv X pins σ (upd H a o) { s with heap := h', toks := t' } := I.un (Un.laid k hp (I.hok.fresh hp)) (I.hok.laid k hp new)
/-- an object written -/
theorem Inv.write {x e : Addr} {o : HO} {t' : Nat} (I : Inv X pins σ H s) (mu : Mut (H x)) (he : e = x ∨ H e = some (.own x)) (k : ∀ b u, b ≠ e → s.heap.get? b = some u → h'.get? b = some u) (heo : ∃ u, h'.get? e = some u)
    (new : ObjOk X.prog X.w (upd H x o) h' x o) : Inv X pins σ (upd H x o) { s with heap := h', toks := t' } := I.un (Un.write mu he k heo) (I.hok.write mu he k heo new)
theorem Inv.pins_of {pins' : List (Addr × Obj)} (I : Inv X pins σ H s) (h : ∀ p ∈ pins', s.heap.get? p.1 = some p.2 ∧ H p.1 = none ∧ p.1 ≠ X.env.locals ∧ p.1 ∉ X.fs ∧ ∀ v, p.2.data ≠ .cell v) : Inv X pins' σ H s :=
  ⟨I.ok, I.os, I.bare, I.base, I.loc, I.cell, I.free, I.freeC, fun p hp => (List.mem_append.mp hp).elim (fun z => I.pin p (List.mem_append_left _ z)) (h p), I.hok, I.len⟩

theorem nodup_ix {N : List Str} (hN : N.Nodup) {i j : Nat} {x : Str} (a : N[i]? = some x) (b : N[j]? = some x) : i = j := by
  obtain ⟨h1, e1⟩ := List.getElem?_eq_some_iff.mp a
  obtain ⟨h2, e2⟩ := List.getElem?_eq_some_iff.mp b
  exact (List.getElem_inj hN).mp (e1.trans e2.symm)

/-- a name is stored; what changed -/
theorem store_ok2 {M : Model} {A : Around} {E : Value → Shared → Prop} {i : Nat} {x : Str} {v : V} {u : Value} {Q : Unit → Shared → Prop} (I : Inv X pins σ H s) (hN : X.N.Nodup) (hi : X.N[i]? = some x) (hx : Loc X.env.scope x) (r : RelV v u)
    (h : ∀ s', Inv X pins (σ.set i (some v)) H s' → (∃ a, Heap.SameBut a s.heap s'.heap ∧ (a = X.env.locals ∨ X.env.cells.lookup x = some a)) → Q () s') (hf : X.fn x = true ∨ X.env.scope.names.lookup x = some .local := by first | exact .inl rfl | exact .inr rfl | assumption) : wpAny M A (storeName X.env x u) Q E s := by
  obtain ⟨m, hn, hl⟩ := id I.loc
  have hcls : (X.env.scope.kind == .class || (X.env.scope.kind == .module && X.env.locals != X.env.globals)) = false := by rw [I.ok.kind]; rfl
  have hiσ : i < σ.length := by rw [I.len]; exact (List.getElem?_eq_some_iff.mp hi).1
  have cne := I.cne
  have tracked : ∀ {a : Addr} {h' : Heap}, (∃ o, s.heap.get? a = some o ∧ H a = none) → Heap.SameBut a s.heap h' → HOk X.prog X.w H h' := fun {a h'} ha hs b ob e => by
    obtain ⟨_, _, hfree⟩ := ha
    refine (I.hok b ob e).stay (fun c w' hc q => (hs.2 c ?_).trans q) (fun _ q => q) fun _ _ q => q
    rintro rfl
    rcases hc with rfl | hc
    · rw [hfree] at e; cases e
    · rw [hfree] at hc; cases hc
  rcases hx with hk | hk
  · refine wpAny_storeName_local hk hn (fun h' hn' hs => ?_) hcls
    obtain ⟨oL, _, _, hoL, _⟩ := id hn
    refine h _ ⟨I.ok, I.os, I.bare, ⟨fun b o e n hb hx => ?_, fun b o e n hb hx => ?_, I.base.free, fun b o e hx => ?_, I.base.tups, I.base.frzs, I.base.tbls⟩, ⟨_, hn', fun j y v' e1 e2 e3 => ?_⟩, fun y c e => ?_, I.free, I.freeC, fun p hp => ?_, tracked ⟨oL, hoL, I.free⟩ hs, by simpa using I.len⟩ ⟨_, hs, .inl rfl⟩
    · exact (hs.2 b (Nat.ne_of_lt (Nat.lt_of_lt_of_le (Heap.lt_size e) I.ok.above))).trans (I.base.keep b o e n hb hx)
    · obtain ⟨sl, e1⟩ := I.base.slot b o e n hb hx
      exact ⟨sl, (hs.2 b (Nat.ne_of_lt (Nat.lt_of_lt_of_le (Heap.lt_size e) I.ok.above))).trans e1⟩
    · obtain ⟨o', e1⟩ := I.base.there b o e hx
      exact ⟨o', (hs.2 b (Nat.ne_of_lt (Nat.lt_of_lt_of_le (Heap.lt_size e) I.ok.above))).trans e1⟩
    · by_cases hj : j = i
      · subst hj
        rw [hi] at e1; cases e1
        rw [List.getElem?_set_self hiσ] at e2
        cases e2
        exact ⟨u, r, .inl ⟨hk, by simp⟩⟩
      · rw [List.getElem?_set_ne (Ne.symm hj)] at e2
        obtain ⟨u', r', q⟩ := hl j y v' e1 e2 e3
        refine ⟨u', r', ?_⟩
        rcases q with ⟨k, e⟩ | ⟨k, c, e, z⟩
        · refine .inl ⟨k, ?_⟩
          have : y ≠ x := fun e => hj (nodup_ix hN e1 (e ▸ hi))
          simp [this, e]
        · exact .inr ⟨k, c, e, z.sameBut hs (cne y c e)⟩
    · obtain ⟨w', z⟩ := I.cell y c e
      exact ⟨w', z.sameBut hs (cne y c e)⟩
    · obtain ⟨e, n, ne, nf, d⟩ := I.pin p hp
      exact ⟨(hs.2 p.1 ne).trans e, n, ne, nf, d⟩
  · have hfn : X.fn x = true := by
      rcases hf with z | z
      · exact z
      · rw [z] at hk; cases hk
    obtain ⟨c, hc⟩ := I.ok.has x (.inl hk)
    obtain ⟨w', z⟩ := I.cell x c hc
    refine wpAny_storeName_cell I.ok.kind hk hc z (fun h' hc' hs => ?_)
    obtain ⟨oc, hoc, hocd⟩ := id z
    refine h { s with heap := h' } ⟨I.ok, I.os, I.bare, ⟨fun b o e n hb hx => ?_, fun b o e n hb hx => ?_, I.base.free, fun b o e hx => ?_, I.base.tups, I.base.frzs, I.base.tbls⟩, ⟨m, hn.sameBut hs (Ne.symm (cne x c hc)), fun j y v' e1 e2 e3 => ?_⟩, fun y c' e => ?_, I.free, I.freeC, fun p hp => ?_, tracked ⟨oc, hoc, I.freeC x c hc⟩ hs, by simpa using I.len⟩ ⟨c, hs, .inr hc⟩
    · exact (hs.2 b (Nat.ne_of_lt (Nat.lt_of_lt_of_le (Heap.lt_size e) (I.ok.cab x c hfn hc)))).trans (I.base.keep b o e n hb hx)
    · obtain ⟨sl, e1⟩ := I.base.slot b o e n hb hx
      exact ⟨sl, (hs.2 b (Nat.ne_of_lt (Nat.lt_of_lt_of_le (Heap.lt_size e) (I.ok.cab x c hfn hc)))).trans e1⟩
    · obtain ⟨o', e1⟩ := I.base.there b o e hx
      exact ⟨o', (hs.2 b (Nat.ne_of_lt (Nat.lt_of_lt_of_le (Heap.lt_size e) (I.ok.cab x c hfn hc)))).trans e1⟩
    · by_cases hj : j = i
      · subst hj
        rw [hi] at e1; cases e1
        rw [List.getElem?_set_self hiσ] at e2
        cases e2
        exact ⟨u, r, .inr ⟨.inl hk, c, hc, hc'⟩⟩
      · rw [List.getElem?_set_ne (Ne.symm hj)] at e2
        obtain ⟨u', r', q⟩ := hl j y v' e1 e2 e3
        refine ⟨u', r', ?_⟩
        rcases q with q | ⟨k, c', e, z'⟩
        · exact .inl q
        · refine .inr ⟨k, c', e, z'.sameBut hs ?_⟩
          rintro rfl
          exact hj (nodup_ix hN e1 (I.ok.inj _ _ _ e hc ▸ hi))
    · by_cases hcc : c' = c
      · subst hcc; exact ⟨_, hc'⟩
      · obtain ⟨w2, z2⟩ := I.cell y c' e
        exact ⟨w2, z2.sameBut hs hcc⟩
    · obtain ⟨e, n, ne, nf, d⟩ := I.pin p hp
      refine ⟨(hs.2 p.1 ?_).trans e, n, ne, nf, d⟩
      intro q
      rw [q, hoc] at e
      have q' : oc = p.2 := Option.some.inj e
      exact d w' (by rw [← q']; exact hocd)
theorem store_ok {M : Model} {A : Around} {E : Value → Shared → Prop} {i : Nat} {x : Str} {v : V} {u : Value} {Q : Unit → Shared → Prop} (I : Inv X pins σ H s) (hN : X.N.Nodup) (hi : X.N[i]? = some x) (hx : Loc X.env.scope x) (r : RelV v u)
    (h : ∀ s', Inv X pins (σ.set i (some v)) H s' → Q () s') (hf : X.fn x = true ∨ X.env.scope.names.lookup x = some .local := by first | exact .inl rfl | exact .inr rfl | assumption) : wpAny M A (storeName X.env x u) Q E s :=
  store_ok2 I hN hi hx r (fun s' I' _ => h s' I') hf
/-- behind a call or a block, the state as it is -/
theorem Inv.call' {s' : Shared} {ch : List Addr} (I : Inv X pins σ H s) (ho : s'.os = s.os) (u : Un (frs X.stack) ch H H' s.heap s'.heap) (hok : HOk X.prog X.w H' s'.heap) (hg : AllBare s'.gens)
    (hch : ∀ b ∈ ch, (b ∈ X.ex ∨ X.s₀.heap.objs.size ≤ b) ∧ b ≠ X.env.locals ∧ (∀ x c, X.env.cells.lookup x = some c → c ≠ b) ∧ ∀ p ∈ X.pn ++ pins, p.1 ≠ b) : Inv X pins σ H' s' := by
  obtain ⟨h', g', d', t', o'⟩ := s'
  have e : o' = s.os := ho
  subst e
  exact I.call (g' := g') (t' := t') (d' := d') u hok hg hch
end

/-! ### the judgements -/
/-- an exception: its class, its own dict's address (where it has one), the abstract heap behind it -/
abbrev XK := Value → Option Addr → Hp → Prop
abbrev St := List (Option V)
abbrev VK := V → Hp → Prop
/-- an expression's reading; a test's; an argument list's -/
abbrev TE := St → Hp → VK → Prop
abbrev TT := St → Hp → (Bool → Hp → Prop) → Prop
abbrev TA := St → Hp → (List V → Hp → Prop) → Prop
/-- what is wanted behind a statement -/
structure Ends where
  nx : St → Hp → Prop
  rt : VK
  bk : St → Hp → Prop := fun _ _ => False
  ct : St → Hp → Prop := fun _ _ => False
abbrev TS := Ends → St → Hp → Prop

def EP (X : Cx) (pins : List (Addr × Obj)) (σ : St) (Q : VK) (u : Value) (s' : Shared) : Prop := ∃ v H', Inv X pins σ H' s' ∧ RelV v u ∧ Q v H'
def TP (X : Cx) (pins : List (Addr × Obj)) (σ : St) (Q : Bool → Hp → Prop) (b : Bool) (s' : Shared) : Prop := ∃ H', Inv X pins σ H' s' ∧ Q b H'
def AP (X : Cx) (pins : List (Addr × Obj)) (σ : St) (Q : List V → Hp → Prop) (us : List Value) (s' : Shared) : Prop := ∃ vs H', Inv X pins σ H' s' ∧ Vals vs us ∧ Q vs H'
def SP (X : Cx) (pins : List (Addr × Obj)) (D : Ends) (f : Flow) (s' : Shared) : Prop :=
  match f with
  | .next => ∃ σ' H', Inv X pins σ' H' s' ∧ D.nx σ' H'
  | .brk => ∃ σ' H', Inv X pins σ' H' s' ∧ D.bk σ' H'
  | .cont => ∃ σ' H', Inv X pins σ' H' s' ∧ D.ct σ' H'
  | .ret u => ∃ v σ' H', Inv X pins σ' H' s' ∧ RelV v u ∧ D.rt v H'

def PE (X : Cx) (e : Expr) (t : TE) : Prop :=
  ∀ (pins : List (Addr × Obj)) (s : Shared) (σ : St) (H : Hp) (Q : VK), Inv X pins σ H s → t σ H Q → wpAny (model X.prog X.w) X.A (eval e X.env) (EP X pins σ Q) X.xe s
def PT (X : Cx) (e : Expr) (t : TT) : Prop :=
  ∀ (pins : List (Addr × Obj)) (s : Shared) (σ : St) (H : Hp) (Q : Bool → Hp → Prop), Inv X pins σ H s → t σ H Q → wpAny (model X.prog X.w) X.A (isTrue e X.env (eval e X.env)) (TP X pins σ Q) X.xe s
/-- a test whatever its 'whole' is (and, or) -/
def PW (X : Cx) (e : Expr) (t : TT) : Prop :=
  ∀ (whole : Sem Value) (pins : List (Addr × Obj)) (s : Shared) (σ : St) (H : Hp) (Q : Bool → Hp → Prop), Inv X pins σ H s → t σ H Q → wpAny (model X.prog X.w) X.A (isTrue e X.env whole) (TP X pins σ Q) X.xe s
theorem PW.pt {X : Cx} {e : Expr} {t : TT} (h : PW X e t) : PT X e t := h _
/-- an argument list (no star), from the left -/
def PA (X : Cx) (es : List Expr) (t : TA) : Prop :=
  ∀ (pos : Pos) (pins : List (Addr × Obj)) (s : Shared) (σ : St) (H : Hp) (Q : List V → Hp → Prop), Inv X pins σ H s → t σ H Q → wpAny (model X.prog X.w) X.A (spliced (backTo pos (starEach es X.env))) (AP X pins σ Q) X.xe s
def PS (X : Cx) (st : Stmt) (t : TS) : Prop :=
  ∀ (pins : List (Addr × Obj)) (s : Shared) (σ : St) (H : Hp) (D : Ends), Inv X pins σ H s → t D σ H → wpAny (model X.prog X.w) X.A (exec st X.env) (SP X pins D) X.xe s
def PSs (X : Cx) (st : List Stmt) (t : TS) : Prop :=
  ∀ (pins : List (Addr × Obj)) (s : Shared) (σ : St) (H : Hp) (D : Ends), Inv X pins σ H s → t D σ H → wpAny (model X.prog X.w) X.A (execs st X.env) (SP X pins D) X.xe s
/-- weaken the end -/
theorem thn {α : Type} {t : Sem α} {Q Q' : α → Shared → Prop} {M : Model} {A : Around} {E : Value → Shared → Prop} {s : Shared} (h : wpAny M A t Q E s) (hQ : ∀ a s, Q a s → Q' a s) : wpAny M A t Q' E s := wpAny_mono h hQ fun _ _ x => x
end L2

namespace L2
open PySem PySem.Spec PyProof.Rows
section
variable {X : Cx}

/-! ### names and constants -/
def tVar (i : Nat) : TE := fun σ H Q => ∃ v, σ[i]? = some (some v) ∧ Q v H
def tC (v : V) : TE := fun _ H Q => Q v H
theorem pe_var {i : Nat} {x : Str} {pos : Pos} (hN : X.N[i]? = some x) (hv : Vis X.env.scope x) (hd : (x == ("__debug__" : Str)) = false := by decide) (hcd : (x == ("__classdict__" : Str)) = false := by decide) : PE X (.Name x pos) (tVar i) := by
  intro pins s σ H Q I h
  obtain ⟨v, e, h⟩ := h
  obtain ⟨m, hn, hl⟩ := I.loc
  obtain ⟨u, r, l⟩ := hl i x v hN e hv
  have fin : EP X pins σ Q u s := ⟨v, H, I, r, h⟩
  rcases l with ⟨hk, hm⟩ | ⟨hk, c, hc, hcell⟩
  · exact wpAny_Name (wpAny_loadName_local I.ok.kind hk hn hm fin) hd
  · rcases hk with hk | hk
    · exact wpAny_Name (wpAny_loadName_cell I.ok.kind hk hc hcell fin) hd
    · exact wpAny_Name (wpAny_loadName_free I.ok.kind hk hc hcell fin hcd) hd
theorem pe_int {i j pos} : PE X (.Constant (.int i) j pos) (tC (.int i)) := fun _ _ _ H _ I h => wpAny_Constant_int ⟨.int i, H, I.tok _, ⟨_, rfl⟩, h⟩
theorem pe_bl {b j pos} : PE X (.Constant (.bool b) j pos) (tC (.bl b)) := fun _ _ _ H _ I h => Constant_bool ⟨.bl b, H, I, rfl, h⟩
theorem pe_non {j pos} : PE X (.Constant .none j pos) (tC .non) := fun _ _ _ H _ I h => Constant_none ⟨.non, H, I, rfl, h⟩
/-- a global name of the def -/
def Gl (X : Cx) (x : Str) : Prop := X.env.kindOf x = some .globalImplicit
theorem ld_glob {E : Value → Shared → Prop} {pins : List (Addr × Obj)} {s : Shared} {σ : St} {H : Hp} {x : Str} {u : Value} {pos : Pos} {Q : Value → Shared → Prop} (I : Inv X pins σ H s) (hg : Gl X x) (hm : X.mg x = some u) (h : Q u s)
    (hd : (x == ("__debug__" : Str)) = false := by decide) : wpAny (model X.prog X.w) X.A (eval (.Name x pos) X.env) Q E s :=
  Calls.Name_function_global I.ok.kind hg (Calls.loadGlobal_global (by rw [I.ok.glob]; exact I.mod.glob.keeps I.bk) hm h) hd
theorem ld_blt {E : Value → Shared → Prop} {pins : List (Addr × Obj)} {s : Shared} {σ : St} {H : Hp} {x : Str} {u : Value} {pos : Pos} {Q : Value → Shared → Prop} (I : Inv X pins σ H s) (hg : Gl X x) (hm : X.mg x = none) (hv : bootBuiltins x = some u) (h : Q u s)
    (hn : x ≠ "__name__" := by decide) (hd : (x == ("__debug__" : Str)) = false := by decide) : wpAny (model X.prog X.w) X.A (eval (.Name x pos) X.env) Q E s := by
  obtain ⟨mb, h1, h2⟩ := I.mod.blt
  exact Calls.Name_function_global I.ok.kind hg (Calls.loadGlobal_builtin (by rw [I.ok.glob]; exact I.mod.glob.keeps I.bk) hm (by rw [I.ok.blt]; exact h1.keeps I.bk) ((h2 x hn).trans hv) h) hd
/-! ### arithmetic -/
variable {a b : Expr} {ta tb : TE} {pos : Pos}
/-! ### comparisons -/
/-! ### and, or, not -/
variable {tA tB' : TT} {rest : List Expr}
def tAnd (t u : TT) : TT := fun σ H Q => t σ H fun c H1 => if c = true then u σ H1 Q else Q false H1
def tOr (t u : TT) : TT := fun σ H Q => t σ H fun c H1 => if c = true then Q true H1 else u σ H1 Q
def tNot (t : TT) : TT := fun σ H Q => t σ H fun c H1 => Q (!c) H1
theorem pw_and1 (ha : PT X a tA) : PW X (.BoolOp .And [a] pos) tA := by
  intro wh pins s σ H Q I h
  refine isTrue_and (thn (ha pins s σ H Q I h) fun c s1 e => ?_)
  cases c with
  | true => exact isTrue_and_nil e
  | false => exact e
theorem pw_or1 (ha : PT X a tA) : PW X (.BoolOp .Or [a] pos) tA := by
  intro wh pins s σ H Q I h
  refine isTrue_or (thn (ha pins s σ H Q I h) fun c s1 e => ?_)
  cases c with
  | false => exact isTrue_or_nil e
  | true => exact e
theorem pw_and (ha : PT X a tA) (hb : PW X (.BoolOp .And (b :: rest) pos) tB') : PW X (.BoolOp .And (a :: b :: rest) pos) (tAnd tA tB') := by
  intro wh pins s σ H Q I h
  refine isTrue_and (thn (ha pins s σ H _ I h) fun c s1 ⟨H1, I1, q1⟩ => ?_)
  cases c with
  | true => exact hb wh pins s1 σ H1 Q I1 q1
  | false => exact ⟨H1, I1, q1⟩
theorem pw_or (ha : PT X a tA) (hb : PW X (.BoolOp .Or (b :: rest) pos) tB') : PW X (.BoolOp .Or (a :: b :: rest) pos) (tOr tA tB') := by
  intro wh pins s σ H Q I h
  refine isTrue_or (thn (ha pins s σ H _ I h) fun c s1 ⟨H1, I1, q1⟩ => ?_)
  cases c with
  | true => exact ⟨H1, I1, q1⟩
  | false => exact hb wh pins s1 σ H1 Q I1 q1
theorem pt_not (ha : PT X a tA) : PT X (.UnaryOp .Not a pos) (tNot tA) := by
  intro pins s σ H Q I h
  exact isTrue_not (ha pins s σ H (fun c H1 => Q (!c) H1) I h)
/-- .. as values (bools) -/
def tAndV (ta tb : TE) : TE := fun σ H Q => ta σ H fun x H1 => ∃ c, x = .bl c ∧ if c = true then tb σ H1 Q else Q (.bl false) H1
def tOrV (ta tb : TE) : TE := fun σ H Q => ta σ H fun x H1 => ∃ c, x = .bl c ∧ if c = true then Q (.bl true) H1 else tb σ H1 Q
theorem pe_one {op} {t : TE} (h : PE X a t) : PE X (.BoolOp op [a] pos) t := fun pins s σ H Q I hw => BoolOp_one (h pins s σ H Q I hw)
theorem pe_and (ha : PE X a ta) (hb : PE X (.BoolOp .And (b :: rest) pos) tb) : PE X (.BoolOp .And (a :: b :: rest) pos) (tAndV ta tb) := by
  intro pins s σ H Q I h
  refine BoolOp_and (thn (ha pins s σ H _ I h) fun v s1 ⟨x, H1, I1, r1, q1⟩ => ?_)
  obtain ⟨c, rfl, q1⟩ := q1
  cases r1
  refine wpAny_truthy_bool ?_
  cases c with
  | true => exact hb pins s1 σ H1 Q I1 q1
  | false => exact ⟨.bl false, H1, I1, rfl, q1⟩
theorem pe_or (ha : PE X a ta) (hb : PE X (.BoolOp .Or (b :: rest) pos) tb) : PE X (.BoolOp .Or (a :: b :: rest) pos) (tOrV ta tb) := by
  intro pins s σ H Q I h
  refine BoolOp_or (thn (ha pins s σ H _ I h) fun v s1 ⟨x, H1, I1, r1, q1⟩ => ?_)
  obtain ⟨c, rfl, q1⟩ := q1
  cases r1
  refine wpAny_truthy_bool ?_
  cases c with
  | false => exact hb pins s1 σ H1 Q I1 q1
  | true => exact ⟨.bl true, H1, I1, rfl, q1⟩
end
end L2

namespace L2
open PySem PySem.Spec PyProof.Rows

/-! ### a list, a tuple that is read: tracked, frozen, or an object of the module -/
def SqL (K : PySem.W.Frag) (H : Hp) (a : Addr) (xs : List V) : Prop :=
  Rd H a (.lst xs) ∨
    ∃ (o : Obj) (its : Array Value) (n : Nat), K.lookup a = some o ∧ o.cls = .type "list" ∧ o.dict = none ∧ o.data = .seq its n ∧ its.size ≤ sizeLine ∧ Vals xs its.toList
def SqT (K : PySem.W.Frag) (H : Hp) (a : Addr) (xs : List V) : Prop :=
  Rd H a (.tup xs) ∨
    ∃ (o : Obj) (its : Array Value) (n : Nat), K.lookup a = some o ∧ o.cls = .type "tuple" ∧ o.data = .seq its n ∧ its.size ≤ sizeLine ∧ Vals xs its.toList
def absV : Value → Option V
  | .none => some .non
  | .bool b => some (.bl b)
  | .int i _ => some (.int i)
  | .str x _ => some (.str x)
  | .bytes b _ => some (.byt b)
  | .float b _ => some (.flt b)
  | .ref a => some (.ref a)
  | .type n => some (.ty n)
  | _ => none
theorem RelV.abs {x : V} {u : Value} (r : RelV x u) : absV u = some x := by
  cases x with
  | non => cases r; rfl
  | bl _ => cases r; rfl
  | int _ => obtain ⟨t, rfl⟩ := r; rfl
  | str _ => obtain ⟨t, rfl⟩ := r; rfl
  | byt _ => obtain ⟨t, rfl⟩ := r; rfl
  | flt _ => obtain ⟨t, rfl⟩ := r; rfl
  | ref _ => cases r; rfl
  | ty _ => cases r; rfl
theorem RelV.inj {x y : V} {u : Value} (r : RelV x u) (q : RelV y u) : x = y := Option.some.inj (r.abs.symm.trans q.abs)
theorem Vals.inj : ∀ {xs ys : List V} {us : List Value}, Vals xs us → Vals ys us → xs = ys
  | _, _, _, .nil, .nil => rfl
  | _, _, _, .cons r t, .cons r' t' => by rw [r.inj r', Vals.inj t t']
section
variable {X : Cx} {pins : List (Addr × Obj)} {σ : St} {H : Hp} {s : Shared} {a : Addr} {xs ys : List V}
theorem SqL.of {K : PySem.W.Frag} (h : H a = some (.lst xs)) : SqL K H a xs := .inl (.inl h)
theorem SqT.of {K : PySem.W.Frag} (h : H a = some (.tup xs)) : SqT K H a xs := .inl (.inl h)
theorem Inv.list (I : Inv X pins σ H s) (h : SqL X.K H a xs) : ∃ its : List Value, Vals xs its ∧ PlainL s.heap a its.toArray ∧ xs.length ≤ sizeLine := by
  rcases h with h | ⟨o, its, n, hk, hc, hd, hs, hz, r⟩
  · obtain ⟨z, its, n, r, e⟩ := h.ok I.hok
    exact ⟨its, r, ⟨_, n, e, rfl, rfl, rfl⟩, z⟩
  · refine ⟨its.toList, r, ⟨o, n, I.kIn a o hk, hc, hd, by simpa using hs⟩, ?_⟩
    have e := r.length
    simp only [Array.length_toList] at e
    omega
theorem Inv.tuple (I : Inv X pins σ H s) (h : SqT X.K H a xs) : ∃ its : List Value, Vals xs its ∧ IsTup s.heap a its.toArray ∧ xs.length ≤ sizeLine := by
  rcases h with h | ⟨o, its, n, hk, hc, hs, hz, r⟩
  · obtain ⟨z, its, r, p⟩ := h.ok I.hok
    exact ⟨its, r, p, z⟩
  · refine ⟨its.toList, r, ⟨o, I.kIn a o hk, hc, n, by simpa using hs⟩, ?_⟩
    have e := r.length
    simp only [Array.length_toList] at e
    omega
theorem Inv.list_inj (I : Inv X pins σ H s) (h : SqL X.K H a xs) (h' : SqL X.K H a ys) : xs = ys := by
  obtain ⟨its, r, ⟨o, n, e, _, _, d⟩, _⟩ := I.list h
  obtain ⟨its', r', ⟨o', n', e', _, _, d'⟩, _⟩ := I.list h'
  rw [e] at e'; cases e'
  rw [d] at d'
  injection d' with d1 _
  have : its = its' := by simpa using congrArg Array.toList d1
  subst this
  exact r.inj r'
theorem Inv.tuple_inj (I : Inv X pins σ H s) (h : SqT X.K H a xs) (h' : SqT X.K H a ys) : xs = ys := by
  obtain ⟨its, r, ⟨o, e, _, n, d⟩, _⟩ := I.tuple h
  obtain ⟨its', r', ⟨o', e', _, n', d'⟩, _⟩ := I.tuple h'
  rw [e] at e'; cases e'
  rw [d] at d'
  injection d' with d1 _
  have : its = its' := by simpa using congrArg Array.toList d1
  subst this
  exact r.inj r'
end

/-! ### another wish about exceptions -/
abbrev Cx.wish (X : Cx) (E : Value → Shared → Prop) : Cx := { X with xe := E }
/-- no exception leaves -/
abbrev Cx.nox (X : Cx) : Cx := X.wish fun _ _ => False
theorem Cx.Ok.wish {X : Cx} (ok : X.Ok) (E : Value → Shared → Prop) : (X.wish E).Ok :=
  ⟨ok.mod, ok.kind, ok.glob, ok.blt, ok.above, ok.inj, ok.has, ok.cab, ok.hd, ok.frames, ok.stk, ok.exf, ok.bs, ok.bsz, ok.noex, ok.exfs, ok.funs, ok.frf⟩
theorem Cx.Ok.unwish {X : Cx} {E : Value → Shared → Prop} (ok : (X.wish E).Ok) : X.Ok :=
  ⟨ok.mod, ok.kind, ok.glob, ok.blt, ok.above, ok.inj, ok.has, ok.cab, ok.hd, ok.frames, ok.stk, ok.exf, ok.bs, ok.bsz, ok.noex, ok.exfs, ok.funs, ok.frf⟩
section
variable {X : Cx} {pins : List (Addr × Obj)} {σ : St} {H : Hp} {s : Shared} {E : Value → Shared → Prop}
theorem Inv.wish (I : Inv X pins σ H s) (E : Value → Shared → Prop) : Inv (X.wish E) pins σ H s := ⟨I.ok.wish E, I.os, I.bare, I.base, I.loc, I.cell, I.free, I.freeC, I.pin, I.hok, I.len⟩
theorem Inv.unwish (I : Inv (X.wish E) pins σ H s) : Inv X pins σ H s := ⟨I.ok.unwish, I.os, I.bare, I.base, I.loc, I.cell, I.free, I.freeC, I.pin, I.hok, I.len⟩
theorem SP.unwish {D : Ends} {f : Flow} {s' : Shared} (h : SP (X.wish E) pins D f s') : SP X pins D f s' := by
  cases f with
  | next => obtain ⟨σ', H', I, q⟩ := h; exact ⟨σ', H', I.unwish, q⟩
  | brk => obtain ⟨σ', H', I, q⟩ := h; exact ⟨σ', H', I.unwish, q⟩
  | cont => obtain ⟨σ', H', I, q⟩ := h; exact ⟨σ', H', I.unwish, q⟩
  | ret u => obtain ⟨v, σ', H', I, r, q⟩ := h; exact ⟨v, σ', H', I.unwish, r, q⟩
theorem PE.nox {e : Expr} {t : TE} (h : PE X.nox e t) : PE X e t := fun pins s σ H Q I hw =>
  wpAny_mono (h pins s σ H Q (I.wish _) hw) (fun _ _ ⟨v, H', I', r, q⟩ => ⟨v, H', I'.unwish, r, q⟩) fun _ _ z => False.elim z
theorem PT.nox {e : Expr} {t : TT} (h : PT X.nox e t) : PT X e t := fun pins s σ H Q I hw =>
  wpAny_mono (h pins s σ H Q (I.wish _) hw) (fun _ _ ⟨H', I', q⟩ => ⟨H', I'.unwish, q⟩) fun _ _ z => False.elim z
theorem PSs.nox {st : List Stmt} {t : TS} (h : PSs X.nox st t) : PSs X st t := fun pins s σ H D I hw =>
  wpAny_mono (h pins s σ H D (I.wish _) hw) (fun _ _ q => q.unwish) fun _ _ z => False.elim z
end

/-! ### blocks and small statements -/
section
variable {X : Cx} {st : Stmt} {rest : List Stmt} {t u : TS} {e : Expr} {te : TE} {pos : Pos}
def tNext : TS := fun D σ H => D.nx σ H
def tSeq (t u : TS) : TS := fun D σ H => t { D with nx := u D } σ H
theorem pss_nil : PSs X [] tNext := fun _ _ σ H _ I h => wpAny_execs_nil ⟨σ, H, I, h⟩
theorem pss_cons (h1 : PS X st t) (h2 : PSs X rest u) : PSs X (st :: rest) (tSeq t u) := by
  intro pins s σ H D I h
  refine wpAny_execs_cons (thn (h1 pins s σ H { D with nx := u D } I h) fun f s1 q => ?_)
  cases f with
  | next =>
    obtain ⟨σ', H', I', q⟩ := q
    exact h2 pins s1 σ' H' D I' q
  | ret v => exact q
  | brk => exact q
  | cont => exact q
theorem pss_one (h1 : PS X st t) : PSs X [st] t := by
  intro pins s σ H D I h
  refine wpAny_execs_cons (thn (h1 pins s σ H D I h) fun f s1 q => ?_)
  cases f with
  | next => exact wpAny_execs_nil q
  | ret v => exact q
  | brk => exact q
  | cont => exact q
/-- in a def's body nothing is shown -/
theorem Inv.quiet {pins : List (Addr × Obj)} {σ : St} {H : Hp} {s : Shared} (I : Inv X pins σ H s) : interactive X.env = false := by simp [interactive, I.ok.kind]
/-- an expression whose value is dropped -/
def tDrop (te : TE) : TS := fun D σ H => te σ H fun _ H1 => D.nx σ H1
theorem ps_expr (he : PE X e te) (hs : swapsWith e none pos.line X.env = pure false := by rfl) : PS X (.Expr e pos) (tDrop te) := by
  intro pins s σ H D I h
  exact wpAny_Expr_any (thn (he pins s σ H _ I h) fun v s1 ⟨x, H1, I1, r1, q1⟩ => ⟨σ, H1, I1, q1⟩) I.quiet hs
def tRet (te : TE) : TS := fun D σ H => te σ H D.rt
theorem ps_ret (he : PE X e te) : PS X (.Return (some e) pos) (tRet te) := by
  intro pins s σ H D I h
  exact wpAny_Return_some (thn (he pins s σ H _ I h) fun v s1 ⟨x, H1, I1, r1, q1⟩ => ⟨x, σ, H1, I1, r1, q1⟩)
def tIfS (c : TT) (t u : TS) : TS := fun D σ H => c σ H fun b H1 => if b = true then t D σ H1 else u D σ H1
theorem ps_if {c : Expr} {a b : List Stmt} {tc : TT} (hc : PT X c tc) (ha : PSs X a t) (hb : PSs X b u) : PS X (.If c a b pos) (tIfS tc t u) := by
  intro pins s σ H D I h
  refine wpAny_If (thn (hc pins s σ H _ I h) fun d s1 ⟨H1, I1, q1⟩ => ?_)
  cases d with
  | true => exact ha pins s1 σ H1 D I1 q1
  | false => exact hb pins s1 σ H1 D I1 q1
end

/-! ### targets -/
abbrev TG := V → St → Hp → (St → Hp → Prop) → Prop
abbrev TGs := List V → St → Hp → (St → Hp → Prop) → Prop
def PG (X : Cx) (target : Expr) (t : TG) : Prop :=
  ∀ (pins : List (Addr × Obj)) (s : Shared) (σ : St) (H : Hp) (v : V) (u : Value) (Q : St → Hp → Prop), Inv X pins σ H s → RelV v u → t v σ H Q →
    wpAny (model X.prog X.w) X.A (assign target X.env u) (fun _ s' => ∃ σ' H', Inv X pins σ' H' s' ∧ Q σ' H') X.xe s
/-- several targets, one after another -/
def PGs (X : Cx) (ts : List Expr) (t : TGs) : Prop :=
  ∀ (pins : List (Addr × Obj)) (s : Shared) (σ : St) (H : Hp) (vs : List V) (us : List Value) (Q : St → Hp → Prop), Inv X pins σ H s → Vals vs us → t vs σ H Q →
    wpAny (model X.prog X.w) X.A (assignInOrder ((assignEach ts X.env).map (·.2)) us) (fun _ s' => ∃ σ' H', Inv X pins σ' H' s' ∧ Q σ' H') X.xe s
section
variable {X : Cx} {pos : Pos}
def gName (i : Nat) : TG := fun v σ H Q => Q (σ.set i (some v)) H
theorem pg_name {i : Nat} {x : Str} (hN : X.N.Nodup) (hi : X.N[i]? = some x) (hx : Loc X.env.scope x) (hf : X.fn x = true ∨ X.env.scope.names.lookup x = some .local := by first | exact .inl rfl | exact .inr rfl | assumption) : PG X (.Name x pos) (gName i) := by
  intro pins s σ H v u Q I r h
  exact wpAny_assign_Name (store_ok I hN hi hx r (fun s' I' => ⟨_, H, I', h⟩) hf)
def gNil : TGs := fun vs σ H Q => vs = [] ∧ Q σ H
def gCons (t : TG) (u : TGs) : TGs := fun vs σ H Q => ∃ v r, vs = v :: r ∧ t v σ H fun σ' H' => u r σ' H' Q
theorem pgs_nil : PGs X [] gNil := by
  intro pins s σ H vs us Q I r h
  obtain ⟨e, h⟩ := h
  subst e
  cases r
  exact assignInOrder_nil ⟨σ, H, I, h⟩
theorem pgs_cons {e : Expr} {es : List Expr} {t : TG} {u : TGs} (h1 : PG X e t) (h2 : PGs X es u)
    (hs : (assignEach (e :: es) X.env).map (·.2) = assign e X.env :: (assignEach es X.env).map (·.2) := by rfl) : PGs X (e :: es) (gCons t u) := by
  intro pins s σ H vs us Q I r h
  obtain ⟨v, vr, e1, h⟩ := h
  subst e1
  cases r with
  | cons r rr =>
    rw [hs]
    refine assignInOrder_cons (thn (h1 pins s σ H _ _ _ I r h) fun _ s1 ⟨σ1, H1, I1, q1⟩ => ?_)
    exact h2 pins s1 σ1 H1 _ _ Q I1 rr q1
/-- (a, b, ..) = a tuple of that length -/
def gTup (K : PySem.W.Frag) (n : Nat) (t : TGs) : TG := fun v σ H Q => ∃ a xs, v = .ref a ∧ SqT K H a xs ∧ xs.length = n ∧ t xs σ H Q
theorem pg_tup {es : List Expr} {k : Nat} {t : TGs} {n : Nat} (hc : X.calm = true) (h : PGs X es t)
    (hn : (assignEach es X.env).length = n := by rfl) (hst : (assignEach es X.env).findIdx? (·.1) = none := by rfl) : PG X (.Tuple es k pos) (gTup X.K n t) := by
  intro pins s σ H v u Q I r hw
  obtain ⟨a, xs, e1, hq, hl, hw⟩ := hw
  subst e1
  cases r
  obtain ⟨its, rv, ht, hz⟩ := I.tuple hq
  refine assign_Tuple_tuple (I.ok.hd hc) ht (by simp [hn, ← hl, rv.length]) hst fun h' hx => ?_
  have I1 : Inv X pins σ H { s with heap := h' } := I.kept (t' := s.toks) fun b o e => hx b o (Nat.ne_of_lt (Heap.lt_size e)) e
  exact h pins _ σ H xs _ Q I1 (by simpa using rv) hw
/-- target = value -/
def tAsg (te : TE) (g : TG) : TS := fun D σ H => te σ H fun x H1 => g x σ H1 D.nx
theorem ps_asg {tg e : Expr} {te : TE} {g : TG} (he : PE X e te) (hg : PG X tg g) (hs : swapsWithSole [tg] e pos.line X.env = pure false := by rfl) (hw : swappedStores [tg] e X.env = pure none := by rfl)
    (h1 : (assignEach [tg] X.env).map (·.2) = [assign tg X.env] := by rfl) : PS X (.Assign [tg] e pos) (tAsg te g) := by
  intro pins s σ H D I h
  refine wpAny_Assign_stores (thn (he pins s σ H _ I h) fun v s1 ⟨x, H1, I1, r1, q1⟩ => ?_) hs hw
  rw [h1]
  exact thn (hg pins s1 σ H1 x v _ I1 r1 q1) fun _ s2 q => q
/-- name = value -/
theorem ps_set {i : Nat} {x : Str} {e : Expr} {te : TE} {pos' : Pos} (hN : X.N.Nodup) (hi : X.N[i]? = some x) (hx : Loc X.env.scope x) (he : PE X e te) (hs : swapsWith e (some (.Name x pos')) pos.line X.env = pure false := by rfl) (hf : X.fn x = true ∨ X.env.scope.names.lookup x = some .local := by first | exact .inl rfl | exact .inr rfl | assumption) :
    PS X (.Assign [.Name x pos'] e pos) (tAsg te (gName i)) := by
  intro pins s σ H D I h
  refine wpAny_Assign_Name (thn (he pins s σ H _ I h) fun v s1 ⟨y, H1, I1, r1, q1⟩ => ?_) hs
  exact store_ok I1 hN hi hx r1 (fun s2 I2 => ⟨_, H1, I2, q1⟩) hf
end

/-! ### while -/
section
variable {X : Cx} {pos : Pos}
end

/-! ### what a loop or a comprehension walks -/
/-- at turn i: it yields x (the heap may grow), or it stops -/
structure It where
  go : Nat → Hp → Prop
  yld : Nat → Hp → V → Hp → Prop
  stop : Nat → Hp → Prop
/-- the iterator's own objects may turn: they are not the frame's, not pinned, younger than the entry (or a comprehension's own) -/
def FpOk (X : Cx) (pins : List (Addr × Obj)) (H : Hp) (b : Addr) : Prop :=
  H b = none ∧ b ≠ X.env.locals ∧ b ∉ X.fs ∧ (b ∈ X.ex ∨ X.s₀.heap.objs.size ≤ b) ∧ (∀ x c, X.env.cells.lookup x = some c → c ≠ b) ∧ ∀ p ∈ X.pn ++ pins, p.1 ≠ b
theorem Inv.fpOk {X : Cx} {pins : List (Addr × Obj)} {σ : St} {H H' : Hp} {s : Shared} {b : Addr} (I : Inv X pins σ H s) (hb : s.heap.objs.size ≤ b) (hn : H' b = none) : FpOk X pins H' b := by
  refine ⟨hn, Nat.ne_of_gt (Nat.lt_of_lt_of_le I.lt hb), I.nofs hb, .inr (Nat.le_trans I.sz hb), fun x c e z => ?_, fun p hp z => ?_⟩
  · obtain ⟨v, q⟩ := I.cell x c e
    exact absurd (Nat.lt_of_lt_of_le q.lt (by rw [z]; exact hb)) (Nat.lt_irrefl _)
  · exact absurd (Nat.lt_of_lt_of_le (Heap.lt_size (I.pin p hp).1) (by rw [z]; exact hb)) (Nat.lt_irrefl _)
structure Turn (P : Program) (w : World) (K : PySem.W.Frag) (tg : Expr) (J : It) (fp : List Addr) (it : Addr) (tn : Nat → Heap → Prop) : Prop where
  mem : it ∈ fp
  obj : ∀ i h, tn i h → ∀ b ∈ fp, ∃ o, h.get? b = some o ∧ ∀ v, o.data ≠ .cell v
  keep : ∀ i h h', tn i h → (∀ b ∈ fp, ∀ o, h.get? b = some o → h'.get? b = some o) → tn i h'
  item : ∀ (X : Cx), X.prog = P → X.w = w → X.K = K → X.calm = true → ∀ (i : Nat) (pins : List (Addr × Obj)) (s : Shared) (σ : St) (H : Hp) (E : Value → Shared → Prop), Inv X pins σ H s → (∀ b ∈ fp, FpOk X pins H b) → tn i s.heap → J.go i H →
    wpAny (model P w) X.A (pyNext (.ref it)) (fun r s1 => ∃ u, r = some u ∧
      wpAny (model P w) X.A (letOwnedTupleGo tg (.ref it) u) (fun _ s2 => ∃ x H', Inv X pins σ H' s2 ∧ RelV x u ∧ J.yld i H x H' ∧ tn (i + 1) s2.heap ∧ ∀ b ∈ fp, H' b = none) E s1) E s
  done : ∀ (X : Cx), X.prog = P → X.w = w → X.K = K → X.calm = true → ∀ (i : Nat) (pins : List (Addr × Obj)) (s : Shared) (σ : St) (H : Hp) (E : Value → Shared → Prop), Inv X pins σ H s → (∀ b ∈ fp, FpOk X pins H b) → tn i s.heap → J.stop i H →
    wpAny (model P w) X.A (pyNext (.ref it)) (fun r s1 => r = none ∧ Inv X pins σ H s1) E s
  self : ∀ (A : Around) (i : Nat) (s : Shared) (Q : Value → Shared → Prop) (E : Value → Shared → Prop), tn i s.heap → Q (.ref it) s → wpAny (model P w) A (pyIter (.ref it)) Q E s
abbrev TI := St → Hp → (It → Hp → Prop) → Prop
/-- an iterator has come -/
def PIE (X : Cx) (pins : List (Addr × Obj)) (σ : St) (tg : Expr) (R : It → Hp → Prop) (itv : Value) (s2 : Shared) : Prop :=
  ∃ (it : Addr) (fp : List Addr) (tn : Nat → Heap → Prop) (J : It) (H' : Hp), itv = .ref it ∧ Inv X pins σ H' s2 ∧ Turn X.prog X.w X.K tg J fp it tn ∧ tn 0 s2.heap ∧ (∀ b ∈ fp, FpOk X pins H' b) ∧ R J H'
def PI (X : Cx) (tg iter : Expr) (wi : TI) : Prop :=
  ∀ (pins : List (Addr × Obj)) (s : Shared) (σ : St) (H : Hp) (R : It → Hp → Prop), Inv X pins σ H s → wi σ H R →
    wpAny (model X.prog X.w) X.A (eval iter X.env) (fun v s1 => wpAny (model X.prog X.w) X.A (pyIter v) (PIE X pins σ tg R) X.xe s1) X.xe s

/-- the step ahead of the store is nothing for an iterator that keeps no tuple -/
theorem go_of {M : Model} {A : Around} {E : Value → Shared → Prop} {s : Shared} {tg : Expr} {it : Addr} {u : Value} {o : Obj} {n : String} {vs : Array Value} {Q : Unit → Shared → Prop} (ho : s.heap.get? it = some o) (hc : o.cls = .type n) (hd : o.data = .fields vs)
    (hn : ["enumerate", "zip", "dict_itemiterator", "dict_reverseitemiterator", "odict_iterator", "itertools.zip_longest", "itertools.pairwise"].contains n = false) (hQ : Q () s) : wpAny M A (letOwnedTupleGo tg (.ref it) u) Q E s := by
  unfold letOwnedTupleGo
  cases tg <;> first
    | exact wpAny_pure hQ
    | (cases u <;> first
        | exact wpAny_pure hQ
        | (refine wpAny_bind (wpAny_load ho ?_)
           rw [hc, hd]
           show wpAny M A (if (["enumerate", "zip", "dict_itemiterator", "dict_reverseitemiterator", "odict_iterator", "itertools.zip_longest", "itertools.pairwise"].contains n && vs[0]? == some (rawInt _)) = true then _ else _) Q E s
           rw [if_neg (by intro h; rw [hn, Bool.false_and] at h; cases h)]
           exact wpAny_pure hQ))

/-- the list at a, as it stands at each turn (a loop may append to it) -/
def Itl (K : PySem.W.Frag) (a : Addr) : It :=
  ⟨fun i H => ∃ xs x, SqL K H a xs ∧ xs[i]? = some x, fun i H x H' => H' = H ∧ ∀ xs, SqL K H a xs → xs[i]? = some x, fun i H => ∃ xs, SqL K H a xs ∧ xs.length ≤ i⟩
def Itt (K : PySem.W.Frag) (a : Addr) : It :=
  ⟨fun i H => ∃ xs x, SqT K H a xs ∧ xs[i]? = some x, fun i H x H' => H' = H ∧ ∀ xs, SqT K H a xs → xs[i]? = some x, fun i H => ∃ xs, SqT K H a xs ∧ xs.length ≤ i⟩
/-- lo, lo + 1, .. (n of them) -/
def Itr (lo : Int) (n : Nat) : It := ⟨fun i _ => i < n, fun i H x H' => H' = H ∧ x = .int (lo + i), fun i _ => n ≤ i⟩
theorem turn_list {P : Program} {w : World} {K : PySem.W.Frag} {tg : Expr} (a it : Addr) : Turn P w K tg (Itl K a) [it] it (fun i h => h.IsListIter it a i) where
  mem := by simp
  obj := fun i h st b hb => by
    have e : b = it := by simpa using hb
    subst e
    obtain ⟨o, e, c, d⟩ := st
    exact ⟨o, e, fun v z => by rw [d] at z; cases z⟩
  keep := fun i h h' st k => st.at fun o e => k it (by simp) o e
  item := by
    intro X hP hw hK hc i pins s σ H E I hf st hg
    subst hP hw hK
    obtain ⟨xs, x, hq, hx⟩ := hg
    obtain ⟨its, rv, p, hz⟩ := I.list hq
    obtain ⟨u, hu, ru⟩ := rv.get hx
    obtain ⟨f0, f1, f2, f3, f4, f5⟩ := hf it (by simp)
    refine wpAny_pyNext_list_item st p.isList (x := u) (by simpa using hu) fun h' st' sb => ?_
    have I1 : Inv X pins σ H { s with heap := h' } := I.turned (t' := s.toks) (fun b o hb e => (sb.2 b hb).trans e) f0 f1 f3 f4 f5
    obtain ⟨o, e, c, d⟩ := id st'
    exact ⟨u, rfl, go_of (s := { s with heap := h' }) e c d (by decide) ⟨x, H, I1, ru, ⟨rfl, fun ys hy => by rw [I.list_inj hy hq]; exact hx⟩, st', fun b hb => (hf b hb).1⟩⟩
  done := by
    intro X hP hw hK hc i pins s σ H E I hf st hg
    subst hP hw hK
    obtain ⟨xs, hq, hx⟩ := hg
    obtain ⟨its, rv, p, hz⟩ := I.list hq
    obtain ⟨f0, f1, f2, f3, f4, f5⟩ := hf it (by simp)
    have hl := rv.length
    exact wpAny_pyNext_list_end (I.ok.hd hc) st p.isList (by simp; omega) fun h' eb => ⟨rfl, I.turned (t' := s.toks) (fun b o hb e => eb b o hb e) f0 f1 f3 f4 f5⟩
  self := fun _ _ _ _ _ st h => wpAny_pyIter_listiter st h
theorem turn_tuple {P : Program} {w : World} {K : PySem.W.Frag} {tg : Expr} (a it : Addr) : Turn P w K tg (Itt K a) [it] it (fun i h => h.IsTupleIter it a i) where
  mem := by simp
  obj := fun i h st b hb => by
    have e : b = it := by simpa using hb
    subst e
    obtain ⟨o, e, c, d⟩ := st
    exact ⟨o, e, fun v z => by rw [d] at z; cases z⟩
  keep := fun i h h' st k => st.at fun o e => k it (by simp) o e
  item := by
    intro X hP hw hK hc i pins s σ H E I hf st hg
    subst hP hw hK
    obtain ⟨xs, x, hq, hx⟩ := hg
    obtain ⟨its, rv, p, hz⟩ := I.tuple hq
    obtain ⟨u, hu, ru⟩ := rv.get hx
    obtain ⟨f0, f1, f2, f3, f4, f5⟩ := hf it (by simp)
    refine wpAny_pyNext_tuple_item st (show s.heap.IsTuple a its.toArray from p) (x := u) (by simpa using hu) fun h' st' sb => ?_
    have I1 : Inv X pins σ H { s with heap := h' } := I.turned (t' := s.toks) (fun b o hb e => (sb.2 b hb).trans e) f0 f1 f3 f4 f5
    obtain ⟨o, e, c, d⟩ := id st'
    exact ⟨u, rfl, go_of (s := { s with heap := h' }) e c d (by decide) ⟨x, H, I1, ru, ⟨rfl, fun ys hy => by rw [I.tuple_inj hy hq]; exact hx⟩, st', fun b hb => (hf b hb).1⟩⟩
  done := by
    intro X hP hw hK hc i pins s σ H E I hf st hg
    subst hP hw hK
    obtain ⟨xs, hq, hx⟩ := hg
    obtain ⟨its, rv, p, hz⟩ := I.tuple hq
    obtain ⟨f0, f1, f2, f3, f4, f5⟩ := hf it (by simp)
    have hl := rv.length
    exact wpAny_pyNext_tuple_end (I.ok.hd hc) st (show s.heap.IsTuple a its.toArray from p) (by simp; omega) fun h' eb => ⟨rfl, I.turned (t' := s.toks) (fun b o hb e => eb b o hb e) f0 f1 f3 f4 f5⟩
  self := fun _ _ _ _ _ st h => wpAny_pyIter_tupleiter st h
theorem turn_range {P : Program} {w : World} {K : PySem.W.Frag} {tg : Expr} (it : Addr) (lo : Int) (n : Nat) : Turn P w K tg (Itr lo n) [it] it (fun i h => IsRangeIter h it (lo + (i : Nat) * 1) ((n : Int) - (i : Nat)) 1) where
  mem := by simp
  obj := fun i h st b hb => by
    have e : b = it := by simpa using hb
    subst e
    exact ⟨_, st, fun v z => by
      have z' : Data.fields _ = Data.cell v := z
      cases z'⟩
  keep := fun i h h' st k => k it (by simp) _ st
  item := by
    intro X hP hw hK hc i pins s σ H E I hf st hg
    subst hP hw hK
    obtain ⟨f0, f1, f2, f3, f4, f5⟩ := hf it (by simp)
    have W := Walks.range (prog := X.prog) (w := X.w) (I.ok.hd hc) it lo 1 n
    refine W.item i s _ _ hg st fun v h' tk hv st' kk => ?_
    obtain ⟨t, rfl⟩ := hv
    have I1 : Inv X pins σ H { s with heap := h', toks := tk } := I.turned (fun b o hb e => kk b o (by simpa using hb) e) f0 f1 f3 f4 f5
    refine ⟨_, rfl, go_of (s := { s with heap := h', toks := tk }) (n := "range_iterator") st' rfl rfl (by decide) ⟨.int (lo + i), H, I1, ⟨t, ?_⟩, ⟨rfl, rfl⟩, st', fun b hb => (hf b hb).1⟩⟩
    rw [Int.mul_one]
  done := by
    intro X hP hw hK hc i pins s σ H E I hf st hg
    subst hP hw hK
    obtain ⟨f0, f1, f2, f3, f4, f5⟩ := hf it (by simp)
    exact wpAny_pyNext_range_end (I.ok.hd hc) st (by have : n ≤ i := hg; omega) fun h' eb => ⟨rfl, I.turned (t' := s.toks) (fun b o hb e => eb b o hb e) f0 f1 f3 f4 f5⟩
  self := fun _ _ _ _ _ st h => wpAny_pyIter_rangeiter st h
end L2

namespace L2
open PySem PySem.Spec PyProof.Rows
section
variable {X : Cx} {tg : Expr}
def iList (K : PySem.W.Frag) (tl : TE) : TI := fun σ H R => tl σ H fun x H1 => ∃ a, x = .ref a ∧ (∃ xs, SqL K H1 a xs) ∧ R (Itl K a) H1
def iTup (K : PySem.W.Frag) (tl : TE) : TI := fun σ H R => tl σ H fun x H1 => ∃ a, x = .ref a ∧ (∃ xs, SqT K H1 a xs) ∧ R (Itt K a) H1
theorem pi_list {l : Expr} {tl : TE} (hl : PE X l tl) : PI X tg l (iList X.K tl) := by
  intro pins s σ H R I h
  refine thn (hl pins s σ H _ I h) fun v s1 ⟨x, H1, I1, r1, q1⟩ => ?_
  obtain ⟨a, e, ⟨xs, hq⟩, q⟩ := q1
  subst e
  cases r1
  obtain ⟨its, rv, p, hz⟩ := I1.list hq
  refine wpAny_pyIter_list p.isList ?_
  refine ⟨s1.heap.objs.size, [s1.heap.objs.size], _, _, H1, rfl, I1.kept (t' := s1.toks) fun b o e => Heap.get?_push_of_some _ e, turn_list a _, ⟨_, Heap.get?_push_size _ rfl, rfl, rfl⟩, fun b hb => ?_, q⟩
  have e : b = s1.heap.objs.size := by simpa using hb
  subst e
  exact I1.fpOk (Nat.le_refl _) (I1.hok.fresh (Nat.le_refl _))
theorem pi_tup {l : Expr} {tl : TE} (hl : PE X l tl) : PI X tg l (iTup X.K tl) := by
  intro pins s σ H R I h
  refine thn (hl pins s σ H _ I h) fun v s1 ⟨x, H1, I1, r1, q1⟩ => ?_
  obtain ⟨a, e, ⟨xs, hq⟩, q⟩ := q1
  subst e
  cases r1
  obtain ⟨its, rv, p, hz⟩ := I1.tuple hq
  refine wpAny_pyIter_tuple (show s1.heap.IsTuple a its.toArray from p) ?_
  refine ⟨s1.heap.objs.size, [s1.heap.objs.size], _, _, H1, rfl, I1.kept (t' := s1.toks) fun b o e => Heap.get?_push_of_some _ e, turn_tuple a _, ⟨_, Heap.get?_push_size _ rfl, rfl, rfl⟩, fun b hb => ?_, q⟩
  have e : b = s1.heap.objs.size := by simpa using hb
  subst e
  exact I1.fpOk (Nat.le_refl _) (I1.hok.fresh (Nat.le_refl _))
/-- a range object just made, walked -/
theorem range_it {pins : List (Addr × Obj)} {σ : St} {H : Hp} {s : Shared} {R : It → Hp → Prop} {E : Value → Shared → Prop} {lo hi : Int} {t u v : Tok} {tk : Nat} (I : Inv X pins σ H s) (h1 : -(2 ^ 62) ≤ lo) (h2 : lo < 2 ^ 62) (h3 : -(2 ^ 62) ≤ hi) (h4 : hi < 2 ^ 62)
    (q : R (Itr lo (hi - lo).toNat) H) : wpAny (model X.prog X.w) X.A (pyIter (.ref s.heap.objs.size)) (PIE X pins σ tg R) E { s with heap := s.heap.push { cls := .type "range", data := .fields #[.int lo t, .int hi u, .int 1 v] }, toks := tk } := by
  refine wpAny_pyIter_range (IsRange.new ..) (small_one h1 h2 h3 h4) ?_
  have I1 : Inv X pins σ H { s with heap := s.heap.push { cls := .type "range", data := .fields #[.int lo t, .int hi u, .int 1 v] }, toks := tk } := I.kept fun b o e => Heap.get?_push_of_some _ e
  refine ⟨(s.heap.push { cls := .type "range", data := .fields #[.int lo t, .int hi u, .int 1 v] }).objs.size, [(s.heap.push { cls := .type "range", data := .fields #[.int lo t, .int hi u, .int 1 v] }).objs.size], _, _, H, rfl,
    I1.kept (t' := tk) fun b o e => Heap.get?_push_of_some _ e, turn_range _ lo (hi - lo).toNat, ?_, fun b hb => ?_, q⟩
  · have e1 : lo + ((0 : Nat) : Int) * 1 = lo := by simp
    have e2 : (((hi - lo).toNat : Nat) : Int) - ((0 : Nat) : Int) = Builtin.Range.rangeSize lo hi 1 := by rw [rangeSize_one]; split <;> omega
    show IsRangeIter _ _ (lo + ((0 : Nat) : Int) * 1) ((((hi - lo).toNat : Nat) : Int) - ((0 : Nat) : Int)) 1
    rw [e1, e2]
    exact Heap.get?_push_size _ rfl
  · have e : b = (s.heap.push { cls := .type "range", data := .fields #[.int lo t, .int hi u, .int 1 v] }).objs.size := by simpa using hb
    subst e
    exact I1.fpOk (Nat.le_refl _) (I1.hok.fresh (Nat.le_refl _))
def iRng1 (ta : TA) : TI := fun σ H R => ta σ H fun vs H1 => ∃ j : Int, vs = [.int j] ∧ -(2 ^ 62) ≤ j ∧ j < 2 ^ 62 ∧ R (Itr 0 j.toNat) H1
def iRng2 (ta : TA) : TI := fun σ H R => ta σ H fun vs H1 => ∃ i j : Int, vs = [.int i, .int j] ∧ (-(2 ^ 62) ≤ i ∧ i < 2 ^ 62 ∧ -(2 ^ 62) ≤ j ∧ j < 2 ^ 62) ∧ R (Itr i (j - i).toNat) H1
theorem pi_range1 {a : Expr} {ta : TA} {p pos : Pos} (hg : Gl X "range") (hm : X.mg "range" = none) (ha : PA X [a] ta) (hs : starEach [a] X.env = [(false, eval a X.env)] := by rfl) : PI X tg (.Call (.Name "range" p) [a] [] pos) (iRng1 ta) := by
  intro pins s σ H R I h
  refine Call_ (ld_blt I hg hm boot_range (PyProof.Rows.callWith_type1 (thn (ha pos pins s σ H _ I h) fun us s1 ⟨vs, H1, I1, r1, q1⟩ => ?_) hs rfl))
  obtain ⟨j, e, q1, q2, q⟩ := q1
  subst e
  cases r1 with
  | cons r rr =>
    cases rr
    obtain ⟨t, rfl⟩ := r
    exact call_range_1 (range_it I1 (by omega) (by omega) q1 q2 (by simpa using q))
theorem pi_range2 {a b : Expr} {ta : TA} {p pos : Pos} (hg : Gl X "range") (hm : X.mg "range" = none) (ha : PA X [a, b] ta) (hs : starEach [a, b] X.env = [(false, eval a X.env), (false, eval b X.env)] := by rfl) (hs2 : starEach [b] X.env = [(false, eval b X.env)] := by rfl) :
    PI X tg (.Call (.Name "range" p) [a, b] [] pos) (iRng2 ta) := by
  intro pins s σ H R I h
  refine Call_ (ld_blt I hg hm boot_range (PyProof.Rows.callWith_type1 (thn (ha pos pins s σ H _ I h) fun us s1 ⟨vs, H1, I1, r1, q1⟩ => ?_) (by rw [hs, hs2]) (by rw [hs2]; rfl)))
  obtain ⟨i, j, e, ⟨q1, q2, q3, q4⟩, q⟩ := q1
  subst e
  cases r1 with
  | cons r rr =>
    cases rr with
    | cons r' rr =>
      cases rr
      obtain ⟨t, rfl⟩ := r
      obtain ⟨t', rfl⟩ := r'
      exact call_range_2 (range_it I1 q1 q2 q3 q4 q)

/-! ### for -/
/-- W: the invariant by the turn and a measure; N: what the body is to reach -/
def tFor (wi : TI) (g : TG) (tb : TS) : TS := fun D σ H => wi σ H fun J H1 => ∃ W : Nat → Nat → St → Hp → Prop, (∃ m, W 0 m σ H1) ∧ ∀ i m σ H, W i m σ H →
  (J.stop i H ∧ D.nx σ H) ∨ (J.go i H ∧ ∃ N : St → Hp → Prop, (∀ σ' H', N σ' H' → ∃ m', m' < m ∧ W (i + 1) m' σ' H') ∧ ∀ x H', J.yld i H x H' → g x σ H' fun σ2 H2 => tb { D with nx := N, ct := N, bk := D.nx } σ2 H2)
/-- the records at fp as they stand -/
def pinsAt (fp : List Addr) (h : Heap) : List (Addr × Obj) := fp.filterMap fun b => (h.get? b).map fun o => (b, o)
theorem mem_pinsAt {fp : List Addr} {h : Heap} {b : Addr} {o : Obj} (hb : b ∈ fp) (e : h.get? b = some o) : (b, o) ∈ pinsAt fp h := List.mem_filterMap.mpr ⟨b, hb, by rw [e]; rfl⟩
theorem of_pinsAt {fp : List Addr} {h : Heap} {p : Addr × Obj} (hp : p ∈ pinsAt fp h) : p.1 ∈ fp ∧ h.get? p.1 = some p.2 := by
  obtain ⟨b, hb, e⟩ := List.mem_filterMap.mp hp
  cases q : h.get? b with
  | none => rw [q] at e; cases e
  | some o =>
    rw [q] at e
    have e' : (b, o) = p := Option.some.inj e
    subst e'
    exact ⟨hb, q⟩
theorem Inv.pinned {pins : List (Addr × Obj)} {σ : St} {H : Hp} {s : Shared} {fp : List Addr} (I : Inv X pins σ H s) (hf : ∀ b ∈ fp, FpOk X pins H b) (ho : ∀ b ∈ fp, ∃ o, s.heap.get? b = some o ∧ ∀ v, o.data ≠ .cell v) : Inv X (pins ++ pinsAt fp s.heap) σ H s :=
  I.pins_of fun p hp => (List.mem_append.mp hp).elim (fun z => I.pin p (List.mem_append_right _ z)) fun z => by
    obtain ⟨hb, e⟩ := of_pinsAt z
    obtain ⟨f0, f1, f2, _⟩ := hf p.1 hb
    obtain ⟨o, e', d⟩ := ho p.1 hb
    rw [e] at e'; cases e'
    exact ⟨e, f0, f1, f2, d⟩
theorem Inv.unpinned {pins pl : List (Addr × Obj)} {σ : St} {H : Hp} {s : Shared} (I : Inv X (pins ++ pl) σ H s) : Inv X pins σ H s := I.pins_of fun p hp => I.pin p (List.mem_append_right _ (List.mem_append_left _ hp))
theorem ps_for {iter : Expr} {body : List Stmt} {wi : TI} {g : TG} {tb : TS} {pos : Pos} (hp : PassesOwn (model X.prog X.w) X.A X.env X.xe) (hc : X.calm = true) (hi : PI X tg iter wi) (hg : PG X tg g) (hb : PSs X body tb)
    (hs : ∀ x, foldedSetIterable iter X.env x = pure x := by intro _; rfl) : PS X (.For tg iter body [] pos) (tFor wi g tb) := by
  intro pins s σ H D I h
  refine wpAny_For (thn (hi pins s σ H _ I h) fun v s1 h1 => thn h1 fun itv s2 h2 => ?_) hs
  obtain ⟨it, fp, tn, J, H2, e, I2, T, st2, f2, W, ⟨m0, w0⟩, turn⟩ := h2
  subst e
  -- what stays true of the iterator's objects through the loop
  have stat : ∀ {H' : Hp}, (∀ b ∈ fp, H' b = none) → ∀ b ∈ fp, FpOk X pins H' b := fun hn b hb => ⟨hn b hb, (f2 b hb).2⟩
  refine codeAny_forLoop_any (fun n s' => ∃ i σ' H', Inv X pins σ' H' s' ∧ tn i s'.heap ∧ (∀ b ∈ fp, H' b = none) ∧ W i n σ' H') ?_ m0 ⟨0, σ, H2, I2, st2, fun b hb => (f2 b hb).1, w0⟩
  rintro n s3 ⟨i, σ3, H3, I3, st3, fr3, w3⟩
  rcases turn i n σ3 H3 w3 with ⟨stop, qn⟩ | ⟨go, N, hN, step⟩
  · refine wpAny_passesOwn hp (thn (T.done X rfl rfl rfl hc i pins s3 σ3 H3 X.xe I3 (stat fr3) st3 stop) fun r s4 ⟨hr, I4⟩ => ?_)
    subst hr
    exact wpAny_execs_nil ⟨σ3, H3, I4, qn⟩
  · refine wpAny_passesOwn hp (thn (T.item X rfl rfl rfl hc i pins s3 σ3 H3 X.xe I3 (stat fr3) st3 go) fun r s4 ⟨u, hr, h4⟩ => ?_)
    subst hr
    refine wpAny_passesOwn hp (thn h4 fun _ s5 ⟨x, H5, I5, r5, y5, st5, fr5⟩ => ?_)
    have I5' := I5.pinned (stat fr5) (T.obj _ _ st5)
    refine wpAny_passesOwn hp (thn (hg _ s5 σ3 H5 x u _ I5' r5 (step x H5 y5)) fun _ s6 ⟨σ6, H6, I6, q6⟩ => ?_)
    refine wpAny_passesOwn hp (thn (hb _ s6 σ6 H6 _ I6 q6) fun f s7 q7 => ?_)
    have again : ∀ {σ7 : St} {H7 : Hp}, Inv X (pins ++ pinsAt fp s5.heap) σ7 H7 s7 → N σ7 H7 → ∃ m, m < n ∧ ∃ i σ' H', Inv X pins σ' H' s7 ∧ tn i s7.heap ∧ (∀ b ∈ fp, H' b = none) ∧ W i m σ' H' := fun {σ7 H7} I7 n7 => by
      obtain ⟨m', hm, w7⟩ := hN σ7 H7 n7
      refine ⟨m', hm, i + 1, σ7, H7, I7.unpinned, T.keep _ _ _ st5 fun b hb o e => (I7.pin (b, o) (List.mem_append_right _ (List.mem_append_right _ (mem_pinsAt hb e)))).1, fun b hb => ?_, w7⟩
      obtain ⟨o, e, d⟩ := T.obj _ _ st5 b hb
      exact (I7.pin (b, o) (List.mem_append_right _ (List.mem_append_right _ (mem_pinsAt hb e)))).2.1
    cases f with
    | next => obtain ⟨σ7, H7, I7, n7⟩ := q7; exact again I7 n7
    | cont => obtain ⟨σ7, H7, I7, n7⟩ := q7; exact again I7 n7
    | brk => obtain ⟨σ7, H7, I7, q7⟩ := q7; exact ⟨σ7, H7, I7.unpinned, q7⟩
    | ret v => obtain ⟨x7, σ7, H7, I7, r7, q7⟩ := q7; exact ⟨x7, σ7, H7, I7.unpinned, r7, q7⟩
end

/-! ### the forms one uses -/
/-- over a list that the body leaves as it is -/
theorem for_list {K : PySem.W.Frag} {a : Addr} {xs : List V} {g : TG} {tb : TS} {D : Ends} {σ : St} {H : Hp} (Pv : Nat → St → Hp → Prop) (h0 : Pv 0 σ H) (hl : ∀ i σ H, i ≤ xs.length → Pv i σ H → SqL K H a xs)
    (hs : ∀ i x σ H, xs[i]? = some x → Pv i σ H → g x σ H fun σ2 H2 => tb { D with nx := Pv (i + 1), ct := Pv (i + 1), bk := D.nx } σ2 H2) (hd : ∀ σ H, Pv xs.length σ H → D.nx σ H) :
    ∃ W : Nat → Nat → St → Hp → Prop, (∃ m, W 0 m σ H) ∧ ∀ i m σ H, W i m σ H →
      ((Itl K a).stop i H ∧ D.nx σ H) ∨ ((Itl K a).go i H ∧ ∃ N : St → Hp → Prop, (∀ σ' H', N σ' H' → ∃ m', m' < m ∧ W (i + 1) m' σ' H') ∧ ∀ x H', (Itl K a).yld i H x H' → g x σ H' fun σ2 H2 => tb { D with nx := N, ct := N, bk := D.nx } σ2 H2) := by
  refine ⟨fun i m σ H => m = xs.length - i ∧ i ≤ xs.length ∧ Pv i σ H, ⟨xs.length, by simp, Nat.zero_le _, h0⟩, ?_⟩
  rintro i m σ H ⟨rfl, hi, p⟩
  have q := hl i σ H hi p
  by_cases hlt : i < xs.length
  · refine .inr ⟨⟨xs, xs[i], q, by simp [hlt]⟩, Pv (i + 1), fun σ' H' p' => ⟨xs.length - (i + 1), by omega, rfl, hlt, p'⟩, fun x H' y => ?_⟩
    obtain ⟨e, y⟩ := y
    subst e
    exact hs i x σ _ (y xs q) p
  · have e : i = xs.length := by omega
    subst e
    exact .inl ⟨⟨xs, q, Nat.le_refl _⟩, hd σ H p⟩
theorem for_tup {K : PySem.W.Frag} {a : Addr} {xs : List V} {g : TG} {tb : TS} {D : Ends} {σ : St} {H : Hp} (Pv : Nat → St → Hp → Prop) (h0 : Pv 0 σ H) (hl : ∀ i σ H, i ≤ xs.length → Pv i σ H → SqT K H a xs)
    (hs : ∀ i x σ H, xs[i]? = some x → Pv i σ H → g x σ H fun σ2 H2 => tb { D with nx := Pv (i + 1), ct := Pv (i + 1), bk := D.nx } σ2 H2) (hd : ∀ σ H, Pv xs.length σ H → D.nx σ H) :
    ∃ W : Nat → Nat → St → Hp → Prop, (∃ m, W 0 m σ H) ∧ ∀ i m σ H, W i m σ H →
      ((Itt K a).stop i H ∧ D.nx σ H) ∨ ((Itt K a).go i H ∧ ∃ N : St → Hp → Prop, (∀ σ' H', N σ' H' → ∃ m', m' < m ∧ W (i + 1) m' σ' H') ∧ ∀ x H', (Itt K a).yld i H x H' → g x σ H' fun σ2 H2 => tb { D with nx := N, ct := N, bk := D.nx } σ2 H2) := by
  refine ⟨fun i m σ H => m = xs.length - i ∧ i ≤ xs.length ∧ Pv i σ H, ⟨xs.length, by simp, Nat.zero_le _, h0⟩, ?_⟩
  rintro i m σ H ⟨rfl, hi, p⟩
  have q := hl i σ H hi p
  by_cases hlt : i < xs.length
  · refine .inr ⟨⟨xs, xs[i], q, by simp [hlt]⟩, Pv (i + 1), fun σ' H' p' => ⟨xs.length - (i + 1), by omega, rfl, hlt, p'⟩, fun x H' y => ?_⟩
    obtain ⟨e, y⟩ := y
    subst e
    exact hs i x σ _ (y xs q) p
  · have e : i = xs.length := by omega
    subst e
    exact .inl ⟨⟨xs, q, Nat.le_refl _⟩, hd σ H p⟩
theorem for_range {lo : Int} {n : Nat} {g : TG} {tb : TS} {D : Ends} {σ : St} {H : Hp} (Pv : Nat → St → Hp → Prop) (h0 : Pv 0 σ H)
    (hs : ∀ i σ H, i < n → Pv i σ H → g (.int (lo + i)) σ H fun σ2 H2 => tb { D with nx := Pv (i + 1), ct := Pv (i + 1), bk := D.nx } σ2 H2) (hd : ∀ σ H, Pv n σ H → D.nx σ H) :
    ∃ W : Nat → Nat → St → Hp → Prop, (∃ m, W 0 m σ H) ∧ ∀ i m σ H, W i m σ H →
      ((Itr lo n).stop i H ∧ D.nx σ H) ∨ ((Itr lo n).go i H ∧ ∃ N : St → Hp → Prop, (∀ σ' H', N σ' H' → ∃ m', m' < m ∧ W (i + 1) m' σ' H') ∧ ∀ x H', (Itr lo n).yld i H x H' → g x σ H' fun σ2 H2 => tb { D with nx := N, ct := N, bk := D.nx } σ2 H2) := by
  refine ⟨fun i m σ H => m = n - i ∧ i ≤ n ∧ Pv i σ H, ⟨n, by simp, Nat.zero_le _, h0⟩, ?_⟩
  rintro i m σ H ⟨rfl, hi, p⟩
  by_cases hlt : i < n
  · refine .inr ⟨hlt, Pv (i + 1), fun σ' H' p' => ⟨n - (i + 1), by omega, rfl, hlt, p'⟩, fun x H' y => ?_⟩
    obtain ⟨e, y⟩ := y
    subst e y
    exact hs i σ _ hlt p
  · have e : i = n := by omega
    subst e
    exact .inl ⟨Nat.le_refl _, hd σ H p⟩
end L2

namespace L2
open PySem PySem.Spec PyProof.Rows

abbrev R2 := V → V → Hp → VK → Prop
/-- a two-place operation on values: f is binaryOp op, inplaceOp op or compareOp op -/
def OpR (X : Cx) (f : Value → Value → Sem Value) (r : R2) : Prop :=
  ∀ (pins : List (Addr × Obj)) (s : Shared) (σ : St) (H : Hp) (x y : V) (v u : Value) (Q : VK), Inv X pins σ H s → RelV x v → RelV y u → r x y H Q →
    wpAny (model X.prog X.w) X.A (f v u) (EP X pins σ Q) X.xe s
/-- a one-place operation -/
def UnR (X : Cx) (f : Value → Sem Value) (r : V → Hp → VK → Prop) : Prop :=
  ∀ (pins : List (Addr × Obj)) (s : Shared) (σ : St) (H : Hp) (x : V) (v : Value) (Q : VK), Inv X pins σ H s → RelV x v → r x H Q →
    wpAny (model X.prog X.w) X.A (f v) (EP X pins σ Q) X.xe s
/-- a call of a value that is known (a builtin, a type) with values -/
def CallR (X : Cx) (f : Value) (r : List V → Hp → VK → Prop) : Prop :=
  ∀ (pins : List (Addr × Obj)) (s : Shared) (σ : St) (H : Hp) (xs : List V) (us : List Value) (Q : VK), Inv X pins σ H s → Vals xs us → r xs H Q →
    wpAny (model X.prog X.w) X.A (call f us) (EP X pins σ Q) X.xe s
/-- a value's truth -/
def TruR (X : Cx) (r : V → Hp → (Bool → Hp → Prop) → Prop) : Prop :=
  ∀ (pins : List (Addr × Obj)) (s : Shared) (σ : St) (H : Hp) (x : V) (v : Value) (Q : Bool → Hp → Prop), Inv X pins σ H s → RelV x v → r x H Q →
    wpAny (model X.prog X.w) X.A (truthy v) (TP X pins σ Q) X.xe s

def tOp (r : R2) (ta tb : TE) : TE := fun σ H Q => ta σ H fun x H1 => tb σ H1 fun y H2 => r x y H2 Q
def tUn (r : V → Hp → VK → Prop) (ta : TE) : TE := fun σ H Q => ta σ H fun x H1 => r x H1 Q
/-- ints in, under C, and a value out -/
def rI (C : Int → Int → Prop) (g : Int → Int → V) : R2 := fun x y H Q => ∃ i j, x = .int i ∧ y = .int j ∧ C i j ∧ Q (g i j) H
def rI0 (g : Int → Int → V) : R2 := fun x y H Q => ∃ i j, x = .int i ∧ y = .int j ∧ Q (g i j) H
def rU (g : Int → V) : V → Hp → VK → Prop := fun x H Q => ∃ i, x = .int i ∧ Q (g i) H

section
variable {X : Cx} {a b c : Expr} {ta tb tc : TE} {pos : Pos}

theorem binT (ha : PE X a ta) (hb : PE X b tb) {pins : List (Addr × Obj)} {s : Shared} {σ : St} {H : Hp} {R : V → V → Hp → Prop} (I : Inv X pins σ H s)
    (h : ta σ H fun x H1 => tb σ H1 fun y H2 => R x y H2) {Q : Value → Shared → Prop} {f : Value → Value → Sem Value}
    (hf : ∀ v u s2 x y H2, Inv X pins σ H2 s2 → RelV x v → RelV y u → R x y H2 → wpAny (model X.prog X.w) X.A (f v u) Q X.xe s2) :
    wpAny (model X.prog X.w) X.A (eval a X.env) (fun v s₁ => wpAny (model X.prog X.w) X.A (eval b X.env) (fun u s₂ => wpAny (model X.prog X.w) X.A (f v u) Q X.xe s₂) X.xe s₁) X.xe s := by
  refine thn (ha pins s σ H _ I h) fun v s1 ⟨x, H1, I1, r1, q1⟩ => ?_
  refine thn (hb pins s1 σ H1 _ I1 q1) fun u s2 ⟨y, H2, I2, r2, q2⟩ => ?_
  exact hf v u s2 x y H2 I2 r1 r2 q2

theorem pe_op {op : Operator} {r : R2} (ho : OpR X (binaryOp op) r) (ha : PE X a ta) (hb : PE X b tb) : PE X (.BinOp a op b pos) (tOp r ta tb) := by
  intro pins s σ H Q I h
  exact wpAny_BinOp (binT ha hb I h fun v u s2 x y H2 I2 rx ry q => ho pins s2 σ H2 x y v u Q I2 rx ry q)
theorem pe_un {op : UnaryOp} {r : V → Hp → VK → Prop} (ho : UnR X (unaryOp op) r) (ha : PE X a ta) : PE X (.UnaryOp op a pos) (tUn r ta) := by
  intro pins s σ H Q I h
  exact UnaryOp_ (thn (ha pins s σ H _ I h) fun v s1 ⟨x, H1, I1, r1, q1⟩ => ho pins s1 σ H1 x v Q I1 r1 q1)
/-! ### ints -/
theorem opI {f : Value → Value → Sem Value} {C : Int → Int → Prop} {g : Int → Int → Int}
    (rule : ∀ (i j : Int) (t u : Tok) (s : Shared) (Q : Value → Shared → Prop) (E : Value → Shared → Prop), C i j → Q (.int (g i j) s.toks) { s with toks := s.toks + 1 } → wpAny (model X.prog X.w) X.A (f (.int i t) (.int j u)) Q E s) :
    OpR X f (rI C fun i j => .int (g i j)) := by
  intro pins s σ H x y v u Q I rx ry h
  obtain ⟨i, j, rfl, rfl, hc, q⟩ := h
  obtain ⟨t, rfl⟩ := rx
  obtain ⟨t', rfl⟩ := ry
  exact rule i j t t' s _ _ hc ⟨.int (g i j), H, I.tok _, ⟨_, rfl⟩, q⟩
theorem opI0 {f : Value → Value → Sem Value} {g : Int → Int → Int}
    (rule : ∀ (i j : Int) (t u : Tok) (s : Shared) (Q : Value → Shared → Prop) (E : Value → Shared → Prop), Q (.int (g i j) s.toks) { s with toks := s.toks + 1 } → wpAny (model X.prog X.w) X.A (f (.int i t) (.int j u)) Q E s) :
    OpR X f (rI0 fun i j => .int (g i j)) := by
  intro pins s σ H x y v u Q I rx ry h
  obtain ⟨i, j, rfl, rfl, q⟩ := h
  obtain ⟨t, rfl⟩ := rx
  obtain ⟨t', rfl⟩ := ry
  exact rule i j t t' s _ _ ⟨.int (g i j), H, I.tok _, ⟨_, rfl⟩, q⟩
theorem opB0 {f : Value → Value → Sem Value} {g : Int → Int → Bool}
    (rule : ∀ (i j : Int) (t u : Tok) (s : Shared) (Q : Value → Shared → Prop) (E : Value → Shared → Prop), Q (.bool (g i j)) s → wpAny (model X.prog X.w) X.A (f (.int i t) (.int j u)) Q E s) :
    OpR X f (rI0 fun i j => .bl (g i j)) := by
  intro pins s σ H x y v u Q I rx ry h
  obtain ⟨i, j, rfl, rfl, q⟩ := h
  obtain ⟨t, rfl⟩ := rx
  obtain ⟨t', rfl⟩ := ry
  exact rule i j t t' s _ _ ⟨.bl (g i j), H, I, rfl, q⟩

def CDiv (i j : Int) : Prop := 0 < j ∧ j < 1073741824
def CPow (i j : Int) : Prop := 0 ≤ j ∧ j ≤ 1000000 ∧ i.natAbs < 2 ^ 64
def CMul (i j : Int) : Prop := (-(2 ^ 64) < i ∧ i < 2 ^ 64) ∨ (-(2 ^ 64) < j ∧ j < 2 ^ 64)
theorem CMul.ok {i j : Int} (h : CMul i j) : IntMulOk i j := by
  rcases h with ⟨h1, h2⟩ | ⟨h1, h2⟩
  · exact .of_left (intBits_le_64 h1 h2)
  · exact .of_right (intBits_le_64 h1 h2)
theorem op_add : OpR X (binaryOp .Add) (rI0 fun i j => .int (i + j)) := opI0 fun _ _ _ _ _ _ _ q => add_int q
theorem op_sub : OpR X (binaryOp .Sub) (rI0 fun i j => .int (i - j)) := opI0 fun _ _ _ _ _ _ _ q => sub_int q
theorem op_mul : OpR X (binaryOp .Mult) (rI CMul fun i j => .int (i * j)) := opI fun _ _ _ _ _ _ _ hc q => mul_int q hc.ok
/-- // by a positive divisor -/
theorem op_fdiv : OpR X (binaryOp .FloorDiv) (rI CDiv fun i j => .int (i / j)) := opI fun i j _ _ _ _ _ hc q => by
  have h1 : (0 : Int) < j := hc.1
  have h2 : j < 1073741824 := hc.2
  exact floordiv_int (by omega) (by rw [Int.fdiv_eq_ediv_of_nonneg i (by omega)]; exact q) (.inl (PyProof.noPylong_small (by omega)))
/-- % by a positive divisor of any size -/
theorem op_mod : OpR X (binaryOp .Mod) (rI (fun _ j => 0 < j) fun i j => .int (i % j)) := opI fun i j _ _ _ _ _ hc q => by
  have h1 : (0 : Int) < j := hc
  exact mod_int' (by omega) (by rw [Int.fmod_eq_emod_of_nonneg i (by omega)]; exact q)
theorem op_pow : OpR X (binaryOp .Pow) (rI CPow fun i j => .int (i ^ j.toNat)) := opI fun _ _ _ _ _ _ _ hc q => pow_int_small hc.1 hc.2.1 hc.2.2 q
theorem unI {f : Value → Sem Value} {g : Int → Int}
    (rule : ∀ (i : Int) (t : Tok) (s : Shared) (Q : Value → Shared → Prop) (E : Value → Shared → Prop), Q (.int (g i) s.toks) { s with toks := s.toks + 1 } → wpAny (model X.prog X.w) X.A (f (.int i t)) Q E s) :
    UnR X f (rU fun i => .int (g i)) := by
  intro pins s σ H x v Q I rx h
  obtain ⟨i, rfl, q⟩ := h
  obtain ⟨t, rfl⟩ := rx
  exact rule i t s _ _ ⟨.int (g i), H, I.tok _, ⟨_, rfl⟩, q⟩
theorem un_neg : UnR X (unaryOp .USub) (rU fun i => .int (-i)) := unI fun _ _ _ _ _ q => neg_int q
/-! ### bools among ints: n += (a < b) -/
end

/-! ### comparisons -/
/-- the scalars that == tells apart as data does -/
def scal : V → V → Bool
  | .non, .non => true | .non, .int _ => true | .int _, .non => true | .non, .bl _ => true | .bl _, .non => true | .non, .str _ => true | .str _, .non => true
  | .int _, .int _ => true | .bl _, .bl _ => true | .str _, .str _ => true | .byt _, .byt _ => true
  | .int _, .str _ => true | .str _, .int _ => true | .bl _, .str _ => true | .str _, .bl _ => true
  | _, _ => false
def rEq : R2 := fun x y H Q => scal x y = true ∧ Q (.bl (decide (x = y))) H
def rNe : R2 := fun x y H Q => scal x y = true ∧ Q (.bl (!decide (x = y))) H

theorem dec_int {i j : Int} : decide (V.int i = V.int j) = (i == j) := by
  rw [Bool.eq_iff_iff]
  simp
theorem dec_bl {i j : Bool} : decide (V.bl i = V.bl j) = (i == j) := by
  rw [Bool.eq_iff_iff]
  simp
theorem dec_str {i j : Str} : decide (V.str i = V.str j) = (i == j) := by
  rw [Bool.eq_iff_iff]
  simp
theorem dec_byt {i j : Array UInt8} : decide (V.byt i = V.byt j) = (i.toList == j.toList) := by
  rw [Bool.eq_iff_iff]
  cases i
  cases j
  simp

section
variable {X : Cx} {a b c : Expr} {ta tb tc : TE} {pos : Pos}
theorem fin_bl {pins : List (Addr × Obj)} {σ : St} {H : Hp} {s : Shared} {Q : VK} {k k' : Bool} (I : Inv X pins σ H s) (q : Q (.bl k) H) (e : k = k') : EP X pins σ Q (.bool k') s := by
  subst e
  exact ⟨.bl k, H, I, rfl, q⟩
theorem op_eq : OpR X (compareOp .Eq) rEq := by
  intro pins s σ H x y v u Q I rx ry h
  obtain ⟨hs, q⟩ := h
  cases x with
  | non =>
    cases rx
    cases y with
    | non => cases ry; exact PySem.EqNone.eq_none_none (fin_bl I q (by simp))
    | bl j => cases ry; exact PySem.EqNone.eq_none_bool (fin_bl I q (by simp))
    | int j => obtain ⟨t', rfl⟩ := ry; exact PySem.EqNone.eq_none_int (fin_bl I q (by simp))
    | str j => obtain ⟨t', rfl⟩ := ry; exact PySem.EqNone.eq_none_str (fin_bl I q (by simp))
    | _ => exact absurd (show false = true from hs) Bool.false_ne_true
  | bl i =>
    cases rx
    cases y with
    | non => cases ry; exact PySem.EqNone.eq_bool_none (fin_bl I q (by simp))
    | bl j => cases ry; exact eq_bool (fin_bl I q dec_bl)
    | str j => obtain ⟨t', rfl⟩ := ry; exact PySem.EqMixed.eq_bool_str (fin_bl I q (by simp))
    | _ => exact absurd (show false = true from hs) Bool.false_ne_true
  | int i =>
    obtain ⟨t, rfl⟩ := rx
    cases y with
    | non => cases ry; exact PySem.EqNone.eq_int_none (fin_bl I q (by simp))
    | int j => obtain ⟨t', rfl⟩ := ry; exact eq_int (fin_bl I q dec_int)
    | str j => obtain ⟨t', rfl⟩ := ry; exact PySem.EqMixed.eq_int_str (fin_bl I q (by simp))
    | _ => exact absurd (show false = true from hs) Bool.false_ne_true
  | str i =>
    obtain ⟨t, rfl⟩ := rx
    cases y with
    | non => cases ry; exact PySem.EqNone.eq_str_none (fin_bl I q (by simp))
    | bl j => cases ry; exact PySem.EqMixed.eq_str_bool (fin_bl I q (by simp))
    | int j => obtain ⟨t', rfl⟩ := ry; exact PySem.EqMixed.eq_str_int (fin_bl I q (by simp))
    | str j => obtain ⟨t', rfl⟩ := ry; exact eq_str (fin_bl I q dec_str)
    | _ => exact absurd (show false = true from hs) Bool.false_ne_true
  | byt i =>
    obtain ⟨t, rfl⟩ := rx
    cases y with
    | byt j => obtain ⟨t', rfl⟩ := ry; exact PySem.W.eq_bytes (fin_bl I q dec_byt)
    | _ => exact absurd (show false = true from hs) Bool.false_ne_true
  | _ => cases y <;> exact absurd (show false = true from hs) Bool.false_ne_true
theorem op_ne : OpR X (compareOp .NotEq) rNe := by
  intro pins s σ H x y v u Q I rx ry h
  obtain ⟨hs, q⟩ := h
  cases x with
  | non =>
    cases rx
    cases y with
    | non => cases ry; exact PySem.EqNone.ne_none_none (fin_bl I q (by simp))
    | bl j => cases ry; exact PySem.EqNone.ne_none_bool (fin_bl I q (by simp))
    | int j => obtain ⟨t', rfl⟩ := ry; exact PySem.EqNone.ne_none_int (fin_bl I q (by simp))
    | str j => obtain ⟨t', rfl⟩ := ry; exact PySem.EqNone.ne_none_str (fin_bl I q (by simp))
    | _ => exact absurd (show false = true from hs) Bool.false_ne_true
  | bl i =>
    cases rx
    cases y with
    | non => cases ry; exact PySem.EqNone.ne_bool_none (fin_bl I q (by simp))
    | bl j => cases ry; exact ne_bool (fin_bl I q (congrArg not dec_bl))
    | str j => obtain ⟨t', rfl⟩ := ry; exact PySem.EqMixed.ne_bool_str (fin_bl I q (by simp))
    | _ => exact absurd (show false = true from hs) Bool.false_ne_true
  | int i =>
    obtain ⟨t, rfl⟩ := rx
    cases y with
    | non => cases ry; exact PySem.EqNone.ne_int_none (fin_bl I q (by simp))
    | int j => obtain ⟨t', rfl⟩ := ry; exact ne_int (fin_bl I q (congrArg not dec_int))
    | str j => obtain ⟨t', rfl⟩ := ry; exact PySem.EqMixed.ne_int_str (fin_bl I q (by simp))
    | _ => exact absurd (show false = true from hs) Bool.false_ne_true
  | str i =>
    obtain ⟨t, rfl⟩ := rx
    cases y with
    | non => cases ry; exact PySem.EqNone.ne_str_none (fin_bl I q (by simp))
    | bl j => cases ry; exact PySem.EqMixed.ne_str_bool (fin_bl I q (by simp))
    | int j => obtain ⟨t', rfl⟩ := ry; exact PySem.EqMixed.ne_str_int (fin_bl I q (by simp))
    | str j => obtain ⟨t', rfl⟩ := ry; exact ne_str (fin_bl I q (congrArg not dec_str))
    | _ => exact absurd (show false = true from hs) Bool.false_ne_true
  | byt i =>
    obtain ⟨t, rfl⟩ := rx
    cases y with
    | byt j => obtain ⟨t', rfl⟩ := ry; exact PySem.W.ne_bytes (fin_bl I q (congrArg not dec_byt))
    | _ => exact absurd (show false = true from hs) Bool.false_ne_true
  | _ => cases y <;> exact absurd (show false = true from hs) Bool.false_ne_true

theorem op_lt : OpR X (compareOp .Lt) (rI0 fun i j => .bl (decide (i < j))) := opB0 fun _ _ _ _ _ _ _ q => lt_int q
theorem op_le : OpR X (compareOp .LtE) (rI0 fun i j => .bl (decide (i ≤ j))) := opB0 fun _ _ _ _ _ _ _ q => le_int q
theorem op_gt : OpR X (compareOp .Gt) (rI0 fun i j => .bl (decide (j < i))) := opB0 fun _ _ _ _ _ _ _ q => gt_int q
theorem op_ge : OpR X (compareOp .GtE) (rI0 fun i j => .bl (decide (j ≤ i))) := opB0 fun _ _ _ _ _ _ _ q => ge_int q
theorem op_notN : OpR X (compareOp .IsNot) (fun x y H Q => y = .non ∧ Q (.bl (!decide (x = .non))) H) := by
  intro pins s σ H x y v u Q I rx ry h
  obtain ⟨rfl, q⟩ := h
  cases ry
  refine isnot_none_gen (fin_bl I q ?_)
  cases x <;> first
    | (cases rx; rfl)
    | (obtain ⟨t, rfl⟩ := rx; rfl)

/-- two rules for one operation: by cases -/
theorem OpR.or {f : Value → Value → Sem Value} {r r' : R2} (h : OpR X f r) (h' : OpR X f r') : OpR X f (fun x y H Q => r x y H Q ∨ r' x y H Q) := by
  intro pins s σ H x y v u Q I rx ry q
  rcases q with q | q
  · exact h pins s σ H x y v u Q I rx ry q
  · exact h' pins s σ H x y v u Q I rx ry q

theorem nomark (b : Expr) {op : CmpOp} (h : op ≠ .In := by decide) (h2 : op ≠ .NotIn := by decide) : behindInMarks op b = false := by
  have e1 : (op == CmpOp.In) = false := by cases op <;> first | rfl | exact absurd rfl h
  have e2 : (op == CmpOp.NotIn) = false := by cases op <;> first | rfl | exact absurd rfl h2
  cases b <;> simp [behindInMarks, e1, e2]
/-- a comparison as a value; hm: nomark b, or (for in, not in) by with_unfolding_all rfl -/
theorem pe_cmpR {op : CmpOp} {r : R2} (ho : OpR X (compareOp op) r) (ha : PE X a ta) (hb : PE X b tb) (hm : behindInMarks op b = false) : PE X (.Compare a [op] [b] pos) (tOp r ta tb) := by
  intro pins s σ H Q I h
  exact wpAny_Compare1 (binT ha hb I h fun v u s2 x y H2 I2 rx ry q => ho pins s2 σ H2 x y v u Q I2 rx ry q) hm
/-- a reading of a value as a test -/
def tTest (t : TE) : TT := fun σ H Q => t σ H fun x H' => ∃ k, x = .bl k ∧ Q k H'
theorem pt_cmpR {op : CmpOp} {r : R2} (ho : OpR X (compareOp op) r) (ha : PE X a ta) (hb : PE X b tb) (hm : behindInMarks op b = false) : PT X (.Compare a [op] [b] pos) (tTest (tOp r ta tb)) := by
  intro pins s σ H Q I h
  refine wpAny_isTrue_Compare1 (thn (ha pins s σ H _ I h) fun v s1 ⟨x, H1, I1, r1, q1⟩ => thn (hb pins s1 σ H1 _ I1 q1) fun u s2 ⟨y, H2, I2, r2, q2⟩ =>
    thn (ho pins s2 σ H2 x y v u _ I2 r1 r2 q2) fun c s3 ⟨z, H3, I3, r3, k, e, q3⟩ => ?_) hm
  subst e
  cases r3
  exact wpAny_truthy_bool ⟨H3, I3, q3⟩
/-- a op1 b op2 c -/
def tChain (r r' : R2) (ta tb tc : TE) : TE := fun σ H Q => ta σ H fun x H1 => tb σ H1 fun y H2 => r x y H2 fun z H3 => ∃ k, z = .bl k ∧
  (if k = true then tc σ H3 fun w' H4 => r' y w' H4 Q else Q (.bl false) H3)
theorem pt_chain {op op' : CmpOp} {r r' : R2} (ho : OpR X (compareOp op) r) (ho' : OpR X (compareOp op') r') (ha : PE X a ta) (hb : PE X b tb) (hc : PE X c tc)
    (hm : lastMarks [op, op'] [b, c] = false := by with_unfolding_all rfl) : PT X (.Compare a [op, op'] [b, c] pos) (tTest (tChain r r' ta tb tc)) := by
  intro pins s σ H Q I h
  refine isTrue_chain (thn (ha pins s σ H _ I h) fun v s1 ⟨x, H1, I1, r1, q1⟩ => test_link (thn (hb pins s1 σ H1 _ I1 q1) fun u s2 ⟨y, H2, I2, r2, q2⟩ =>
    thn (ho pins s2 σ H2 x y v u _ I2 r1 r2 q2) fun d s3 ⟨z, H3, I3, r3, k, e, q3⟩ => ?_)) hm
  subst e
  cases r3
  refine wpAny_truthy_bool ?_
  cases k with
  | false =>
    obtain ⟨k', e', q'⟩ := q3
    cases e'
    exact ite_ff ⟨H3, I3, q'⟩
  | true =>
    refine ite_tt (test_last (thn (hc pins s3 σ H3 _ I3 q3) fun w' s4 ⟨z', H4, I4, r4, q4⟩ => thn (ho' pins s4 σ H4 y z' u w' _ I4 r2 r4 q4) fun d' s5 ⟨z2, H5, I5, r5, k2, e2, q5⟩ => ?_))
    subst e2
    cases r5
    exact wpAny_truthy_bool ⟨H5, I5, q5⟩

/-! ### truth -/
/-- a value's truth by the abstract heap -/
def TruV (K : PySem.W.Frag) (x : V) (H : Hp) (k : Bool) : Prop :=
  match x with
  | .non => k = false
  | .bl b => k = b
  | .int i => k = (i != 0)
  | .str y => y.length ≤ sizeLine ∧ k = ((y.length : Int) != 0)
  | .byt y => y.size ≤ sizeLine ∧ k = ((y.size : Int) != 0)
  | .ref p => (∃ xs, SqL K H p xs ∧ k = !xs.isEmpty) ∨ (∃ xs, SqT K H p xs ∧ k = !xs.isEmpty) ∨ ∃ kvs, H p = some (.dK kvs) ∧ k = !kvs.isEmpty
  | _ => False
theorem isEmpty_kv {κ : Type} {kvs : List (κ × V)} {vs : List (κ × Value)} (r : KV kvs vs) : (!vs.isEmpty) = !kvs.isEmpty := by
  cases r <;> rfl
theorem isEmpty_of {xs : List V} {its : List Value} (r : Vals xs its) : (!its.toArray.isEmpty) = !xs.isEmpty := by
  cases r <;> simp
theorem line63 : (sizeLine : Nat) < 2 ^ 63 := by rw [sizeLine_eq]; decide
theorem tru_ok : TruR X (fun x H Q => ∃ k, TruV X.K x H k ∧ Q k H) := by
  intro pins s σ H x v Q I rx h
  obtain ⟨k, e, q⟩ := h
  have hl := line63
  have hs : sizeLine = 16777216 := sizeLine_eq
  cases x with
  | non =>
    cases rx
    have e' : k = false := e
    subst e'
    exact truthy_none ⟨H, I, q⟩
  | bl b =>
    cases rx
    have e' : k = b := e
    subst e'
    exact wpAny_truthy_bool ⟨H, I, q⟩
  | int i =>
    obtain ⟨t, rfl⟩ := rx
    have e' : k = (i != 0) := e
    subst e'
    exact PySem.P.truthy_int ⟨H, I, q⟩
  | str y =>
    obtain ⟨t, rfl⟩ := rx
    obtain ⟨hy, e'⟩ : y.length ≤ sizeLine ∧ k = ((y.length : Int) != 0) := e
    subst e'
    exact PySem.P.truthy_str (by omega) ⟨H, I.tok _, q⟩
  | byt y =>
    obtain ⟨t, rfl⟩ := rx
    obtain ⟨hy, e'⟩ : y.size ≤ sizeLine ∧ k = ((y.size : Int) != 0) := e
    subst e'
    exact PySem.W.truthy_bytes (by omega) ⟨H, I.tok _, q⟩
  | ref p =>
    cases rx
    have e' : (∃ xs, SqL X.K H p xs ∧ k = !xs.isEmpty) ∨ (∃ xs, SqT X.K H p xs ∧ k = !xs.isEmpty) ∨ ∃ kvs, H p = some (.dK kvs) ∧ k = !kvs.isEmpty := e
    rcases e' with ⟨xs, hx, e'⟩ | ⟨xs, hx, e'⟩ | ⟨kvs, hx, e'⟩
    · subst e'
      obtain ⟨its, r, pl, hz⟩ := I.list hx
      have hlen := r.length
      exact wpAny_truthy_list pl.isList (by simp only [List.size_toArray]; omega) ⟨H, I.tok _, by rw [isEmpty_of r]; exact q⟩
    · subst e'
      obtain ⟨its, r, pl, hz⟩ := I.tuple hx
      have hlen := r.length
      exact truthy_tuple pl (by simp only [List.size_toArray]; omega) ⟨H, I.tok _, by rw [isEmpty_of r]; exact q⟩
    · subst e'
      obtain ⟨hz, hS, vs, r, m⟩ : kvs.length ≤ sizeLine ∧ (p == sysModules) = false ∧ ∃ vs, KV kvs vs ∧ s.heap.DictOf (mixKind X.prog X.w) p vs := I.hok p _ hx
      have hlen : kvs.length = vs.length := Paired.length r
      exact wpAny_truthy_dict hS m (by omega) ⟨H, I.tok _, by rw [isEmpty_kv r]; exact q⟩
  | _ => exact (show False from e).elim
/-! ### strs and bytes -/
/-! ### scalar builtins, by CallR -/
theorem vals1 {x : V} {us : List Value} (r : Vals [x] us) : ∃ u, us = [u] ∧ RelV x u := by
  cases r with
  | cons r1 r2 => cases r2; exact ⟨_, rfl, r1⟩
theorem vals2 {x y : V} {us : List Value} (r : Vals [x, y] us) : ∃ u w', us = [u, w'] ∧ RelV x u ∧ RelV y w' := by
  cases r with
  | cons r1 r2 =>
    cases r2 with
    | cons r3 r4 => cases r4; exact ⟨_, _, rfl, r1, r3⟩
theorem call_max2 (hc : X.calm = true) : CallR X (.builtin "max") (fun xs H Q => ∃ i j, xs = [.int i, .int j] ∧ Q (.int (if j > i then j else i)) H) := by
  intro pins s σ H xs us Q I r h
  obtain ⟨i, j, rfl, q⟩ := h
  obtain ⟨u, w', rfl, ⟨t, rfl⟩, ⟨t', rfl⟩⟩ := vals2 r
  refine max_two_ints (I.ok.hd hc) fun h' tk k => ⟨_, H, I.kept k, ?_, q⟩
  by_cases hj : j > i
  · rw [if_pos hj, if_pos hj]; exact ⟨_, rfl⟩
  · rw [if_neg hj, if_neg hj]; exact ⟨_, rfl⟩
theorem call_min2 (hc : X.calm = true) : CallR X (.builtin "min") (fun xs H Q => ∃ i j, xs = [.int i, .int j] ∧ Q (.int (if j < i then j else i)) H) := by
  intro pins s σ H xs us Q I r h
  obtain ⟨i, j, rfl, q⟩ := h
  obtain ⟨u, w', rfl, ⟨t, rfl⟩, ⟨t', rfl⟩⟩ := vals2 r
  refine min_two_ints (I.ok.hd hc) fun h' tk k => ⟨_, H, I.kept k, ?_, q⟩
  by_cases hj : j < i
  · rw [if_pos hj, if_pos hj]; exact ⟨_, rfl⟩
  · rw [if_neg hj, if_neg hj]; exact ⟨_, rfl⟩
end
end L2

namespace L2
open PySem PySem.Spec PyProof.Rows

/-! ### an instance, its attributes a map -/
structure ObjM (h : Heap) (x dx C : Addr) (mA : Str → Option Value) : Prop where
  obj : h.get? x = some (PySem.W.instObj C dx)
  ns : h.Ns1 dx mA
  ne : dx ≠ x

theorem lookIn_ns {h : Heap} {dx : Addr} {mA : Str → Option Value} (n : h.Ns1 dx mA) : ∃ od, h.get? dx = some od ∧ ∀ name, PySem.W.lookIn name od = some (mA name) := by
  obtain ⟨o, es, ep, ho, hd, hk, _, hm⟩ := n
  refine ⟨o, ho, fun name => ?_⟩
  have e := hm name
  unfold nsFind findBy at e
  rw [← Array.find?_toList] at e
  unfold PySem.W.lookIn
  rw [hd]
  dsimp only
  split
  · rename_i y q
    rw [q] at e
    exact congrArg some e
  · rename_i q
    rw [q] at e
    have a : es.toList.any (·.refKey) = false := by
      rw [List.any_eq_false]
      intro y hy
      obtain ⟨z, t, hkey⟩ := hk y (Array.mem_toList_iff.mp hy)
      simp [DictEntry.refKey, hkey]
    have a' : ¬ es.toList.any (·.refKey) = true := by rw [a]; exact Bool.false_ne_true
    rw [if_neg a']
    exact congrArg some e

theorem ObjM.look {h : Heap} {x dx C : Addr} {mA : Str → Option Value} (I : ObjM h x dx C mA) : ∃ od, PySem.W.InstAt h x (PySem.W.instObj C dx) C (some od) ∧ ∀ name, PySem.W.lookIn name od = some (mA name) :=
  let ⟨od, ho, hl⟩ := lookIn_ns I.ns
  ⟨od, ⟨I.obj, rfl, rfl, ho⟩, hl⟩

section
variable {prog : Program} {w : World} {A : Around} {E : Value → Shared → Prop} {s : Shared} {K : PySem.W.Frag} {x dx C f : Addr} {mA : Str → Option Value} {name : Str} {v : Value}

theorem get_map {expr : Bool} {Q : Value → Shared → Prop} (X : K.In s.heap) (I : ObjM s.heap x dx C mA) (hg : PySem.W.plainGet K C name = true) (hh : PySem.W.hasDictIn K C = true)
    (ha : PySem.W.findIn K (.ref C) name = some none) (hv : mA name = some v) (hv' : PySem.W.handedIn v = true) (h : Q v { s with toks := s.toks + 1 }) :
    wpAny (model prog w) A (getAttr (.ref x) name expr) Q E s := by
  obtain ⟨od, J, hl⟩ := I.look
  exact PySem.W.get_value X J (PySem.W.plainGet_of hg).1 (PySem.W.findObj_own hh ha rfl (by rw [hl, hv])) hv' h

theorem get_meth {pl : Sem Bool} {Q : Value × List Value → Shared → Prop} (X : K.In s.heap) (I : ObjM s.heap x dx C mA) (hg : PySem.W.plainGet K C name = true)
    (hf : PySem.W.findIn K (.ref C) name = some (some (.ref f))) (ht : PySem.W.isFn K (.ref f) = true) (hv : mA name = none) (h : Q (.ref f, [.ref x]) s) :
    wpAny (model prog w) A (getMethod (.ref x) name pl) Q E s := by
  obtain ⟨od, J, hl⟩ := I.look
  exact PySem.W.method_fn X J (PySem.W.plainGet_of hg).1 (PySem.W.plainGet_of hg).2 hf (beq_iff_eq.mp ht) (by show (PySem.W.lookIn name od).map (·.isSome) = some false; rw [hl, hv]; rfl) h

theorem set_map {ns : List Str} {Q : Unit → Shared → Prop} (X : K.In s.heap) (I : ObjM s.heap x dx C mA)
    (hs : PySem.W.findIn K (.ref C) "__setattr__" = some (some (.builtin "object.__setattr__"))) (hp : PySem.W.plainOver K C = true) (ht : PySem.W.takerIn K C name = some none) (hh : PySem.W.hasDictIn K C = true)
    (hw : PySem.Within mA ns) (hsz : ns.length ≤ sizeLine)
    (h : ∀ h', ObjM h' x dx C (fun y => if y = name then some v else mA y) → Heap.SameBut dx s.heap h' → Q () { s with heap := h', toks := s.toks + 2 }) :
    wpAny (model prog w) A (setAttr (.ref x) name v) Q E s := by
  obtain ⟨od, J, hl⟩ := I.look
  refine PySem.W.set_plain X J hs (PySem.W.osa_open (s := { s with toks := s.toks + 1 }) (r := none) X J hp ht fun b => ?_)
  obtain ⟨cd, hc, hd'⟩ := PySem.W.any_some hh
  have hx : s.heap.get? x = some ⟨.ref C, some dx, .plain, #[]⟩ := I.obj
  refine wpAny_bind (wpAny_pure (wpAny_bind (wpAny_bind (wpAny_loadPart hx (wpAny_bind (PySem.W.Looks.here (s := { s with toks := s.toks + 1 }) (PySem.W.looks_clsIn X hc) ?_))))))
  rw [hd']
  refine wpAny_pure (a := some dx) (wpAny_bind (wpAny_pure (wpAny_bind ?_)))
  refine wpAny_nsSet1 (s := { s with toks := s.toks + 1 }) I.ns fun h' hn2 hs2 => ?_
  obtain ⟨oD, esD, epD, hoD, hdD, hcD⟩ := hn2.count (PySem.Within.cons name v hw)
  refine wpAny_bind (wpAny_lookBehind hoD (by rw [hdD]; exact pastItsLine_dict (Nat.le_trans hcD (by rw [List.length_cons]; omega))) ?_)
  exact wpAny_pure (h _ ⟨(hs2.2 _ (Ne.symm I.ne)).trans I.obj, hn2, I.ne⟩ hs2)

/-- C(..): the dict at the heap's end, the instance behind it; then its __init__ -/
theorem make_map {R : Result → Shared → Prop} {vs : List Value} {kw : List (Str × Value)} (X : K.In s.heap) (hm : PySem.W.makesIn K C = true)
    (hi : PySem.W.findIn K (.ref C) "__init__" = some (some (.ref f))) (hf : PySem.W.typeIn K (.ref f) = some (.type "function"))
    (h : codeAny (model prog w) (A.under (.builtin "type.__call__" ⟨.ref C :: vs, kw⟩)) (.call (.ref f) ⟨.ref (s.heap.objs.size + 1) :: vs, kw⟩) (PySem.W.InitBack (s.heap.objs.size + 1) R)
      { s with heap := (s.heap.push PySem.W.emptyDict).push (PySem.W.instObj C s.heap.objs.size) }) :
    codeAny (model prog w) A (.call (.ref C) ⟨vs, kw⟩) R s := by
  obtain ⟨hh, g, d, t, os⟩ := s
  exact PySem.W.make_core (PySem.W.makes_of X hm) (PySem.W.looks_findIn X hi) (fun self => PySem.W.bind_fn X self hf) (.inl rfl) h
end

/-! ### the attributes as a list of pairs -/
def putF (f : Str) (v : V) : List (Str × V) → List (Str × V)
  | [] => [(f, v)]
  | (g, x) :: r => if g = f then (g, v) :: r else (g, x) :: putF f v r
theorem lookup_putF (f g : Str) (v : V) : ∀ fs : List (Str × V), (putF f v fs).lookup g = if g = f then some v else fs.lookup g
  | [] => by
    show List.lookup g [(f, v)] = _
    by_cases h : g = f
    · have hb : (g == f) = true := beq_iff_eq.mpr h
      simp only [List.lookup, hb, if_pos h]
    · have hb : (g == f) = false := beq_eq_false_iff_ne.mpr h
      simp only [List.lookup, hb, if_neg h]
  | (k, x) :: r => by
    have ih := lookup_putF f g v r
    rw [show putF f v ((k, x) :: r) = (if k = f then (k, v) :: r else (k, x) :: putF f v r) from rfl]
    by_cases hk : k = f
    · rw [if_pos hk]
      by_cases h : g = k
      · have hb : (g == k) = true := beq_iff_eq.mpr h
        simp only [List.lookup, hb, if_pos (h.trans hk)]
      · have hb : (g == k) = false := beq_eq_false_iff_ne.mpr h
        simp only [List.lookup, hb, if_neg (fun e : g = f => h (e.trans hk.symm))]
    · rw [if_neg hk]
      by_cases h : g = k
      · have hb : (g == k) = true := beq_iff_eq.mpr h
        simp only [List.lookup, hb, if_neg (fun e : g = f => hk (h.symm.trans e))]
      · have hb : (g == k) = false := beq_eq_false_iff_ne.mpr h
        simp only [List.lookup, hb]
        exact ih
theorem keys_putF (f : Str) (v : V) : ∀ fs : List (Str × V), f ∈ (putF f v fs).map (·.1) ∧ ∀ g, g ∈ fs.map (·.1) → g ∈ (putF f v fs).map (·.1)
  | [] => ⟨by simp [putF], fun g h => by simp at h⟩
  | (k, x) :: r => by
    obtain ⟨i1, i2⟩ := keys_putF f v r
    rw [show putF f v ((k, x) :: r) = (if k = f then (k, v) :: r else (k, x) :: putF f v r) from rfl]
    by_cases hk : k = f
    · rw [if_pos hk]
      subst hk
      exact ⟨by simp, fun g h => by simpa using h⟩
    · rw [if_neg hk]
      refine ⟨?_, fun g h => ?_⟩
      · rw [List.map_cons]
        exact List.mem_cons_of_mem _ i1
      · rw [List.map_cons] at h ⊢
        rcases List.mem_cons.mp h with e | e
        · exact List.mem_cons.mpr (.inl e)
        · exact List.mem_cons_of_mem _ (i2 g e)
theorem length_putF (f : Str) (v : V) : ∀ fs : List (Str × V), (putF f v fs).length ≤ fs.length + 1
  | [] => by simp [putF]
  | (k, x) :: r => by
    have ih := length_putF f v r
    rw [show putF f v ((k, x) :: r) = (if k = f then (k, v) :: r else (k, x) :: putF f v r) from rfl]
    by_cases hk : k = f
    · rw [if_pos hk, List.length_cons, List.length_cons]; omega
    · rw [if_neg hk, List.length_cons, List.length_cons]; omega

theorem RelO.some_of {v : V} {o : Option Value} (r : RelO (some v) o) : ∃ u, o = some u ∧ RelV v u := by
  cases o with
  | none => exact (show False from r).elim
  | some u => exact ⟨u, rfl, r⟩
theorem RelO.none_of {o : Option Value} (r : RelO none o) : o = none := by
  cases o with
  | none => rfl
  | some u => exact (show False from r).elim
theorem handed_of {v : V} {u : Value} (r : RelV v u) : PySem.W.handedIn u = true := by
  cases v with
  | non => cases (show u = Value.none from r); rfl
  | bl b => cases (show u = Value.bool b from r); rfl
  | int i => obtain ⟨t, e⟩ := (show ∃ t, u = Value.int i t from r); cases e; rfl
  | str x => obtain ⟨t, e⟩ := (show ∃ t, u = Value.str x t from r); cases e; rfl
  | byt b => obtain ⟨t, e⟩ := (show ∃ t, u = Value.bytes b t from r); cases e; rfl
  | flt b => obtain ⟨t, e⟩ := (show ∃ t, u = Value.float b t from r); cases e; rfl
  | ref a => cases (show u = Value.ref a from r); rfl
  | ty n => cases (show u = Value.type n from r); rfl

section
variable {P : Program} {w : World} {H H' : Hp} {h h' : Heap} {a C dx : Addr} {fs fs' : List (Str × V)}
theorem ins_get (hok : HOk P w H h) (e : H a = some (.ins C dx fs)) : ∃ mA, ObjM h a dx C mA ∧ (∀ f, RelO (fs.lookup f) (mA f)) ∧ PySem.Within mA (fs.map (·.1)) ∧ fs.length ≤ 1000 ∧ H dx = some (.own a) := by
  obtain ⟨d, z, ne, ob, mA, n, r, q⟩ := (show ObjOk P w H h a (.ins C dx fs) from hok a _ e)
  exact ⟨mA, ⟨ob, n, ne⟩, r, q, z, d⟩
end

/-! ### what of the text a class must have -/
structure Cls (K : PySem.W.Frag) (C : Addr) : Prop where
  pg : PySem.W.plainGet K C Str.empty = true
  hd : PySem.W.hasDictIn K C = true
  po : PySem.W.plainOver K C = true
  sa : PySem.W.findIn K (.ref C) "__setattr__" = some (some (.builtin "object.__setattr__"))
theorem Cls.get {K : PySem.W.Frag} {C : Addr} (c : Cls K C) (f : Str) : PySem.W.plainGet K C f = true := c.pg
/-- no class of it has the name -/
def NoAttr (K : PySem.W.Frag) (C : Addr) (f : Str) : Prop := PySem.W.findIn K (.ref C) f = some none
theorem NoAttr.taker {K : PySem.W.Frag} {C : Addr} {f : Str} (n : NoAttr K C f) : PySem.W.takerIn K C f = some none := by
  unfold PySem.W.takerIn
  rw [show PySem.W.findIn K (.ref C) f = some none from n]
  rfl
/-- a method: a plain def of the class or of one above it -/
structure Meth (K : PySem.W.Frag) (C : Addr) (m : Str) (f : Addr) : Prop where
  at_ : PySem.W.findIn K (.ref C) m = some (some (.ref f))
  fn : PySem.W.isFn K (.ref f) = true
  kp : PySem.W.keepIn K (.ref f) = true

section
variable {X : Cx} {pins : List (Addr × Obj)} {σ : St} {H : Hp} {s : Shared} {a C dx : Addr} {fs : List (Str × V)} {f : Str} {v : V} {A : Around} {E : Value → Shared → Prop}

theorem getattr_ok {b : Bool} {Q : Value → Shared → Prop} (I : Inv X pins σ H s) (e : H a = some (.ins C dx fs)) (c : Cls X.K C) (n : NoAttr X.K C f) (l : fs.lookup f = some v)
    (h : ∀ u s', Inv X pins σ H s' → RelV v u → Q u s') : wpAny (model X.prog X.w) A (getAttr (.ref a) f b) Q E s := by
  obtain ⟨mA, O, r, _, _, _⟩ := ins_get I.hok e
  obtain ⟨u, hu, ru⟩ := RelO.some_of (v := v) (o := mA f) (by rw [← l]; exact r f)
  exact get_map I.kIn O (c.get f) c.hd n hu (handed_of ru) (h u _ (I.tok _) ru)

theorem getmeth_ok {m : Str} {g : Addr} {pl : Sem Bool} {Q : Value × List Value → Shared → Prop} (I : Inv X pins σ H s) (e : H a = some (.ins C dx fs)) (c : Cls X.K C) (k : Meth X.K C m g) (l : fs.lookup m = none)
    (h : Q (.ref g, [.ref a]) s) : wpAny (model X.prog X.w) A (getMethod (.ref a) m pl) Q E s := by
  obtain ⟨mA, O, r, _, _, _⟩ := ins_get I.hok e
  have hn : mA m = none := RelO.none_of (by rw [← l]; exact r m)
  exact get_meth I.kIn O (c.get m) k.at_ k.fn hn h

theorem setattr_ok {y : V} {u : Value} {Q : Unit → Shared → Prop} (I : Inv X pins σ H s) (e : H a = some (.ins C dx fs)) (c : Cls X.K C) (n : NoAttr X.K C f) (hl : fs.length < 1000) (ry : RelV y u)
    (h : ∀ s', Inv X pins σ (upd H a (.ins C dx (putF f y fs))) s' → Q () s') : wpAny (model X.prog X.w) A (setAttr (.ref a) f u) Q E s := by
  obtain ⟨mA, O, r, wi, _, ho⟩ := ins_get I.hok e
  have hz : (fs.map (·.1)).length ≤ sizeLine := by rw [List.length_map, sizeLine_eq]; omega
  refine set_map I.kIn O c.sa c.po n.taker c.hd wi hz fun h' O' sb => h _ ?_
  have hd : ∃ o, h'.get? dx = some o := let ⟨o, _, _, e', _⟩ := O'.ns; ⟨o, e'⟩
  refine I.write (x := a) (e := dx) (by rw [e]; exact True.intro) (.inr ho) (fun b q hb z => (sb.2 b hb).trans z) hd ?_
  refine ⟨by rw [upd_ne O.ne]; exact ho, ?_, O.ne, O'.obj, _, O'.ns, fun g => ?_, fun g hg => ?_⟩
  · have := length_putF f y fs; omega
  · show RelO ((putF f y fs).lookup g) (if g = f then some u else mA g)
    rw [lookup_putF]
    by_cases q : g = f
    · rw [if_pos q, if_pos q]; exact ry
    · rw [if_neg q, if_neg q]; exact r g
  · by_cases q : g = f
    · rw [q]; exact (keys_putF f y fs).1
    · refine (keys_putF f y fs).2 g (wi g fun z => hg ?_)
      show (if g = f then some u else mA g) = none
      rw [if_neg q]; exact z

/-- a new instance, tracked, without attributes -/
theorem Inv.made (I : Inv X pins σ H s) : Inv X pins σ (upd (upd H s.heap.objs.size (.own (s.heap.objs.size + 1))) (s.heap.objs.size + 1) (.ins C s.heap.objs.size []))
    { s with heap := (s.heap.push PySem.W.emptyDict).push (PySem.W.instObj C s.heap.objs.size) } := by
  have e1 : (s.heap.push PySem.W.emptyDict).get? s.heap.objs.size = some PySem.W.emptyDict := Heap.get?_push_size s.heap rfl
  have e2 : ((s.heap.push PySem.W.emptyDict).push (PySem.W.instObj C s.heap.objs.size)).get? (s.heap.objs.size + 1) = some (PySem.W.instObj C s.heap.objs.size) := by
    have := Heap.get?_push_size (s.heap.push PySem.W.emptyDict) (o := PySem.W.instObj C s.heap.objs.size) rfl
    rwa [Heap.size_push] at this
  have e3 : (s.heap.push PySem.W.emptyDict).Ns s.heap.objs.size (fun _ => none) := ⟨PySem.W.emptyDict, #[], _, e1, rfl, (fun e he => absurd he (by simp)), fun _ => rfl⟩
  have I1 := I.laid (a := s.heap.objs.size) (o := .own (s.heap.objs.size + 1)) (h' := s.heap.push PySem.W.emptyDict) (t' := s.toks) (fun b u q => Heap.get?_push_of_some _ q) (Nat.le_refl _) ⟨_, e1⟩
  refine I1.laid (a := s.heap.objs.size + 1) (o := .ins C s.heap.objs.size []) (t' := s.toks) (fun b u q => Heap.get?_push_of_some _ q) (Nat.le_of_eq (Heap.size_push _ _)) ?_
  have ne : s.heap.objs.size ≠ s.heap.objs.size + 1 := Nat.ne_of_lt (Nat.lt_succ_self _)
  refine ⟨by rw [upd_ne ne, upd_same], Nat.zero_le _, ne, e2, fun _ => none, (Heap.Ns1.of_empty e3).at fun o q => Heap.get?_push_of_some _ q, fun _ => True.intro, fun y hy => absurd rfl hy⟩

/-- e.f where nothing but the object is asked: through attributeBase (super) and the last hold -/
theorem attr_of {prog : Program} {w : World} {env : Env} {e : Expr} {f : Str} {pos : Pos} {s : Shared} {Q : Value → Shared → Prop} (hb : attributeBase e f env (eval e env) = eval e env)
    (h : wpAny (model prog w) A (eval e env) (fun o s₁ => wpAny (model prog w) A (getAttr o f true) Q E s₁) E s) : wpAny (model prog w) A (eval (.Attribute e f pos) env) Q E s :=
  Attribute_any_ h (by rw [arm_eval_Attribute, hb])
end

/-! ### readings and rules -/
/-- e.f, an attribute of the instance -/
def tFld (K : PySem.W.Frag) (ta : TE) (f : Str) : TE := fun σ H Q => ta σ H fun x H1 => ∃ a C dx fs v, x = .ref a ∧ H1 a = some (.ins C dx fs) ∧ Cls K C ∧ NoAttr K C f ∧ fs.lookup f = some v ∧ Q v H1
/-- e.f = value -/
def sFld (K : PySem.W.Frag) (ta tv : TE) (f : Str) : TS := fun D σ H => tv σ H fun y H1 => ta σ H1 fun x H2 => ∃ a C dx fs, x = .ref a ∧ H2 a = some (.ins C dx fs) ∧ Cls K C ∧ NoAttr K C f ∧ fs.length < 1000 ∧
  D.nx σ (upd H2 a (.ins C dx (putF f y fs)))
section
variable {X : Cx} {o e value : Expr} {f : Str} {pos pos' tpos : Pos} {ta tv : TE}
theorem pe_fld (he : PE X e ta) (hb : attributeBase e f X.env (eval e X.env) = eval e X.env) : PE X (.Attribute e f pos) (tFld X.K ta f) := by
  intro pins s σ H Q I h
  refine attr_of hb (thn (he pins s σ H _ I h) fun u s1 ⟨x, H1, I1, rx, a, C, dx, fs, v, ex, ea, c, n, l, q⟩ => ?_)
  subst ex
  obtain rfl : u = Value.ref a := rx
  exact getattr_ok I1 ea c n l fun u' s2 I2 ru => ⟨v, H1, I2, ru, q⟩
theorem ps_fld (ha : PE X o ta) (hv : PE X value tv) (hs : swapsWith value (some (.Attribute o f pos')) pos.line X.env = pure false) : PS X (.Assign [.Attribute o f pos'] value pos) (sFld X.K ta tv f) := by
  intro pins s σ H D I h
  refine plainObj_wpAny_Assign_Attribute (thn (hv pins s σ H _ I h) fun u s1 ⟨y, H1, I1, ry, q⟩ => thn (ha pins s1 σ H1 _ I1 q) fun ov s2 ⟨x, H2, I2, rx, a, C, dx, fs, ex, ea, c, n, l, q2⟩ => ?_) hs
  subst ex
  obtain rfl : ov = Value.ref a := rx
  exact setattr_ok I2 ea c n l ry fun s3 I3 => ⟨σ, _, I3, q2⟩
end

/-! ### isinstance -/
section
variable {X : Cx} {pins : List (Addr × Obj)} {σ : St} {H : Hp} {s : Shared} {A : Around} {E : Value → Shared → Prop} {Q : Value → Shared → Prop} {c : Value} {b : Bool}
end
end L2

namespace L2
open PySem PySem.Spec PyProof.Rows

/-! ### room -/
structure Room (k : Nat) (A : Around) : Prop where
  hd : A.handled = none
  dp : A.depth + 3 * k + 5 < recursionLimit
  un : A.units + 16 * k + 200 < cLine
theorem Room.mono {j k : Nat} {A : Around} (r : Room k A) (h : j ≤ k) : Room j A := ⟨r.hd, by have := r.dp; omega, by have := r.un; omega⟩
theorem Room.deeper {k : Nat} {A : Around} (r : Room (k + 1) A) (env : Env) : Room k (A.deeper env) :=
  ⟨r.hd, by have := r.dp; show A.depth + 1 + 3 * k + 5 < _; omega, by have := r.un; show A.units + 3 + 16 * k + 200 < _; omega⟩
theorem Room.in1 {k : Nat} {A : Around} (r : Room (k + 1) A) : Room k A.in1 :=
  ⟨r.hd, by have := r.dp; show A.depth + 3 * k + 5 < _; omega, by have := r.un; show A.units + 1 + 16 * k + 200 < _; omega⟩
theorem make_depth {A : Around} {C : Addr} {us : List Value} {kw : List (Str × Value)} : (A.under (.builtin "type.__call__" ⟨.ref C :: us, kw⟩)).depth = A.depth + 1 := by
  first | rfl | simp [Around.under, Code.weight, Code.isCreation, Code.isGuard, Code.isCaller, Code.frames, Code.isFrame, guardIds]
theorem make_units {A : Around} {C : Addr} {us : List Value} {kw : List (Str × Value)} : (A.under (.builtin "type.__call__" ⟨.ref C :: us, kw⟩)).units = A.units + 1 := by
  first | rfl | simp [Around.under, Code.cUnits, Code.frames, Code.isFrame]
theorem Room.make {k : Nat} {A : Around} (r : Room (k + 1) A) (C : Addr) (us : List Value) (kw : List (Str × Value)) : Room k (A.under (.builtin "type.__call__" ⟨.ref C :: us, kw⟩)) :=
  ⟨r.hd, by have := r.dp; rw [make_depth]; omega, by have := r.un; rw [make_units]; omega⟩
theorem Room.depth {k : Nat} {A : Around} (r : Room k A) : A.depth < recursionLimit := by have := r.dp; omega
theorem Room.units {k : Nat} {A : Around} (r : Room k A) : A.units + 64 < cLine := by have := r.un; omega
theorem Room.units0 {k : Nat} {A : Around} (r : Room k A) : A.units < cLine := by have := r.un; omega

/-! ### argument lists and displays -/
def tNil : TA := fun _ H Q => Q [] H
def tCons (ta : TE) (tr : TA) : TA := fun σ H Q => ta σ H fun x H1 => tr σ H1 fun xs H2 => Q (x :: xs) H2
section
variable {X : Cx} {e : Expr} {es : List Expr} {te : TE} {t : TA} {pos : Pos}
theorem pa_nil : PA X [] tNil := fun _ _ _ _ H Q I h => Calls.spliced_nil ⟨[], H, I, .nil, h⟩
theorem pa_cons (ha : PE X e te) (hr : PA X es t) (hs : starEach (e :: es) X.env = (false, eval e X.env) :: starEach es X.env := by rfl) : PA X (e :: es) (tCons te t) := by
  intro pos pins s σ H Q I h
  rw [hs]
  show wpAny _ _ (spliced ((false, eval e X.env) :: backTo pos (starEach es X.env))) _ _ s
  refine Calls.spliced_cons (thn (ha pins s σ H _ I h) fun u s1 ⟨x, H1, I1, r1, q1⟩ => ?_)
  exact thn (hr pos pins s1 σ H1 _ I1 q1) fun us s2 ⟨xs, H2, I2, r2, q2⟩ => ⟨x :: xs, H2, I2, .cons r1 r2, q2⟩

/-- a tuple, a list of written items -/
def tTup (t : TA) : TE := fun σ H Q => t σ H fun xs H1 => xs.length ≤ sizeLine ∧ ∀ p, H1 p = none → Q (.ref p) (upd H1 p (.tup xs))
def tLst (t : TA) : TE := fun σ H Q => t σ H fun xs H1 => xs.length ≤ sizeLine ∧ ∀ p, H1 p = none → Q (.ref p) (upd H1 p (.lst xs))
theorem pe_tup {x1} (h : PA X es t) : PE X (.Tuple es x1 pos) (tTup t) := by
  intro pins s σ H Q I hq
  refine wpAny_Tuple_spliced (thn (h pos pins s σ H _ I hq) fun us s1 ⟨xs, H1, I1, r, z, q⟩ => ⟨by rw [← r.length]; exact z, ?_⟩)
  have hf : H1 s1.heap.objs.size = none := I1.hok.fresh (Nat.le_refl _)
  refine ⟨.ref s1.heap.objs.size, upd H1 s1.heap.objs.size (.tup xs), I1.laid (t' := s1.toks) (fun b u e => Heap.get?_push_of_some _ e) (Nat.le_refl _) ?_, rfl, q _ hf⟩
  exact ⟨z, us, r, ⟨_, Heap.get?_push_size _ rfl, rfl, _, rfl⟩⟩
theorem pe_lst (h : PA X es t) : PE X (.List es pos) (tLst t) := by
  intro pins s σ H Q I hq
  refine wpAny_List_spliced (thn (h pos pins s σ H _ I hq) fun us s1 ⟨xs, H1, I1, r, z, q⟩ => ⟨by rw [← r.length]; exact z, ?_⟩)
  have hf : H1 s1.heap.objs.size = none := I1.hok.fresh (Nat.le_refl _)
  refine ⟨.ref s1.heap.objs.size, upd H1 s1.heap.objs.size (.lst xs), I1.laid (t' := s1.toks) (fun b u e => Heap.get?_push_of_some _ e) (Nat.le_refl _) ?_, rfl, q _ hf⟩
  exact ⟨z, us, 0, r, Heap.get?_push_size _ rfl⟩
end

/-! ### what a def promises -/
/-- a def's promise: the bound arguments in the parameters' order, the heap, the wanted end, the wanted exception -/
abbrev Sp := List V → Hp → VK → XK → Prop
/-- how an exception lies behind a call (file 08 gives it): the callers' frames, abstract heap and state ahead of the call, the wish, the exception, the state -/
abbrev CXT := List Env → Hp → Shared → XK → Value → Shared → Prop

/-- the state at a call -/
structure Env0 (P : Program) (w : World) (K : PySem.W.Frag) (mg : Str → Option Value) (base : Heap) (A : Around) (outer : List Env) (s : Shared) (H : Hp) : Prop where
  frames : A.frames = some outer
  mod : Mod K mg base
  bs : ∀ b o, base.get? b = some o → s.heap.get? b = some o ∧ H b = none
  bsz : base.objs.size ≤ s.heap.objs.size
  funs : s.heap.FunFrames base outer
  frf : ∀ b ∈ frs outer, H b = none
  hok : HOk P w H s.heap
  bare : AllBare s.gens
/-- a call's end -/
def CE (outer : List Env) (P : Program) (w : World) (H : Hp) (s : Shared) (Q : VK) (u : Value) (s' : Shared) : Prop :=
  ∃ v H', s'.os = s.os ∧ AllBare s'.gens ∧ Un (frs outer) [] H H' s.heap s'.heap ∧ HOk P w H' s'.heap ∧ RelV v u ∧ Q v H'
def CR (CX : CXT) (outer : List Env) (P : Program) (w : World) (H : Hp) (s : Shared) (Q : VK) (E : XK) (r : Result) (s' : Shared) : Prop :=
  match r with
  | .ok (.ret u) => CE outer P w H s Q u s'
  | .ok _ => False
  | .error e => CX outer H s E e s'
structure FnOk (P : Program) (w : World) (K : PySem.W.Frag) (mg : Str → Option Value) (base : Heap) (CX : CXT) (k : Nat) (f : Addr) (fd : FuncData) (ps : List Str) (sp : Sp) : Prop where
  len : ∀ vs H Q E, sp vs H Q E → vs.length = ps.length
  run : ∀ (A : Around) (outer : List Env) (s : Shared) (H : Hp) (args : Args) (us : List Value) (vs : List V) (Q : VK) (E : XK), Room k A → Env0 P w K mg base A outer s H → BindsTo s fd args (ps.zip us) → Vals vs us → sp vs H Q E →
    codeAny (model P w) A (.call (.ref f) args) (CR CX outer P w H s Q E) s
theorem FnOk.mono {P : Program} {w : World} {K : PySem.W.Frag} {mg : Str → Option Value} {base : Heap} {CX : CXT} {j k : Nat} {f : Addr} {fd : FuncData} {ps : List Str} {sp : Sp} (F : FnOk P w K mg base CX j f fd ps sp) (h : j ≤ k) :
    FnOk P w K mg base CX k f fd ps sp := ⟨F.len, fun A outer s H args us vs Q E hr => F.run A outer s H args us vs Q E (hr.mono h)⟩
theorem Env0.make {P : Program} {w : World} {K : PySem.W.Frag} {mg : Str → Option Value} {base : Heap} {A : Around} {outer : List Env} {s : Shared} {H : Hp} (e : Env0 P w K mg base A outer s H) (C : Addr) (us : List Value) (kw : List (Str × Value)) :
    Env0 P w K mg base (A.under (.builtin "type.__call__" ⟨.ref C :: us, kw⟩)) outer s H := ⟨by first | exact e.frames | (simpa [Around.under, Code.envs, Code.isFrame, pushEnvs] using e.frames), e.mod, e.bs, e.bsz, e.funs, e.frf, e.hok, e.bare⟩
section
variable {X : Cx} {pins : List (Addr × Obj)} {σ : St} {H : Hp} {s s' : Shared}
/-- from a body: what a callee wants -/
theorem Inv.env0 (I : Inv X pins σ H s) : Env0 X.prog X.w X.K X.mg X.base X.A X.stack s H :=
  ⟨I.ok.frames, I.ok.mod, I.bs, Nat.le_trans I.ok.bsz I.sz, I.stack, I.stkFree, I.hok, I.bare⟩
/-- behind a call -/
theorem Inv.after {Q : VK} {u : Value} (I : Inv X pins σ H s) (h : CE X.stack X.prog X.w H s Q u s') : EP X pins σ Q u s' := by
  obtain ⟨v, H', os, bare, un, hok, r, q⟩ := h
  obtain ⟨hh, g, d, t, os'⟩ := s'
  obtain rfl : os' = s.os := os
  exact ⟨v, H', I.call (h' := hh) (g' := g) (d' := d) (t' := t) (ch := []) un hok bare (fun b z => absurd z (by simp)), r, q⟩
end

/-! ### calls -/
/-- f(..): the written arguments, then the defaults dvs; E: what is wanted of an exception -/
def tCall (sp : Sp) (dvs : List V) (E : XK) (t : TA) : TE := fun σ H Q => t σ H fun vs H1 => sp (vs ++ dvs) H1 Q E
/-- o.m(..) of an instance of the class at C -/
def tMeth (C : Addr) (m : Str) (sp : Sp) (dvs : List V) (E : XK) (ta : TE) (t : TA) : TE := fun σ H Q => ta σ H fun x H1 => ∃ a dx fs, x = .ref a ∧ H1 a = some (.ins C dx fs) ∧ fs.lookup m = none ∧
  t σ H1 fun vs H2 => sp (x :: (vs ++ dvs)) H2 Q E
/-- C(..): a new instance and its dict, then __init__ -/
def tMake (C : Addr) (sp : Sp) (dvs : List V) (E : XK) (t : TA) : TE := fun σ H Q => t σ H fun vs H1 => ∀ x dx, H1 x = none → H1 dx = none → dx ≠ x →
  sp (.ref x :: (vs ++ dvs)) (upd (upd H1 dx (.own x)) x (.ins C dx [])) (fun v H2 => v = .non ∧ Q (.ref x) H2) E

/-- how the parameters are bound: us the positional arguments, kw the keywords' values by name, ds the defaults that fill up -/
def Binds (K : PySem.W.Frag) (fd : FuncData) (ps : List Str) (ds : List Value) : Prop :=
  ∀ (s : Shared) (us : List Value), K.In s.heap → (us ++ ds).length = ps.length → BindsTo s fd ⟨us, []⟩ (ps.zip (us ++ ds))
/-- every parameter is given -/
theorem Binds.all {K : PySem.W.Frag} {fd : FuncData} {ps : List Str} (h : ∀ us : List Value, us.length = ps.length → bindArgs fd ⟨us, []⟩ = pure (ps.zip us)) : Binds K fd ps [] := fun s us _ hl => by
  rw [List.append_nil] at hl ⊢
  exact .of_eq (h us hl)

/-- an exception of a callee reaches what this body wants of exceptions -/
def Passes (CX : CXT) (X : Cx) (E : XK) : Prop := ∀ (pins : List (Addr × Obj)) (σ : St) (H : Hp) (s : Shared) (e : Value) (s' : Shared), Inv X pins σ H s → CX X.stack H s E e s' → X.xe e s'

section
variable {X : Cx} {CX : CXT} {k : Nat} {f C : Addr} {fd : FuncData} {ps : List Str} {sp : Sp} {dvs : List V} {ds : List Value} {E : XK} {x m : Str} {p pos apos : Pos} {e o : Expr} {es : List Expr} {ta : TE} {t : TA}

/-- the callee runs -/
theorem run_fn {pins : List (Addr × Obj)} {σ : St} {H : Hp} {s : Shared} {Q : VK} {us : List Value} {vs : List V} (F : FnOk X.prog X.w X.K X.mg X.base CX k f fd ps sp) (hr : Room k X.A) (hb : Binds X.K fd ps ds) (hd : Vals dvs ds) (hx : Passes CX X E)
    (I : Inv X pins σ H s) (r : Vals vs us) (h : sp (vs ++ dvs) H Q E) : wpAny (model X.prog X.w) X.A (call (.ref f) us) (EP X pins σ Q) X.xe s := by
  have r2 : Vals (vs ++ dvs) (us ++ ds) := r.append hd
  have hl : (us ++ ds).length = ps.length := by rw [← r2.length]; exact F.len _ _ _ _ h
  refine wpAny_call (codeAny_mono (F.run X.A X.stack s H ⟨us, []⟩ (us ++ ds) (vs ++ dvs) Q E hr I.env0 (hb s us I.kIn hl) r2 h) fun r s' hq => ?_)
  cases r with
  | error e => exact hx pins σ H s e s' I hq
  | ok fl =>
    cases fl with
    | ret u => exact I.after hq
    | next => exact False.elim hq
    | brk => exact False.elim hq
    | cont => exact False.elim hq

theorem pe_call (F : FnOk X.prog X.w X.K X.mg X.base CX k f fd ps sp) (hr : Room k X.A) (hg : Gl X x) (hm : X.mg x = some (.ref f)) (hk : PySem.W.keepIn X.K (.ref f) = true) (hb : Binds X.K fd ps ds) (hd : Vals dvs ds) (hx : Passes CX X E)
    (ha : PA X (e :: es) t) (hdb : (x == ("__debug__" : Str)) = false := by decide) (he : starEach (e :: es) X.env = (false, eval e X.env) :: starEach es X.env := by rfl) (hpl : (backTo pos (starEach es X.env)).any (·.1) = false := by rfl) :
    PE X (.Call (.Name x p) (e :: es) [] pos) (tCall sp dvs E t) := by
  intro pins s σ H Q I h
  refine wpAny_Call_Name_kw (ld_glob I hg hm ?_ hdb)
  refine PySem.W.callWith_K (h₀ := X.base) I.ok.mod.kin hk (thn (ha pos pins s σ H _ I h) fun us s1 ⟨vs, H1, I1, r, q⟩ => ⟨I1.kIn, ?_⟩) he hpl
  exact run_fn F hr hb hd hx I1 r q
/-- o.m(e, ..) -/
theorem pe_meth {pl : Sem Bool} (he : PE X o ta) (c : Cls X.K C) (hm : Meth X.K C m f) (F : FnOk X.prog X.w X.K X.mg X.base CX k f fd ps sp) (hr : Room k X.A) (hb : Binds X.K fd ps ds) (hd : Vals dvs ds) (hx : Passes CX X E) (ha : PA X (e :: es) t)
    (hst : starEach (e :: es) X.env = (false, eval e X.env) :: starEach es X.env := by rfl) (hpl : (backTo pos (starEach es X.env)).any (·.1) = false := by rfl)
    (ht : eval (.Call (.Attribute o m apos) (e :: es) [] pos) X.env = (do
      let ov ← eval o X.env
      standAt apos.atName
      let (f, first) ← holding [ov] (getMethod ov m pl)
      callWith pos f first (backTo pos (starEach (e :: es) X.env)) (backToKw pos (keywordEach [] X.env))) := by rfl) :
    PE X (.Call (.Attribute o m apos) (e :: es) [] pos) (tMeth C m sp dvs E ta t) := by
  intro pins s σ H Q I h
  refine PySem.W.methodCall_KW (pl := pl) (thn (he pins s σ H _ I h) fun u s1 ⟨x, H1, I1, rx, a, dx, fs, ex, ea, l, q⟩ => ?_) ht
  subst ex
  obtain rfl : u = Value.ref a := rx
  refine getmeth_ok I1 ea c hm l ?_
  refine PySem.W.callWith_K (first := [.ref a]) (h₀ := X.base) I.ok.mod.kin hm.kp (thn (ha pos pins s1 σ H1 _ I1 q) fun us s2 ⟨vs, H2, I2, r, q2⟩ => ⟨I2.kIn, ?_⟩) hst hpl
  exact run_fn (us := .ref a :: us) (vs := .ref a :: vs) F hr hb hd hx I2 (.cons rfl r) q2
/-- o.m() -/
theorem pe_meth0 {pl : Sem Bool} (he : PE X o ta) (c : Cls X.K C) (hm : Meth X.K C m f) (F : FnOk X.prog X.w X.K X.mg X.base CX k f fd ps sp) (hr : Room k X.A) (hb : Binds X.K fd ps ds) (hd : Vals dvs ds) (hx : Passes CX X E)
    (ht : eval (.Call (.Attribute o m apos) [] [] pos) X.env = (do
      let ov ← eval o X.env
      standAt apos.atName
      let (f, first) ← holding [ov] (getMethod ov m pl)
      callWith pos f first (backTo pos (starEach [] X.env)) (backToKw pos (keywordEach [] X.env))) := by rfl) :
    PE X (.Call (.Attribute o m apos) [] [] pos) (tMeth C m sp dvs E ta tNil) := by
  intro pins s σ H Q I h
  refine PySem.W.methodCall_KW (pl := pl) (thn (he pins s σ H _ I h) fun u s1 ⟨x, H1, I1, rx, a, dx, fs, ex, ea, l, q⟩ => ?_) ht
  subst ex
  obtain rfl : u = Value.ref a := rx
  refine getmeth_ok I1 ea c hm l ?_
  exact PySem.W.callWith_K0 (first := [.ref a]) I1.kIn hm.kp (run_fn (us := [.ref a]) (vs := [.ref a]) F hr hb hd hx I1 (.cons rfl .nil) q)

/-- what a class must have to be made -/
structure Mk (K : PySem.W.Frag) (C f : Addr) : Prop where
  makes : PySem.W.makesIn K C = true
  init : PySem.W.findIn K (.ref C) "__init__" = some (some (.ref f))
  fn : PySem.W.isFn K (.ref f) = true
  kp : PySem.W.keepIn K (.ref C) = true

theorem run_make {pins : List (Addr × Obj)} {σ : St} {H : Hp} {s : Shared} {Q : VK} {us : List Value} {vs : List V} (M : Mk X.K C f) (F : FnOk X.prog X.w X.K X.mg X.base CX k f fd ps sp) (hr : Room (k + 1) X.A) (hb : Binds X.K fd ps ds) (hd : Vals dvs ds)
    (hx : Passes CX X E) (I : Inv X pins σ H s) (r : Vals vs us)
    (h : ∀ x dx, H x = none → H dx = none → dx ≠ x → sp (.ref x :: (vs ++ dvs)) (upd (upd H dx (.own x)) x (.ins C dx [])) (fun v H2 => v = .non ∧ Q (.ref x) H2) E) :
    wpAny (model X.prog X.w) X.A (call (.ref C) us) (EP X pins σ Q) X.xe s := by
  have hq := h (s.heap.objs.size + 1) s.heap.objs.size (I.hok.fresh (Nat.le_succ _)) (I.hok.fresh (Nat.le_refl _)) (Nat.ne_of_lt (Nat.lt_succ_self _))
  have I2 := Inv.made (C := C) I
  have r2 : Vals (V.ref (s.heap.objs.size + 1) :: (vs ++ dvs)) (Value.ref (s.heap.objs.size + 1) :: (us ++ ds)) := .cons rfl (r.append hd)
  have hl : (Value.ref (s.heap.objs.size + 1) :: us ++ ds).length = ps.length := by
    have e := r2.length
    rw [F.len _ _ _ _ hq] at e
    exact e.symm
  refine wpAny_call (make_map (f := f) I.kIn M.makes M.init (beq_iff_eq.mp M.fn) (codeAny_mono (F.run _ X.stack _ _ ⟨Value.ref (s.heap.objs.size + 1) :: us, []⟩ (Value.ref (s.heap.objs.size + 1) :: (us ++ ds)) _ _ E (hr.make C us [])
    (I2.env0.make C us []) (hb _ (Value.ref (s.heap.objs.size + 1) :: us) I2.kIn hl) r2 hq) fun r s' hq' => ?_))
  cases r with
  | error e => exact hx pins σ _ _ e s' I2 hq'
  | ok fl =>
    cases fl with
    | ret u =>
      obtain ⟨v, H', I3, rv, ev, q3⟩ := I2.after hq'
      subst ev
      exact ⟨rv, ⟨V.ref (s.heap.objs.size + 1), H', I3, rfl, q3⟩⟩
    | next => exact False.elim hq'
    | brk => exact False.elim hq'
    | cont => exact False.elim hq'
theorem pe_make (M : Mk X.K C f) (F : FnOk X.prog X.w X.K X.mg X.base CX k f fd ps sp) (hr : Room (k + 1) X.A) (hg : Gl X x) (hm : X.mg x = some (.ref C)) (hb : Binds X.K fd ps ds) (hd : Vals dvs ds) (hx : Passes CX X E)
    (ha : PA X (e :: es) t) (hdb : (x == ("__debug__" : Str)) = false := by decide) (he : starEach (e :: es) X.env = (false, eval e X.env) :: starEach es X.env := by rfl) (hpl : (backTo pos (starEach es X.env)).any (·.1) = false := by rfl) :
    PE X (.Call (.Name x p) (e :: es) [] pos) (tMake C sp dvs E t) := by
  intro pins s σ H Q I h
  refine wpAny_Call_Name_kw (ld_glob I hg hm ?_ hdb)
  refine PySem.W.callWith_K (h₀ := X.base) I.ok.mod.kin M.kp (thn (ha pos pins s σ H _ I h) fun us s1 ⟨vs, H1, I1, r, q⟩ => ⟨I1.kIn, ?_⟩) he hpl
  exact run_make M F hr hb hd hx I1 r q
end

/-! ### keywords -/
/-- the values of the keywords, from the left -/
def PK (X : Cx) (kws : List Keyword) (t : TA) : Prop :=
  ∀ (pos : Pos) (pins : List (Addr × Obj)) (s : Shared) (σ : St) (H : Hp) (Q : List V → Hp → Prop), Inv X pins σ H s → t σ H Q → wpAny (model X.prog X.w) X.A (evalAll ((backToKw pos (keywordEach kws X.env)).map (·.2))) (AP X pins σ Q) X.xe s
section
variable {X : Cx} {CX : CXT} {k : Nat} {f C : Addr} {fd : FuncData} {ps ks : List Str} {sp : Sp} {E : XK} {x m : Str} {p pos apos kpos : Pos} {e o : Expr} {es : List Expr} {kws : List Keyword} {te ta : TE} {t tk : TA} {nm : Option Str}
theorem pk_nil : PK X [] tNil := fun _ _ _ _ H Q I h => wpAny_evalAll_nil ⟨[], H, I, .nil, h⟩
theorem pk_cons (ha : PE X e te) (hr : PK X kws t) : PK X (⟨nm, e, kpos⟩ :: kws) (tCons te t) := by
  intro pos pins s σ H Q I h
  show wpAny _ _ (evalAll ((do let v ← eval e X.env; standAt pos; pure v) :: (backToKw pos (keywordEach kws X.env)).map (·.2))) _ _ s
  refine wpAny_evalAll_cons (wpAny_bind (thn (ha pins s σ H _ I h) fun u s1 ⟨x, H1, I1, r1, q1⟩ => wpAny_bind (wpAny_standAt (wpAny_pure ?_))))
  exact thn (hr pos pins s1 σ H1 _ I1 q1) fun us s2 ⟨xs, H2, I2, r2, q2⟩ => ⟨x :: xs, H2, I2, .cons r1 r2, q2⟩

variable {g : List Value → List Value → List Value} {gV : List V → List V → List V}
end

/-! ### a def's body keeps its promise -/
/-- names: the parameters first -/
structure FnScope (N P : List Str) (sc : Scope) : Prop where
  kind : sc.kind = .function
  co : sc.isCoroutine = false
  gen : sc.isGenerator = false
  nd : N.Nodup
  pre : N.take P.length = P
  par : ∀ x ∈ P, sc.names.lookup x = some .local ∨ sc.names.lookup x = some .cell
  nofree : ∀ y ∈ sc.names, y.2 ≠ .free

theorem bindL_out {kindOf : Str → Option NameKind} {x : Str} : ∀ {binds : List (Str × Value)} {m : Str → Option Value}, (∀ v, (x, v) ∉ binds) → bindL kindOf binds m x = m x
  | [], _, _ => rfl
  | (n, v) :: r, m, h => by
    unfold bindL
    rw [bindL_out fun w hw => h w (List.mem_cons_of_mem _ hw)]
    split
    · have : x ≠ n := by rintro rfl; exact h v List.mem_cons_self
      simp [this]
    · rfl
theorem bindC_out {kindOf : Str → Option NameKind} {x : Str} : ∀ {binds : List (Str × Value)} {m : Str → Option Value}, (∀ v, (x, v) ∉ binds) → bindC kindOf binds m x = m x
  | [], _, _ => rfl
  | (n, v) :: r, m, h => by
    unfold bindC
    rw [bindC_out fun w hw => h w (List.mem_cons_of_mem _ hw)]
    split
    · rfl
    · have : x ≠ n := by rintro rfl; exact h v List.mem_cons_self
      simp [this]
theorem bindL_get {kindOf : Str → Option NameKind} {x : Str} {v : Value} : ∀ {P : List Str} {vs : List Value} {i : Nat} {m : Str → Option Value}, P.Nodup → P[i]? = some x → vs[i]? = some v → kindOf x = some .local →
    bindL kindOf (P.zip vs) m x = some v
  | [], _, _, _, _, h, _, _ => by simp at h
  | _ :: _, [], _, _, _, _, h, _ => by simp at h
  | p :: P, w :: vs, 0, m, nd, h1, h2, hk => by
    simp at h1 h2; subst h1; subst h2
    show bindL kindOf ((p, w) :: P.zip vs) m p = _
    unfold bindL
    rw [bindL_out fun v hv => (List.nodup_cons.mp nd).1 (List.of_mem_zip hv).1, if_pos hk]
    simp
  | p :: P, w :: vs, i + 1, m, nd, h1, h2, hk => by
    show bindL kindOf ((p, w) :: P.zip vs) m x = _
    unfold bindL
    exact bindL_get (i := i) (List.nodup_cons.mp nd).2 (by simpa using h1) (by simpa using h2) hk
theorem bindC_get {kindOf : Str → Option NameKind} {x : Str} {v : Value} : ∀ {P : List Str} {vs : List Value} {i : Nat} {m : Str → Option Value}, P.Nodup → P[i]? = some x → vs[i]? = some v → kindOf x ≠ some .local →
    bindC kindOf (P.zip vs) m x = some v
  | [], _, _, _, _, h, _, _ => by simp at h
  | _ :: _, [], _, _, _, _, h, _ => by simp at h
  | p :: P, w :: vs, 0, m, nd, h1, h2, hk => by
    simp at h1 h2; subst h1; subst h2
    show bindC kindOf ((p, w) :: P.zip vs) m p = _
    unfold bindC
    rw [bindC_out fun v hv => (List.nodup_cons.mp nd).1 (List.of_mem_zip hv).1, if_neg hk]
    simp
  | p :: P, w :: vs, i + 1, m, nd, h1, h2, hk => by
    show bindC kindOf ((p, w) :: P.zip vs) m x = _
    unfold bindC
    exact bindC_get (i := i) (List.nodup_cons.mp nd).2 (by simpa using h1) (by simpa using h2) hk

/-- the names' values at the entry -/
def start (N : List Str) (vs : List V) : St := vs.map some ++ List.replicate (N.length - vs.length) none

/-- the context of a def's body, at its entry; an exception leaves the frame, then lies as CX says -/
def cxOf (CX : CXT) (P : Program) (w : World) (K : PySem.W.Frag) (mg : Str → Option Value) (base : Heap) (N : List Str) (qual : Str) (scope : Scope) (f : Addr) (cd : Value) (A : Around) (outer : List Env) (s : Shared) (H : Hp) (E : XK) : Cx where
  prog := P
  w := w
  K := K
  mg := mg
  base := base
  A := A.deeper (envOfC qual scope s.heap.objs.size f cd)
  N := N
  s₀ := s
  H₀ := H
  env := envOfC qual scope s.heap.objs.size f cd
  outer := outer
  stack := envOfC qual scope s.heap.objs.size f cd :: outer
  ex := []
  calm := true
  fn := fun _ => true
  pn := []
  xe := fun e s' => wpAny (model P w) (A.deeper (envOfC qual scope s.heap.objs.size f cd)) (leaving (envOfC qual scope s.heap.objs.size f cd) e) (fun _ s'' => CX outer H s E e s'') (fun e' s'' => CX outer H s E e' s'') s'

theorem cell_has {sc : Scope} {n : Nat} {x : Str} (h : sc.names.lookup x = some .cell) : ∃ c, (cellsFrom n sc.names []).lookup x = some c := by
  have q := PySem.W.cellsFrom_some sc.names n [] (.inl h)
  exact Option.isSome_iff_exists.mp q

theorem inv_start {CX : CXT} {P : Program} {w : World} {K : PySem.W.Frag} {mg : Str → Option Value} {base : Heap} {N ps : List Str} {qual : Str} {scope : Scope} {f : Addr} {cd : Value} {A : Around} {outer : List Env} {s s1 : Shared} {H : Hp} {E : XK} {us : List Value} {vs : List V}
    (S : FnScope N ps scope) (hd : A.handled = none) (e0 : Env0 P w K mg base A outer s H) (hl : vs.length = ps.length) (r : Vals vs us)
    (x : InCallC s s.heap.objs.size (bindL (envOfC qual scope s.heap.objs.size f cd).kindOf (ps.zip us) fun _ => none) (cellsFrom (s.heap.objs.size + 1) scope.names []) (bindC (envOfC qual scope s.heap.objs.size f cd).kindOf (ps.zip us) fun _ => none) s1) :
    Inv (cxOf CX P w K mg base N qual scope f cd A outer s H E) [] (start N vs) H s1 := by
  have hpl : ps.length ≤ N.length := by have := congrArg List.length S.pre; rw [List.length_take] at this; omega
  obtain ⟨h1, tk, rfl, hk⟩ := x.done
  have noA : ∀ b : Addr, b ∉ (cxOf CX P w K mg base N qual scope f cd A outer s H E).ex := fun b z => absurd (show b ∈ ([] : List Addr) from z) (by simp)
  refine ⟨⟨e0.mod, S.kind, rfl, rfl, Nat.le_refl _, fun y z c h1 h2 => ?_, fun y hy => ?_, fun y c _ h => ?_, fun _ => hd, Around.frames_deeper e0.frames, .inr ⟨rfl, rfl⟩, fun b z => absurd z (noA b), e0.bs, e0.bsz, fun b _ _ => noA b, fun b z => absurd z (noA b), e0.funs, e0.frf⟩,
    rfl, e0.bare, Un.kept hk, ⟨_, x.toInCall.ns, fun i y v h1 h2 h3 => ?_⟩, fun y c h => ⟨_, x.cell y c h⟩, e0.hok.fresh (Nat.le_refl _), fun y c h => ?_, fun p hp => absurd (show p ∈ ([] : List (Addr × Obj)) from hp) (by simp), e0.hok.kept hk, ?_⟩
  · exact name_of_addr x.apart (PySem.mem_of_lookup h1) (PySem.mem_of_lookup h2)
  · have hy : scope.names.lookup y = some .cell ∨ scope.names.lookup y = some .free := hy
    rcases hy with hy | hy
    · exact cell_has hy
    · exact absurd rfl (S.nofree _ (PySem.mem_of_lookup hy))
  · exact Nat.le_of_lt (x.above y c (PySem.mem_of_lookup h))
  · have hi : i < vs.length := by
      unfold start at h2
      by_cases hi : i < vs.length
      · exact hi
      · rw [List.getElem?_append_right (by simpa using hi)] at h2
        rw [List.getElem?_replicate] at h2
        split at h2 <;> cases h2
    have ha : vs[i]? = some v := by
      unfold start at h2
      rw [List.getElem?_append_left (by simpa using hi), List.getElem?_map] at h2
      cases e : vs[i]? with
      | none => rw [e] at h2; cases h2
      | some a => rw [e] at h2; cases h2; rfl
    obtain ⟨u, hu, rv⟩ := r.get ha
    have hp : ps[i]? = some y := by
      rw [← S.pre, List.getElem?_take_of_lt (by omega)]; exact h1
    have ndP : ps.Nodup := by rw [← S.pre]; exact S.nd.sublist (List.take_sublist _ _)
    refine ⟨u, rv, ?_⟩
    rcases S.par y (List.mem_of_getElem? hp) with k | k
    · exact .inl ⟨k, bindL_get ndP hp hu k⟩
    · obtain ⟨c, e⟩ := cell_has (n := s.heap.objs.size + 1) k
      refine .inr ⟨.inl k, c, e, ?_⟩
      have q := x.cell y c e
      rw [bindC_get ndP hp hu (by show scope.names.lookup y ≠ _; rw [k]; decide)] at q
      exact q
  · exact e0.hok.fresh (Nat.le_of_lt (x.above y c (PySem.mem_of_lookup h)))
  · unfold start
    show _ = N.length
    rw [List.length_append, List.length_map, List.length_replicate]
    omega

/-- THE RULE: a def (or a method) of the text, by its body. The body's reading t is chosen for each entry; it is run at the parameters' values -/
theorem fn_of {CX : CXT} {P : Program} {w : World} {K : PySem.W.Frag} {mg : Str → Option Value} {base : Heap} {k : Nat} {f : Addr} {name qual : Str} {params : Arguments} {body : List Stmt} {scope : Scope} {dV kV doc pm cdv ct oc : Value} {an od : Option Addr}
    {osl : Array (Option Value)} {N ps : List Str} {sp : Sp} (lk : K.lookup f = some ⟨oc, od, .func (PySem.W.fnOf name qual params body scope dV kV doc pm an cdv ct), osl⟩) (hcd : PySem.W.codeIn K cdv qual = true) (S : FnScope N ps scope)
    (len : ∀ vs H Q E, sp vs H Q E → vs.length = ps.length)
    (hbody : ∀ (A : Around) (outer : List Env) (s : Shared) (H : Hp) (vs : List V) (Q : VK) (E : XK), Room k (A.deeper (envOfC qual scope s.heap.objs.size f cdv)) → sp vs H Q E →
      ∃ t, PSs (cxOf CX P w K mg base N qual scope f cdv A outer s H E) body t ∧ t { nx := fun _ H' => Q .non H', rt := Q } (start N vs) H) :
    FnOk P w K mg base CX (k + 1) f (PySem.W.fnOf name qual params body scope dV kV doc pm an cdv ct) ps sp := by
  refine ⟨len, fun A outer s H args us vs Q E hr e0 hb r hsp => ?_⟩
  have hl := len _ _ _ _ hsp
  have KX : K.In s.heap := e0.mod.kin.keeps fun b o e => (e0.bs b o e).1
  have lim : s.heap.NoLimit := e0.mod.nolimit.keeps fun b o e => (e0.bs b o e).1
  have hkind : ∀ y ∈ ps.zip us, scope.names.lookup y.1 = some .local ∨ (scope.names.lookup y.1 = some .cell ∧ ((cellsFrom (s.heap.objs.size + 1) scope.names []).lookup y.1).isSome = true) := fun ⟨n, v⟩ hy => by
    rcases S.par n (List.of_mem_zip hy).1 with q | q
    · exact .inl q
    · exact .inr ⟨q, PySem.W.cellsFrom_some _ _ _ (.inl q)⟩
  refine codeAny_call_function hr.depth (KX _ _ lk) rfl S.co S.gen rfl (PySem.W.codeRec_of KX hcd) (hb _ _ _ _ ?_)
  refine wpAny_newFunctionEnv_cells S.kind hkind fun env he s1 x => ?_
  subst he
  refine ⟨lim.keeps x.toInCall.keep, codeAny_func ?_⟩
  obtain ⟨t, ht, hq⟩ := hbody A outer s H vs Q E (hr.deeper _) hsp
  have I : Inv (cxOf CX P w K mg base N qual scope f cdv A outer s H E) [] (start N vs) H s1 := inv_start S hr.hd e0 hl r x
  refine wpAny_mono (ht [] s1 (start N vs) H _ I hq) (fun fl s' hs => ?_) fun e s' hs => hs
  have fin : ∀ {σ' : St} {H' : Hp} {v : V} {u : Value}, Inv (cxOf CX P w K mg base N qual scope f cdv A outer s H E) [] σ' H' s' → RelV v u → Q v H' → CE outer P w H s Q u s' :=
    fun {σ' H' v u} J rv q => ⟨v, H', J.os, J.bare, J.base, J.hok, rv, q⟩
  cases fl with
  | ret u =>
    obtain ⟨v, σ', H', J, rv, q⟩ := hs
    exact fin J rv q
  | next =>
    obtain ⟨σ', H', J, q⟩ := hs
    exact fin (v := V.non) (u := Value.none) J rfl q
  | brk =>
    obtain ⟨_, _, _, q⟩ := hs
    exact False.elim q
  | cont =>
    obtain ⟨_, _, _, q⟩ := hs
    exact False.elim q
end L2

namespace L2
open PySem PySem.Spec PyProof.Rows
section
variable {X : Cx} {x : Str} {p pos : Pos} {e : Expr} {es : List Expr} {t : TA} {id T : String} {r : List V → Hp → VK → Prop}

def tCB (r : List V → Hp → VK → Prop) (t : TA) : TE := fun σ H Q => t σ H fun vs H1 => r vs H1 Q
/-- f(e, ..), f a built-in function -/
theorem pe_callB (hc : CallR X (.builtin id) r) (hg : Gl X x) (hm : X.mg x = none) (hv : bootBuiltins x = some (.builtin id)) (ha : PA X (e :: es) t) (hn : x ≠ "__name__" := by decide) (hdb : (x == ("__debug__" : Str)) = false := by decide)
    (he : starEach (e :: es) X.env = (false, eval e X.env) :: starEach es X.env := by rfl) (hpl : (backTo pos (starEach es X.env)).any (·.1) = false := by rfl) : PE X (.Call (.Name x p) (e :: es) [] pos) (tCB r t) := by
  intro pins s σ H Q I h
  refine wpAny_Call_Name_kw (ld_blt I hg hm hv ?_ hn hdb)
  exact PyProof.Rows.callWith_builtin1 (thn (ha pos pins s σ H _ I h) fun us s1 ⟨vs, H1, I1, r1, q1⟩ => hc pins s1 σ H1 vs us Q I1 r1 q1) he hpl
/-- T(e, ..), T a built-in type -/
theorem pe_callTy (hc : CallR X (.type T) r) (hg : Gl X x) (hm : X.mg x = none) (hv : bootBuiltins x = some (.type T)) (ha : PA X (e :: es) t) (hn : x ≠ "__name__" := by decide) (hdb : (x == ("__debug__" : Str)) = false := by decide)
    (he : starEach (e :: es) X.env = (false, eval e X.env) :: starEach es X.env := by rfl) (hpl : (backTo pos (starEach es X.env)).any (·.1) = false := by rfl) : PE X (.Call (.Name x p) (e :: es) [] pos) (tCB r t) := by
  intro pins s σ H Q I h
  refine wpAny_Call_Name_kw (ld_blt I hg hm hv ?_ hn hdb)
  exact PyProof.Rows.callWith_type1 (thn (ha pos pins s σ H _ I h) fun us s1 ⟨vs, H1, I1, r1, q1⟩ => hc pins s1 σ H1 vs us Q I1 r1 q1) he hpl
end
end L2

namespace HT
open PySem PyProof.Rows

/-- t < u of tuples of ints -/
def lexLt : List Int → List Int → Bool
  | [], [] => false
  | [], _ :: _ => true
  | _ :: _, [] => false
  | x :: xs, y :: ys => if x = y then lexLt xs ys else decide (x < y)
theorem lexLt_cons (x y : Int) (xs ys : List Int) : lexLt (x :: xs) (y :: ys) = if x = y then lexLt xs ys else decide (x < y) := rfl
theorem lexLt_nil_nil : lexLt [] [] = false := rfl
theorem lexLt_nil_cons (y : Int) (ys : List Int) : lexLt [] (y :: ys) = true := rfl
theorem lexLt_cons_nil (x : Int) (xs : List Int) : lexLt (x :: xs) [] = false := rfl

theorem eqAt_int (A : Around) (s : Shared) (a : Int) (t : Tok) (c : Int) (u : Tok) : ∃ e, SeqAt.EqAt A s (.int a t) (.int c u) e ∧ (e = true ↔ a = c) :=
  ⟨(a == c), SeqAt.EqAt.int_int a t c u, by simp⟩
theorem rcLt_int (A : Around) (s : Shared) (a : Int) (t : Tok) (c : Int) (u : Tok) (prog : Program) (w : World) (E : Value → Shared → Prop) (Q : Value → Shared → Prop) (h : Q (.bool (decide (a < c))) s) :
    wpAny (model prog w) A (richCompare .Lt (.int a t) (.int c u)) Q E s :=
  (PyProof.Rows.lt_int h : wpAny (model prog w) A (compareOp .Lt (.int a t) (.int c u)) Q E s)

section
open PySem.SeqAt
open PySem.AutoSeq1 (wpAny_loadPart')
open PySem.MeetsSeq PySem.MeetsSeq2 PySem.MeetsSeq3

theorem tuple_lt_ints (l b : Addr) (items items2 : Array Value) (n n2 : Nat) (dd dd2 : Option Addr) (sl sl2 : Array (Option Value)) (ns ms : List Int) (hi : IntsAre items.toList ns) (hj : IntsAre items2.toList ms) :
    Meets (Builtin.«tuple.__lt__» ⟨[.ref l, .ref b], []⟩)
      (fun _ R s => s.heap.get? l = some { cls := .type "tuple", dict := dd, data := .seq items n, slots := sl } ∧ s.heap.get? b = some { cls := .type "tuple", dict := dd2, data := .seq items2 n2, slots := sl2 } ∧
        R (.ok (.ret (.bool (lexLt ns ms)))) s) :=
  .of_wp fun prog w A R s h => by
    obtain ⟨hp, g, d, tk, os⟩ := s; obtain ⟨hl, hb, h⟩ := h
    have f2 := AutoSeq1.sub_tuple_tuple
    have z1 : items.size = ns.length := by rw [← hi.length]; simp
    have z2 : items2.size = ms.length := by rw [← hj.length]; simp
    wp_walk using wpAny_loadPart' hl, wpAny_loadPart' hb, wpAny_forIn_list _ (fun rest b s' => b.1 = none ∧ s' = ⟨hp, g, d, tk, os⟩ ∧ ∃ (vs ws : List Value) (ns' ms' : List Int), rest = vs.zip ws ∧
      IntsAre vs ns' ∧ IntsAre ws ms' ∧ ns'.length + items2.size = ms'.length + items.size ∧ R (.ok (.ret (.bool (lexLt ns' ms')))) ⟨hp, g, d, tk, os⟩) _
    case turn =>
      rintro ⟨y, x⟩ rest b s' ⟨hb', rfl, vs, ws, ns', ms', hz, hvi, hwi, hlen, hR⟩
      cases hvi with
      | nil => rw [List.zip_nil_left] at hz; cases hz
      | cons a t hvi' =>
        cases hwi with
        | nil => rw [List.zip_nil_right] at hz; cases hz
        | cons c u hwi' =>
          rw [List.zip_cons_cons] at hz
          injection hz with hyx hrest
          injection hyx with hy hx
          subst hy hx
          rw [lexLt_cons] at hR
          simp only [List.length_cons] at hlen
          obtain ⟨e, he, hiff⟩ := eqAt_int A.in1 ⟨hp, g, d, tk, os⟩ a t c u
          refine wpAny_bind (he prog w _ _ ?_)
          cases e with
          | true =>
            rw [if_pos (hiff.mp rfl)] at hR
            wp_walk
            exact ⟨rfl, rfl, _, _, _, _, hrest, hvi', hwi', by omega, hR⟩
          | false =>
            rw [if_neg (fun q => absurd (hiff.mpr q) Bool.false_ne_true)] at hR
            have hri := rcLt_int A.in1 ⟨hp, g, d, tk, os⟩ a t c u prog w
            wp_walk using hri
            exact ⟨_, rfl, by simpa using hR⟩
    case fin =>
      rintro ⟨b1, b2⟩ s' ⟨hb', rfl, vs, ws, ns', ms', hz, hvi, hwi, hlen, hR⟩
      simp only at hb'
      subst hb'
      have hv : lexLt ns' ms' = decide (items.size < items2.size) := by
        cases hvi with
        | nil =>
          cases hwi with
          | nil =>
            simp only [List.length_nil] at hlen
            rw [lexLt_nil_nil]
            exact (decide_eq_false (by omega)).symm
          | cons c u hw =>
            simp only [List.length_nil, List.length_cons] at hlen
            rw [lexLt_nil_cons]
            exact (decide_eq_true (by omega)).symm
        | cons a t hv =>
          cases hwi with
          | nil =>
            simp only [List.length_nil, List.length_cons] at hlen
            rw [lexLt_cons_nil]
            exact (decide_eq_false (by omega)).symm
          | cons c u hw =>
            rw [List.zip_cons_cons] at hz
            cases hz
      rw [hv] at hR
      wp_walk
      exact ⟨_, rfl, by simpa [Builtin.Tuple.tupleCompareSizes] using hR⟩
    case h =>
      exact ⟨rfl, rfl, items.toList, items2.toList, ns, ms, rfl, hi, hj, by omega, h⟩
end

section
variable {prog : Program} {w : World} {A : Around} {E : Value → Shared → Prop} {s : Shared}

theorem lt_tupInts {l b : Addr} {items items2 : Array Value} {ns ms : List Int} {Q : Value → Shared → Prop} (hl : IsTup s.heap l items) (hb : IsTup s.heap b items2) (hi : IntsAre items.toList ns) (hj : IntsAre items2.toList ms)
    (hu : A.units < cLine) (h : Q (.bool (lexLt ns ms)) s) : wpAny (model prog w) A (compareOp .Lt (.ref l) (.ref b)) Q E s := by
  obtain ⟨⟨cls, dd, data, sl⟩, ho, hc, n, hd⟩ := id hl
  obtain ⟨⟨cls2, dd2, data2, sl2⟩, ho2, hc2, n2, hd2⟩ := id hb
  simp only at hc hd hc2 hd2
  subst hc hd hc2 hd2
  exact richCompare_meets_room (op := .Lt) ⟨_, ho, rfl⟩ ⟨_, ho2, rfl⟩ PySem.F.slot_tuple_lt PySem.F.entry_tuple_lt (PySem.F.args_tuple_lt_2 _ _) (tuple_lt_ints l b items items2 n n2 dd dd2 sl sl2 ns ms hi hj)
    ⟨ho, ho2, show Value.bool (lexLt ns ms) ≠ Value.notImplemented ∧ Q (.bool (lexLt ns ms)) s from ⟨(fun x => nomatch x), h⟩⟩ hu

/-- t + u, t not empty -/
theorem cat_tup {t b : Addr} {vs ws : List Value} {Q : Value → Shared → Prop} (ht : IsTup s.heap t vs.toArray) (hb : IsTup s.heap b ws.toArray) (hv : vs ≠ [])
    (h1 : ws = [] → Q (.ref t) s) (h2 : ws ≠ [] → Q (.ref s.heap.objs.size) { s with heap := s.heap.push { cls := .type "tuple", data := .seq (vs ++ ws).toArray } })
    (hsz : vs.length + ws.length ≤ sizeLine) : wpAny (model prog w) A (binaryOp .Add (.ref t) (.ref b)) Q E s := by
  obtain ⟨⟨cls, dd, data, sl⟩, ho, hc, n, hd⟩ := id ht
  obtain ⟨⟨cls2, dd2, data2, sl2⟩, ho2, hc2, n2, hd2⟩ := id hb
  simp only at hc hd hc2 hd2
  subst hc hd hc2 hd2
  have e : vs.toArray ++ ws.toArray = (vs ++ ws).toArray := by simp
  by_cases hw : ws = []
  · exact concat_meets ⟨_, ho, rfl⟩ ⟨_, ho2, rfl⟩ noFill_tuple_add seq_tuple_add PySem.F.slot_tuple_add PySem.F.entry_tuple_add (PySem.F.args_tuple_add_2 _ _)
      (tuple_addW1 t b vs.toArray ws.toArray n n2 dd dd2 sl sl2 (by simpa using hv) (by simp [hw])) ⟨ho, ho2, h1 hw⟩
  · refine concat_meets ⟨_, ho, rfl⟩ ⟨_, ho2, rfl⟩ noFill_tuple_add seq_tuple_add PySem.F.slot_tuple_add PySem.F.entry_tuple_add (PySem.F.args_tuple_add_2 _ _)
      (tuple_addW2 t b vs.toArray ws.toArray n n2 dd dd2 sl sl2 (by simpa using hv) (by simpa using hw) (by rw [List.size_toArray, List.size_toArray]; exact hsz)) ⟨ho, ho2, ?_⟩
    rw [e]
    exact h2 hw

/-! ### t[a:b], not the whole -/
/-- a slice's bound as a place among n (d where it is left out) -/
def sIx (n d : Nat) : Option Int → Nat
  | none => d
  | some v => if v < 0 then (v + (n : Int)).toNat else min v.toNat n
theorem sIx_le (n d : Nat) (hd : d ≤ n) (o : Option Int) : sIx n d o ≤ n := by
  cases o with
  | none => exact hd
  | some v =>
    show (if v < 0 then (v + (n : Int)).toNat else min v.toNat n) ≤ n
    by_cases hv : v < 0
    · rw [if_pos hv]; omega
    · rw [if_neg hv]; exact Nat.min_le_right _ _
theorem clip_eq (v : Int) (n d : Nat) : (if v < 0 then max (v + (n : Int)) 0 else min v (n : Int)) = ((sIx n d (some v) : Nat) : Int) := by
  show (if v < 0 then max (v + (n : Int)) 0 else min v (n : Int)) = (((if v < 0 then (v + (n : Int)).toNat else min v.toNat n) : Nat) : Int)
  by_cases hv : v < 0
  · simp only [if_pos hv]; omega
  · simp only [if_neg hv]; omega
theorem adjust_gen (lo hi : Option Int) (n : Nat) : Builtin.Slice.sliceAdjust lo hi 1 (n : Int) = (((sIx n 0 lo : Nat) : Int), ((sIx n n hi : Nat) : Int)) := by
  have h1 : ¬ ((1 : Int) < 0) := by omega
  unfold Builtin.Slice.sliceAdjust
  simp only [h1, if_false]
  refine Prod.ext ?_ ?_
  · cases lo with
    | none => rfl
    | some v => exact clip_eq v n 0
  · cases hi with
    | none => rfl
    | some v => exact clip_eq v n n
theorem places_gen (i j : Nat) : Builtin.Slice.slicePlaces (i : Int) (j : Int) 1 = j - i := by
  unfold Builtin.Slice.slicePlaces
  have h1 : (1 : Int) > 0 := by omega
  simp only [h1, if_true, Int.ediv_one]
  split <;> omega
theorem slicePart_ {v : Value} {o : Option Int} {Q : Option Int → Shared → Prop} (p : IsPart v o) (h : Q o s) : wpAny (model prog w) A (Builtin.Slice.slicePartIndex v) Q E s := by
  cases p with
  | none => exact slicePart_none h
  | int i t => exact slicePart_int h
theorem sliceApplied_gen {sl : Addr} {vl vu : Value} {lo hi : Option Int} {n : Nat} {Q : Int × Int × Nat → Shared → Prop} (hs : s.heap.IsSliceOf sl vl vu .none) (pl : IsPart vl lo) (pu : IsPart vu hi)
    (h : Q (((sIx n 0 lo : Nat) : Int), 1, sIx n n hi - sIx n 0 lo) s) : wpAny (model prog w) A (Builtin.Slice.sliceApplied (.ref sl) (pure (n : Int))) Q E s := by
  obtain ⟨os, hos, hcs, hds⟩ := id hs
  unfold Builtin.Slice.sliceApplied Builtin.Slice.sliceFields
  refine wpAny_bind (wpAny_bind (wpAny_field hos hds (x := vl) rfl (wpAny_bind (wpAny_field hos hds (x := vu) rfl (wpAny_bind (wpAny_field hos hds (x := .none) rfl (wpAny_pure ?_)))))))
  refine wpAny_bind (slicePart_none ?_)
  show wpAny _ _ (if ((1 : Int) == 0) = true then _ else _) _ _ s
  rw [if_neg (by decide)]
  refine wpAny_bind (slicePart_ pl (wpAny_bind (slicePart_ pu (wpAny_bind (wpAny_pure ?_)))))
  show wpAny _ _ (match Builtin.Slice.sliceAdjust lo hi 1 (n : Int) with | (lo, hi) => pure (lo, (1 : Int), Builtin.Slice.slicePlaces lo hi 1)) _ _ s
  rw [adjust_gen lo hi n]
  show wpAny _ _ (pure (((sIx n 0 lo : Nat) : Int), (1 : Int), Builtin.Slice.slicePlaces ((sIx n 0 lo : Nat) : Int) ((sIx n n hi : Nat) : Int) 1)) _ _ s
  rw [places_gen]
  exact wpAny_pure h
theorem pick_gen (xs : Array Value) (i k : Nat) : ((List.range k).filterMap fun (m : Nat) => xs[((i : Int) + (m : Int) * 1).toNat]?).toArray = ((xs.toList.drop i).take k).toArray := by
  have e : (fun (m : Nat) => xs[((i : Int) + (m : Int) * 1).toNat]?) = fun m => xs[i + m]? := by
    funext m
    have : ((i : Int) + (m : Int) * 1).toNat = i + m := by omega
    rw [this]
  rw [e]
  have := pick_run xs i k
  rw [List.filterMap_map] at this
  have e2 : ((fun x => xs[x]?) ∘ fun x => i + x) = fun m => xs[i + m]? := rfl
  rw [e2] at this
  rw [this]

theorem getItem_tuple_cut {t sl : Addr} {items : Array Value} {vl vu : Value} {lo hi : Option Int} {Q : Value → Shared → Prop} (ht : IsTup s.heap t items) (hs : s.heap.IsSliceOf sl vl vu .none) (pl : IsPart vl lo) (pu : IsPart vu hi)
    (hw : ¬ (sIx items.size 0 lo = 0 ∧ sIx items.size items.size hi = items.size))
    (h : Q (.ref s.heap.objs.size) { s with heap := s.heap.push { cls := .type "tuple", data := .seq ((items.toList.drop (sIx items.size 0 lo)).take (sIx items.size items.size hi - sIx items.size 0 lo)).toArray } })
    (hsz : items.size ≤ sizeLine) : wpAny (model prog w) A (getItem (.ref t) (.ref sl)) Q E s := by
  have htake : sizeOk (.seq ((items.toList.drop (sIx items.size 0 lo)).take (sIx items.size items.size hi - sIx items.size 0 lo)).toArray) := by
    show ((items.toList.drop (sIx items.size 0 lo)).take (sIx items.size items.size hi - sIx items.size 0 lo)).toArray.size ≤ sizeLine
    rw [List.size_toArray, List.length_take, List.length_drop, Array.length_toList]
    omega
  have hj : sIx items.size items.size hi ≤ items.size := sIx_le _ _ (Nat.le_refl _) hi
  obtain ⟨os, hos, hcs, hds⟩ := id hs
  have hTs : s.TypeIs (.ref sl) "slice" := ⟨os, hos, hcs⟩
  unfold getItem
  try with_reducible refine wpAny_holding ?_
  first | refine wpAny_bind (wpAny_pure ?_) | skip
  refine wpAny_bind (wpAny_sequenceKey ht.typeIs (by decide) ?_)
  refine wpAny_bind (wpAny_callSpecial?_slot (name := Str.ofString "__getitem__") ht.typeIs PyProof.Rows.slot_tuple_getitem
    (wpAny_call_entry PyProof.Rows.slot_tuple_getitem ht.typeIs entry_tuple_getitem ?_ (args_tuple_getitem _ _)))
  show wpAny _ _ (Builtin.Tuple.tupleItemsOf (.ref t) >>= _) _ _ s
  refine wpAny_bind (tupleItemsOf_ ht ?_)
  refine wpAny_bind (wpAny_typeOf hTs ?_)
  rw [if_pos (by decide)]
  refine wpAny_bind (sliceApplied_gen hs pl pu ?_)
  have hno : ¬ ((((sIx items.size 0 lo : Nat) : Int) == 0 && (1 : Int) == 1 && (sIx items.size items.size hi - sIx items.size 0 lo) == items.size) = true) := by
    intro q
    rw [Bool.and_eq_true, Bool.and_eq_true] at q
    have q1 : ((sIx items.size 0 lo : Nat) : Int) = 0 := eq_of_beq q.1.1
    have q2 : sIx items.size items.size hi - sIx items.size 0 lo = items.size := eq_of_beq q.2
    exact hw ⟨by omega, by omega⟩
  show wpAny _ _ (if (((sIx items.size 0 lo : Nat) : Int) == 0 && (1 : Int) == 1 && (sIx items.size items.size hi - sIx items.size 0 lo) == items.size) = true then _ else _) _ _ s
  rw [if_neg hno, pick_gen]
  first
    | exact wpAny_bind (m := Builtin.Tuple.tupleExact _) (wpAny_newObj_type (wpAny_pure ⟨_, rfl, wpAny_pure h⟩) htake)
    | exact wpAny_bind (m := Builtin.Tuple.tupleExact _) (wpAny_newObj_type (wpAny_bind (wpAny_pure (wpAny_pure ⟨_, rfl, wpAny_pure h⟩))) htake)
    | exact wpAny_bind (wpAny_bind (m := Builtin.Tuple.tupleExact _) (wpAny_newObj_type (wpAny_pure (wpAny_pure ⟨_, rfl, wpAny_pure h⟩)) htake))
    | exact wpAny_bind (wpAny_bind (m := Builtin.Tuple.tupleExact _) (wpAny_newObj_type (wpAny_pure ⟨_, rfl, wpAny_pure h⟩) htake))
end
end HT

namespace L2
open PySem PySem.Spec PyProof.Rows

/-! ### the parts of a slice -/
abbrev TO := St → Hp → (Option Int → Hp → Prop) → Prop
/-- a slice's part (left out, or an int) -/
def PO (X : Cx) (e : Option Expr) (t : TO) : Prop :=
  ∀ (pins : List (Addr × Obj)) (s : Shared) (σ : St) (H : Hp) (Q : Option Int → Hp → Prop), Inv X pins σ H s → t σ H Q →
    wpAny (model X.prog X.w) X.A (evalPart e X.env) (fun u s' => ∃ o H', Inv X pins σ H' s' ∧ IsPart u o ∧ Q o H') X.xe s
def tNoPart : TO := fun _ H Q => Q none H
def tPart (t : TE) : TO := fun σ H Q => t σ H fun x H1 => ∃ i, x = .int i ∧ Q (some i) H1

theorem intsAre_of {ns : List Int} : ∀ {us : List Value}, Vals (ns.map V.int) us → IntsAre us ns := by
  induction ns with
  | nil => intro us r; rw [List.map_nil] at r; cases r; exact .nil
  | cons n ns ih =>
    intro us r
    rw [List.map_cons] at r
    cases r with
    | cons r1 r2 =>
      obtain ⟨t, e⟩ := r1
      subst e
      exact .cons n t (ih r2)

section
variable {X : Cx} {e : Expr} {te : TE} {lo hi : Option Expr} {tl th : TO} {pos p2 : Pos}

theorem po_none : PO X none tNoPart := by
  intro pins s σ H Q I h
  rw [evalPart_none]
  exact wpAny_pure ⟨none, H, I, .none, h⟩
theorem po_some (h : PE X e te) : PO X (some e) (tPart te) := by
  intro pins s σ H Q I hw
  rw [evalPart_some]
  refine thn (h pins s σ H _ I hw) fun u s1 ⟨x, H1, I1, r1, q1⟩ => ?_
  obtain ⟨i, rfl, q⟩ := q1
  obtain ⟨t, rfl⟩ := r1
  exact ⟨some i, H1, I1, .int i t, q⟩

/-- what a slice of a value is, by values: the slice object stands at sl -/
def SlR (X : Cx) (r : V → Option Int → Option Int → Hp → VK → Prop) : Prop :=
  ∀ (pins : List (Addr × Obj)) (s : Shared) (σ : St) (H : Hp) (x : V) (v vl vu : Value) (lo hi : Option Int) (sl : Addr) (Q : VK), Inv X pins σ H s → RelV x v → s.heap.IsSliceOf sl vl vu .none → IsPart vl lo → IsPart vu hi → r x lo hi H Q →
    ∃ T id, typeLookup (.type T) "__getitem__" = pure (some (.builtin id)) ∧ s.TypeIs v T ∧ wpAny (model X.prog X.w) X.A (getItem v (.ref sl)) (EP X pins σ Q) X.xe s
theorem SlR.or {r r' : V → Option Int → Option Int → Hp → VK → Prop} (h : SlR X r) (h' : SlR X r') : SlR X (fun x lo hi H Q => r x lo hi H Q ∨ r' x lo hi H Q) := by
  intro pins s σ H x v vl vu lo hi sl Q I rx hs pl pu q
  rcases q with q | q
  · exact h pins s σ H x v vl vu lo hi sl Q I rx hs pl pu q
  · exact h' pins s σ H x v vl vu lo hi sl Q I rx hs pl pu q
def tSl (r : V → Option Int → Option Int → Hp → VK → Prop) (te : TE) (tl th : TO) : TE := fun σ H Q => te σ H fun x H1 => tl σ H1 fun l H2 => th σ H2 fun u H3 => r x l u H3 Q
/-- a[lo:hi], any a -/
theorem pe_slice {r : V → Option Int → Option Int → Hp → VK → Prop} (hr : SlR X r) (he : PE X e te) (hl : PO X lo tl) (hu : PO X hi th) : PE X (.Subscript e (.Slice lo hi none p2) pos) (tSl r te tl th) := by
  intro pins s σ H Q I h
  refine Subscript_ (thn (he pins s σ H _ I h) fun v s1 ⟨x, H1, I1, r1, q1⟩ => ?_)
  refine wpAny_Slice (thn (hl pins s1 σ H1 _ I1 q1) fun vl s2 ⟨l, H2, I2, pl, q2⟩ => thn (hu pins s2 σ H2 _ I2 q2) fun vu s3 ⟨u, H3, I3, pu, q3⟩ => ?_)
  rw [evalPart_none]
  refine wpAny_pure ?_
  have I4 : Inv X pins σ H3 { s3 with heap := s3.heap.push { cls := .type "slice", data := .fields #[vl, vu, .none] } } := I3.kept (t' := s3.toks) fun b ob q => Heap.get?_push_of_some _ q
  obtain ⟨T, id, hT, ht, hg⟩ := hr pins { s3 with heap := s3.heap.push { cls := .type "slice", data := .fields #[vl, vu, .none] } } σ H3 x v vl vu l u s3.heap.objs.size Q I4 r1 (Heap.IsSliceOf.new ..) pl pu q3
  show wpAny (model X.prog X.w) X.A (subscriptTail e (.Slice lo hi none p2) v (.ref s3.heap.objs.size)) (EP X pins σ Q) X.xe { s3 with heap := s3.heap.push { cls := .type "slice", data := .fields #[vl, vu, .none] } }
  exact tail_any (ops := [.ref s3.heap.objs.size, v]) ht hT hg (by with_unfolding_all rfl)

/-- the items of xs[lo:hi] -/
def cutV (xs : List V) (lo hi : Option Int) : List V := (xs.drop (HT.sIx xs.length 0 lo)).take (HT.sIx xs.length xs.length hi - HT.sIx xs.length 0 lo)
theorem cutV_length (xs : List V) (lo hi : Option Int) : (cutV xs lo hi).length ≤ xs.length := by
  unfold cutV
  rw [List.length_take, List.length_drop]
  omega
/-- t[lo:hi], not the whole of it (the whole would be t itself) -/
def rSlT (K : PySem.W.Frag) : V → Option Int → Option Int → Hp → VK → Prop := fun x lo hi H Q => ∃ a xs, x = .ref a ∧ SqT K H a xs ∧
  ¬ (HT.sIx xs.length 0 lo = 0 ∧ HT.sIx xs.length xs.length hi = xs.length) ∧ ∀ p, H p = none → Q (.ref p) (upd H p (.tup (cutV xs lo hi)))
theorem sl_tup : SlR X (rSlT X.K) := by
  intro pins s σ H x v vl vu lo hi sl Q I rx hs pl pu h
  obtain ⟨a, xs, rfl, hx, hw, q⟩ := h
  cases rx
  obtain ⟨its, r, ht, hz⟩ := I.tuple hx
  have hlen : its.toArray.size = xs.length := by rw [List.size_toArray]; exact r.length.symm
  refine ⟨"tuple", _, PyProof.Rows.slot_tuple_getitem.lookup, ht.typeIs, ?_⟩
  refine HT.getItem_tuple_cut ht hs pl pu (by rw [hlen]; exact hw) ?_ (by rw [hlen]; exact hz)
  rw [hlen]
  refine ⟨.ref s.heap.objs.size, _, I.laid (t' := s.toks) (o := .tup (cutV xs lo hi)) (fun b ob q => Heap.get?_push_of_some _ q) (Nat.le_refl _) ?_, rfl, q _ (I.hok.fresh (Nat.le_refl _))⟩
  exact ⟨Nat.le_trans (cutV_length xs lo hi) hz, _, (r.drop (HT.sIx xs.length 0 lo)).take (HT.sIx xs.length xs.length hi - HT.sIx xs.length 0 lo), IsTup.new _ _⟩

/-! ### t < u, t + u -/
/-- t + u, t not empty: u empty gives t itself -/
def rCatT (K : PySem.W.Frag) : R2 := fun x y H Q => ∃ a b xs ys, x = .ref a ∧ y = .ref b ∧ SqT K H a xs ∧ SqT K H b ys ∧ xs ≠ [] ∧ xs.length + ys.length ≤ sizeLine ∧
  (ys = [] → Q (.ref a) H) ∧ (ys ≠ [] → ∀ p, H p = none → Q (.ref p) (upd H p (.tup (xs ++ ys))))
theorem Vals.nil_iff {xs : List V} {us : List Value} (r : Vals xs us) : us = [] ↔ xs = [] := by
  cases r with
  | nil => simp
  | cons _ _ => simp
theorem op_catT : OpR X (binaryOp .Add) (rCatT X.K) := by
  intro pins s σ H x y v u Q I rx ry h
  obtain ⟨a, b, xs, ys, rfl, rfl, ha, hb, hx, hz, q1, q2⟩ := h
  cases rx
  cases ry
  obtain ⟨its, r1, p1, _⟩ := I.tuple ha
  obtain ⟨its2, r2, p2, _⟩ := I.tuple hb
  refine HT.cat_tup p1 p2 (fun z => hx (r1.nil_iff.mp z)) (fun z => ⟨.ref a, H, I, rfl, q1 (r2.nil_iff.mp z)⟩) (fun z => ?_) (by rw [← r1.length, ← r2.length]; exact hz)
  refine ⟨.ref s.heap.objs.size, _, I.laid (t' := s.toks) (o := .tup (xs ++ ys)) (fun b ob q => Heap.get?_push_of_some _ q) (Nat.le_refl _) ?_, rfl, q2 (fun w => z (r2.nil_iff.mpr w)) _ (I.hok.fresh (Nat.le_refl _))⟩
  exact ⟨by rw [List.length_append]; exact hz, _, r1.append r2, IsTup.new _ _⟩
end
end L2

namespace L2
open PySem PySem.Spec PyProof.Rows

/-! ### places -/
/-- the place that an index of any sign means -/
def ixN (n : Nat) (i : Int) : Option Nat := if 0 ≤ i then (if i < n then some i.toNat else none) else if -(n : Int) ≤ i then some (i + n).toNat else none
def atI {α : Type} (xs : List α) (i : Int) : Option α := (ixN xs.length i).bind fun j => xs[j]?
theorem ixN_seq {n : Nat} {i : Int} {j : Nat} (h : ixN n i = some j) : seqIndex? i n = some j ∧ j < n ∧ -(n : Int) ≤ i ∧ i < n := by
  unfold ixN at h
  by_cases h0 : 0 ≤ i
  · rw [if_pos h0] at h
    by_cases h1 : i < n
    · rw [if_pos h1] at h
      have e : i.toNat = j := Option.some.inj h
      exact ⟨by rw [seqIndex_of h0 h1, e], by omega, by omega, h1⟩
    · rw [if_neg h1] at h; cases h
  · rw [if_neg h0] at h
    by_cases h1 : -(n : Int) ≤ i
    · rw [if_pos h1] at h
      have e : (i + n).toNat = j := Option.some.inj h
      exact ⟨by rw [seqIndex_neg (by omega) h1, e], by omega, h1, by omega⟩
    · rw [if_neg h1] at h; cases h
theorem atI_get {α : Type} {xs : List α} {i : Int} {v : α} (h : atI xs i = some v) : ∃ j, seqIndex? i xs.length = some j ∧ xs[j]? = some v ∧ j < xs.length ∧ -(xs.length : Int) ≤ i ∧ i < xs.length := by
  unfold atI at h
  cases e : ixN xs.length i with
  | none => rw [e] at h; cases h
  | some j =>
    rw [e] at h
    obtain ⟨h1, h2, h3, h4⟩ := ixN_seq e
    exact ⟨j, h1, h, h2, h3, h4⟩
theorem atI_nat {α : Type} {xs : List α} {j : Nat} {v : α} (h : xs[j]? = some v) : atI xs (j : Int) = some v := by
  have hj : j < xs.length := (List.getElem?_eq_some_iff.mp h).1
  have e : ixN xs.length (j : Int) = some j := by
    unfold ixN
    rw [if_pos (by omega), if_pos (by omega)]; simp
  unfold atI; rw [e]; exact h
theorem atI_last {α : Type} (xs : List α) (v : α) : atI (xs ++ [v]) (-1) = some v := by
  have hl : (xs ++ [v]).length = xs.length + 1 := by simp
  have e : ixN (xs ++ [v]).length (-1) = some xs.length := by
    unfold ixN
    rw [hl, if_neg (by decide), if_pos (by omega)]
    congr 1
    omega
  unfold atI
  rw [e]
  show (xs ++ [v])[xs.length]? = some v
  simp

/-! ### what may be subscripted -/
/-- what stands as an index of a plain subscript -/
def PlainIx (b : Expr) : Prop := ∀ o i, subscripted b false o i = operate [o, i] (getItem o i)
/-- a subscript by values -/
def IxR (X : Cx) (r : R2) : Prop :=
  ∀ (value slice : Expr) (pins : List (Addr × Obj)) (s : Shared) (σ : St) (H : Hp) (x y : V) (v u : Value) (Q : VK), Inv X pins σ H s → RelV x v → RelV y u → r x y H Q →
    subscripted slice false v u = operate [v, u] (getItem v u) → wpAny (model X.prog X.w) X.A (subscriptTail value slice v u) (EP X pins σ Q) X.xe s
/-- a call of a builtin's method by values: the receiver, the arguments -/
def MtR (X : Cx) (id : String) (r : V → List V → Hp → VK → Prop) : Prop :=
  ∀ (pins : List (Addr × Obj)) (s : Shared) (σ : St) (H : Hp) (x : V) (xs : List V) (v : Value) (us : List Value) (Q : VK), Inv X pins σ H s → RelV x v → Vals xs us → r x xs H Q →
    wpAny (model X.prog X.w) X.A (call (.builtin id) (v :: us)) (EP X pins σ Q) X.xe s
section
variable {X : Cx} {a b : Expr} {ta tb : TE} {pos : Pos}
theorem IxR.or {r r' : R2} (h : IxR X r) (h' : IxR X r') : IxR X (fun x y H Q => r x y H Q ∨ r' x y H Q) := by
  intro value slice pins s σ H x y v u Q I rx ry q hs
  rcases q with q | q
  · exact h value slice pins s σ H x y v u Q I rx ry q hs
  · exact h' value slice pins s σ H x y v u Q I rx ry q hs
theorem MtR.or {id : String} {r r' : V → List V → Hp → VK → Prop} (h : MtR X id r) (h' : MtR X id r') : MtR X id (fun x xs H Q => r x xs H Q ∨ r' x xs H Q) := by
  intro pins s σ H x xs v us Q I rx rs q
  rcases q with q | q
  · exact h pins s σ H x xs v us Q I rx rs q
  · exact h' pins s σ H x xs v us Q I rx rs q
/-- a[b] -/
theorem pe_ix {r : R2} (hr : IxR X r) (ha : PE X a ta) (hb : PE X b tb) (hs : PlainIx b) : PE X (.Subscript a b pos) (tOp r ta tb) := by
  intro pins s σ H Q I h
  exact Subscript_ (binT ha hb I h fun v u s2 x y H2 I2 rx ry q => hr a b pins s2 σ H2 x y v u Q I2 rx ry q (hs _ _))

def rIxL (K : PySem.W.Frag) : R2 := fun x y H Q => ∃ p xs i v, x = .ref p ∧ y = .int i ∧ SqL K H p xs ∧ atI xs i = some v ∧ Q v H
def rIxT (K : PySem.W.Frag) : R2 := fun x y H Q => ∃ p xs i v, x = .ref p ∧ y = .int i ∧ SqT K H p xs ∧ atI xs i = some v ∧ Q v H
theorem ix_list : IxR X (rIxL X.K) := by
  intro value slice pins s σ H x y v u Q I rx ry h hs
  obtain ⟨p, xs, i, z, rfl, rfl, hq, he, q⟩ := h
  cases rx
  obtain ⟨t, rfl⟩ := ry
  obtain ⟨its, r, pl, hz⟩ := I.list hq
  obtain ⟨j, h1, h2, h3, h4, h5⟩ := atI_get he
  obtain ⟨w, ew, rw'⟩ := r.get h2
  have hl := r.length
  have hn := line63
  have fin : EP X pins σ Q w s := ⟨z, H, I, rw', q⟩
  by_cases h0 : 0 ≤ i
  · have hj : i.toNat = j := by
      rw [seqIndex_of h0 h5] at h1
      exact Option.some.inj h1
    exact item_listR pl.isList h0 (by omega) (by rw [hj]; simpa using ew) fin hs
  · have hj : (i + (its.toArray.size : Int)).toNat = j := by
      rw [seqIndex_neg (by omega) h4] at h1
      rw [List.size_toArray, ← hl]
      exact Option.some.inj h1
    exact subscriptTail_builtinR (x := w) pl.isList.typeIs slot_list_getitem.lookup
      (wpAny_getItem_list_neg (Q := fun r s' => r = w ∧ EP X pins σ Q r s') pl.isList (by omega) (by rw [List.size_toArray] <;> omega) (by omega) (by rw [hj]; simpa using ew) ⟨rfl, fin⟩) hs
theorem ix_tup : IxR X (rIxT X.K) := by
  intro value slice pins s σ H x y v u Q I rx ry h hs
  obtain ⟨p, xs, i, z, rfl, rfl, hq, he, q⟩ := h
  cases rx
  obtain ⟨t, rfl⟩ := ry
  obtain ⟨its, r, pl, hz⟩ := I.tuple hq
  obtain ⟨j, h1, h2, h3, h4, h5⟩ := atI_get he
  obtain ⟨w, ew, rw'⟩ := r.get h2
  have hl := r.length
  have hn := line63
  have fin : EP X pins σ Q w s := ⟨z, H, I, rw', q⟩
  exact subscriptTail_builtinR (x := w) pl.typeIs slot_tuple_getitem.lookup
    (getItem_tuple (j := j) (Q := fun r s' => r = w ∧ EP X pins σ Q r s') pl (by omega) (by omega) (by rw [List.size_toArray, ← hl]; exact h1) (by simpa using ew) ⟨rfl, fin⟩) hs
/-! ### xs[i] = v, any sign -/
theorem Inv.lst {pins : List (Addr × Obj)} {σ : St} {H : Hp} {s : Shared} {p : Addr} {xs : List V} (I : Inv X pins σ H s) (h : H p = some (.lst xs)) :
    ∃ (its : List Value) (n : Nat), Vals xs its ∧ s.heap.get? p = some { cls := .type "list", data := .seq its.toArray n } ∧ xs.length ≤ sizeLine := by
  obtain ⟨z, its, n, r, e⟩ := I.hok p _ h
  exact ⟨its, n, r, e, z⟩
/-! ### slices -/
/-! ### in, not in: flat items -/
def flatV : V → Bool
  | .non => true
  | .bl _ => true
  | .int _ => true
  | .str _ => true
  | _ => false
/-- == of flat values -/
def eqV : V → V → Bool
  | .non, .non => true
  | .bl a, .bl b => a == b
  | .bl a, .int b => (if a then 1 else 0) == b
  | .int a, .bl b => a == (if b then 1 else 0)
  | .int a, .int b => a == b
  | .str a, .str b => a == b
  | _, _ => false
theorem eqAt_V {A : Around} {s : Shared} {y x : V} {u v : Value} (ry : RelV y u) (rx : RelV x v) (fy : flatV y = true) (fx : flatV x = true) : SeqAt.EqAt A s u v (eqV y x) := by
  cases y with
  | non =>
    cases ry
    cases x with
    | non => cases rx; exact SeqAt.EqAt.same _
    | bl b => cases rx; exact SeqAt.EqAt.none_bool b
    | int b => obtain ⟨t, rfl⟩ := rx; exact SeqAt.EqAt.none_int b t
    | str b => obtain ⟨t, rfl⟩ := rx; exact SeqAt.EqAt.none_str b t
    | _ => exact absurd (show false = true from fx) Bool.false_ne_true
  | bl a =>
    cases ry
    cases x with
    | non => cases rx; exact SeqAt.EqAt.bool_none a
    | bl b => cases rx; exact SeqAt.EqAt.bool_bool a b
    | int b => obtain ⟨t, rfl⟩ := rx; exact SeqAt.EqAt.bool_int a b t
    | str b => obtain ⟨t, rfl⟩ := rx; exact SeqAt.EqAt.bool_str a b t
    | _ => exact absurd (show false = true from fx) Bool.false_ne_true
  | int a =>
    obtain ⟨t', rfl⟩ := ry
    cases x with
    | non => cases rx; exact SeqAt.EqAt.int_none a t'
    | bl b => cases rx; exact SeqAt.EqAt.int_bool a t' b
    | int b => obtain ⟨t, rfl⟩ := rx; exact SeqAt.EqAt.int_int a t' b t
    | str b => obtain ⟨t, rfl⟩ := rx; exact SeqAt.EqAt.int_str a t' b t
    | _ => exact absurd (show false = true from fx) Bool.false_ne_true
  | str a =>
    obtain ⟨t', rfl⟩ := ry
    cases x with
    | non => cases rx; exact SeqAt.EqAt.str_none a t'
    | bl b => cases rx; exact SeqAt.EqAt.str_bool a t' b
    | int b => obtain ⟨t, rfl⟩ := rx; exact SeqAt.EqAt.str_int a t' b t
    | str b => obtain ⟨t, rfl⟩ := rx; exact SeqAt.EqAt.str_str a t' b t
    | _ => exact absurd (show false = true from fx) Bool.false_ne_true
  | _ => exact absurd (show false = true from fy) Bool.false_ne_true
/-! ### len, list(x), tuple(x) of any list or tuple that is read -/
theorem call_len_seq : CallR X (.builtin "len") (fun xs H Q => ∃ p ys, xs = [.ref p] ∧ (SqL X.K H p ys ∨ SqT X.K H p ys) ∧ Q (.int ys.length) H) := by
  intro pins s σ H xs us Q I r h
  obtain ⟨p, ys, rfl, hq, q⟩ := h
  obtain ⟨u, rfl, rx⟩ := vals1 r
  cases rx
  have hn := line63
  rcases hq with hq | hq
  · obtain ⟨its, r', pl, hz⟩ := I.list hq
    have hlen := r'.length
    exact Calls.call_len_list pl.isList (by simp only [List.size_toArray] <;> omega) ⟨.int ys.length, H, I.tok _, ⟨s.toks + 1, by rw [List.size_toArray, hlen]⟩, q⟩
  · obtain ⟨its, r', pl, hz⟩ := I.tuple hq
    have hlen := r'.length
    exact len_tuple pl (by simp only [List.size_toArray] <;> omega) ⟨.int ys.length, H, I.tok _, ⟨s.toks + 1, by rw [List.size_toArray, hlen]⟩, q⟩
theorem CallR.or {f : Value} {r r' : List V → Hp → VK → Prop} (h : CallR X f r) (h' : CallR X f r') : CallR X f (fun xs H Q => r xs H Q ∨ r' xs H Q) := by
  intro pins s σ H xs us Q I rs q
  rcases q with q | q
  · exact h pins s σ H xs us Q I rs q
  · exact h' pins s σ H xs us Q I rs q
theorem call_list_of : CallR X (.type "list") (fun xs H Q => ∃ p ys, xs = [.ref p] ∧ (SqL X.K H p ys ∨ SqT X.K H p ys) ∧ ∀ l, H l = none → Q (.ref l) (upd H l (.lst ys))) := by
  intro pins s σ H xs us Q I r h
  obtain ⟨p, ys, rfl, hq, q⟩ := h
  obtain ⟨u, rfl, rx⟩ := vals1 r
  cases rx
  have fin : ∀ (its : List Value), Vals ys its → ys.length ≤ sizeLine → ∀ (h' : Heap) (c' : Nat), (∀ b o', s.heap.get? b = some o' → h'.get? b = some o') →
      h'.get? s.heap.objs.size = some { cls := .type "list", dict := none, data := .seq its.toArray c', slots := #[] } → EP X pins σ Q (.ref s.heap.objs.size) { s with heap := h' } := fun its r' hz h' c' kp e =>
    ⟨.ref s.heap.objs.size, _, I.laid (t' := s.toks) kp (Nat.le_refl _) (show ObjOk X.prog X.w _ h' _ (.lst ys) from ⟨hz, its, c', r', e⟩), rfl, q _ (I.hok.fresh (Nat.le_refl _))⟩
  rcases hq with hq | hq
  · obtain ⟨its, r', pl, hz⟩ := I.list hq
    have hlen := r'.length
    obtain ⟨o, ho, hc, n, hd⟩ := pl.isList
    exact call_list_seq p (.inl rfl) ho hc hd (fun h' c' kp e => fin its r' hz h' c' kp e) (by simp only [List.size_toArray] <;> omega)
  · obtain ⟨its, r', pl, hz⟩ := I.tuple hq
    have hlen := r'.length
    obtain ⟨o, ho, hc, n, hd⟩ := pl
    exact call_list_seq p (.inr rfl) ho hc hd (fun h' c' kp e => fin its r' hz h' c' kp e) (by simp only [List.size_toArray] <;> omega)
theorem call_tuple_of : CallR X (.type "tuple") (fun xs H Q => ∃ p ys, xs = [.ref p] ∧ ((SqL X.K H p ys ∧ ∀ l, H l = none → Q (.ref l) (upd H l (.tup ys))) ∨ (SqT X.K H p ys ∧ Q (.ref p) H))) := by
  intro pins s σ H xs us Q I r h
  obtain ⟨p, ys, rfl, h⟩ := h
  obtain ⟨u, rfl, rx⟩ := vals1 r
  cases rx
  rcases h with ⟨hq, q⟩ | ⟨hq, q⟩
  · obtain ⟨its, r', pl, hz⟩ := I.list hq
    have hlen := r'.length
    refine call_tuple_list pl.isList (fun h' kp => ?_) (by simp only [List.size_toArray] <;> omega)
    have I1 : Inv X pins σ H { s with heap := h' } := I.kept (t' := s.toks) kp
    have I2 : Inv X pins σ (upd H h'.objs.size (.tup ys)) { s with heap := h'.push { cls := .type "tuple", data := .seq its.toArray } } :=
      I1.laid (t' := s.toks) (fun b o e => Heap.get?_push_of_some _ e) (Nat.le_refl _) (show ObjOk X.prog X.w _ _ _ (.tup ys) from ⟨hz, its, r', IsTup.new _ _⟩)
    exact ⟨.ref h'.objs.size, _, I2, rfl, q _ (I1.hok.fresh (Nat.le_refl _))⟩
  · obtain ⟨its, r', pl, hz⟩ := I.tuple hq
    exact call_tuple_same pl ⟨.ref p, H, I, rfl, q⟩

/-! ### the call of a builtin's method: o.m(..) -/
/-- the value is of that builtin type -/
def tyV (K : PySem.W.Frag) (T : String) (x : V) (H : Hp) : Prop := match x with
  | .str _ => T = "str"
  | .int _ => T = "int"
  | .ref p => (T = "list" ∧ ∃ xs, SqL K H p xs) ∨ (T = "tuple" ∧ ∃ o, K.lookup p = some o ∧ o.cls = .type "tuple" ∧ o.dict = none) ∨
      (T = "dict" ∧ ((∃ kvs, H p = some (.dK kvs)) ∨ ∃ kvs, H p = some (.dT kvs))) ∨ (T = "set" ∧ ∃ S n, H p = some (.set S n))
  | _ => False
theorem tyV_is {pins : List (Addr × Obj)} {σ : St} {H : Hp} {s : Shared} {T : String} {x : V} {v : Value} (I : Inv X pins σ H s) (r : RelV x v) (ty : tyV X.K T x H) :
    s.TypeIs v T ∧ ∀ a, v = .ref a → ∃ ob, s.heap.get? a = some ob ∧ ob.dict = none := by
  cases x with
  | str z =>
    obtain ⟨t, rfl⟩ := r
    cases (show T = "str" from ty)
    exact ⟨typeIs_str s z t, fun _ e => nomatch e⟩
  | int i =>
    obtain ⟨t, rfl⟩ := r
    cases (show T = "int" from ty)
    exact ⟨typeIs_int s i t, fun _ e => nomatch e⟩
  | ref p =>
    cases r
    rcases ty with ⟨rfl, xs, hq⟩ | ⟨rfl, o, hk, hc, hd⟩ | ⟨rfl, hk⟩ | ⟨rfl, S, n, hk⟩
    · obtain ⟨its, _, pl, _⟩ := I.list hq
      refine ⟨pl.isList.typeIs, fun a e => ?_⟩
      cases e
      obtain ⟨o, n, e, c, hd, _⟩ := pl
      exact ⟨o, e, hd⟩
    · refine ⟨⟨o, I.kIn p o hk, hc⟩, fun a e => ?_⟩
      cases e
      exact ⟨o, I.kIn _ o hk, hd⟩
    · have z : ∃ o, s.heap.get? p = some o ∧ o.ExactDict := by
        rcases hk with ⟨kvs, hk⟩ | ⟨kvs, hk⟩
        · obtain ⟨_, _, _, _, o, _, _, e, ex, _⟩ := I.hok p _ hk
          exact ⟨o, e, ex⟩
        · obtain ⟨_, _, _, _, o, _, _, e, ex, _⟩ := I.hok p _ hk
          exact ⟨o, e, ex⟩
      obtain ⟨o, e, ex⟩ := z
      refine ⟨⟨o, e, ex.1⟩, fun a e2 => ?_⟩
      cases e2
      exact ⟨o, e, ex.2.1⟩
    · obtain ⟨o, _, _, _, e, ex, _⟩ := I.hok p _ hk
      refine ⟨⟨o, e, ex.1⟩, fun a e2 => ?_⟩
      cases e2
      exact ⟨o, e, ex.2.1⟩
  | _ => exact False.elim ty
def tBM (K : PySem.W.Frag) (T : String) (r : V → List V → Hp → VK → Prop) (to : TE) (t : TA) : TE := fun σ H Q => to σ H fun x H1 => tyV K T x H1 ∧ t σ H1 fun xs H2 => r x xs H2 Q
variable {o e : Expr} {es : List Expr} {to : TE} {t : TA} {name : Str} {apos cpos : Pos} {T id : String} {r : V → List V → Hp → VK → Prop}
theorem pe_bm (pa : PlainAttrs T) (slot : Slot T name id) (hty : typeOf (.builtin id) = pure (.type "method_descriptor")) (hm : MtR X id r) (ho : PE X o to) (ha : PA X (e :: es) t)
    (hbase : attributeBase o name X.env (eval o X.env) = eval o X.env := by rfl)
    (hfew : ((backTo cpos (starEach (e :: es) X.env)).all (fun x => !x.1) && (backToKw cpos (keywordEach [] X.env)).all (fun x => x.1.isSome)
      && decide ((e :: es).length + ([] : List Keyword).length + (if ([] : List Keyword).isEmpty then 0 else 1) < 30)) = true := by rfl)
    (hline : (apos.endLine == cpos.line) = true := by rfl) (hs : starEach (e :: es) X.env = (false, eval e X.env) :: starEach es X.env := by rfl) (hplain : (backTo cpos (starEach es X.env)).any (·.1) = false := by rfl) :
    PE X (.Call (.Attribute o name apos) (e :: es) [] cpos) (tBM X.K T r to t) := by
  intro pins s σ H Q I h
  refine wpAny_Call_method_late hbase hfew hline rfl (thn (ho pins s σ H _ I h) fun v s1 ⟨x, H1, I1, r1, ty, q1⟩ => ?_)
  obtain ⟨h1, h2⟩ := tyV_is I1 r1 ty
  refine ⟨T, id, pa, slot, hty, h1, h2, ?_⟩
  have hA := ha cpos pins s1 σ H1 _ I1 q1
  rw [hs] at hA ⊢
  refine Calls.callWith_builtin (by show (false || (backTo cpos (starEach es X.env)).any (·.1)) = false; rw [hplain] <;> rfl) (Calls.evalArgs_plain ?_)
  exact thn hA fun us s2 ⟨vs, H2, I2, r2, q2⟩ => hm pins s2 σ H2 x vs v us Q I2 r1 r2 q2
/- xs.append(e), list.index on a module's tuple .. are MtR facts of 06m -/
end
end L2

namespace L2
open PySem PySem.Spec PyProof.Rows

def MtM (X : Cx) (id : String) (r : V → List V → Hp → VK → Prop) : Prop :=
  ∀ (pins : List (Addr × Obj)) (s : Shared) (σ : St) (H : Hp) (x : V) (xs : List V) (v : Value) (us : List Value) (Q : VK), Inv X pins σ H s → RelV x v → Vals xs us → r x xs H Q →
    wpAny (model X.prog X.w) X.A (call (.builtin id) (v :: us)) (EP X pins σ Q) X.xe s

/-! ### lists of values -/
theorem Vals.one : ∀ {x : V} {us : List Value}, Vals [x] us → ∃ u, us = [u] ∧ RelV x u
  | _, _, .cons r .nil => ⟨_, rfl, r⟩
theorem Vals.two : ∀ {x y : V} {us : List Value}, Vals [x, y] us → ∃ u v, us = [u, v] ∧ RelV x u ∧ RelV y v
  | _, _, _, .cons r (.cons q .nil) => ⟨_, _, rfl, r, q⟩
section
variable {X : Cx} {pins : List (Addr × Obj)} {σ : St} {H : Hp} {s : Shared} {l b : Addr} {xs ys zs : List V}

/-! ### the two steps: a tracked list is rewritten, a new list is laid -/
theorem Inv.lset {its its' : List Value} {n : Nat} {f : Array Value → Array Value} {t' : Nat} (I : Inv X pins σ H s) (hH : H l = some (.lst xs))
    (e : s.heap.get? l = some { cls := .type "list", data := .seq its.toArray n }) (hf : f its.toArray = its'.toArray) (hv : Vals ys its') (hz : ys.length ≤ sizeLine) :
    Inv X pins σ (upd H l (.lst ys)) { s with heap := s.heap.update l (Obj.mapSeq f), toks := t' } := by
  have q := PySem.IsL.update e f
  rw [hf] at q
  refine I.write (x := l) (e := l) (by rw [hH]; exact trivial) (.inl rfl) (fun b' u hb hu => (Heap.get?_update_other s.heap (Obj.mapSeq f) (Ne.symm hb)).trans hu) ⟨_, q⟩ ?_
  exact ⟨hz, its', _, hv, q⟩
theorem Inv.lnew {its : List Value} {t' : Nat} (I : Inv X pins σ H s) (hv : Vals ys its) (hz : ys.length ≤ sizeLine) :
    Inv X pins σ (upd H s.heap.objs.size (.lst ys)) { s with heap := s.heap.push { cls := .type "list", data := .seq its.toArray }, toks := t' } :=
  I.laid (fun _ _ q => Heap.get?_push_of_some _ q) (Nat.le_refl _) ⟨hz, its, 0, hv, Heap.get?_push_size _ rfl⟩
theorem Inv.fresh (I : Inv X pins σ H s) : H s.heap.objs.size = none := I.hok.fresh (Nat.le_refl _)
theorem Inv.lstM (I : Inv X pins σ H s) (hH : H l = some (.lst xs)) : xs.length ≤ sizeLine ∧ ∃ (its : List Value) (n : Nat), Vals xs its ∧ xs.length = its.length ∧ s.heap.get? l = some { cls := .type "list", data := .seq its.toArray n } := by
  obtain ⟨z, its, n, r, e⟩ := I.hok l _ hH
  exact ⟨z, its, n, r, r.length, e⟩

theorem notLongL {n : Nat} (h : n ≤ sizeLine) : Builtin.List.listTooLong n = false := by
  unfold Builtin.List.listTooLong
  exact decide_eq_false (by omega)
end

section
variable {X : Cx}

/-! ### methods -/
def rAppend : V → List V → Hp → VK → Prop := fun x vs H Q => ∃ l xs y, x = .ref l ∧ vs = [y] ∧ H l = some (.lst xs) ∧ xs.length < sizeLine ∧ Q .non (upd H l (.lst (xs ++ [y])))
theorem mt_append : MtM X "list.append" rAppend := by
  intro pins s σ H x vs v us Q I rx rv h
  obtain ⟨l, xs, y, rfl, rfl, hH, hz, q⟩ := h
  cases rx
  obtain ⟨u, rfl, ru⟩ := rv.one
  obtain ⟨z, its, n, r, hl, e⟩ := I.lstM hH
  refine call_meets F.slot_list_append ⟨_, e, rfl⟩ F.entry_list_append (F.args_list_append_2 _ _) (PySem.list_append l its.toArray n u (by rw [List.size_toArray]; omega)) ⟨e, ?_⟩
  refine ⟨.non, _, I.lset (its' := its ++ [u]) hH e (by simp) (r.append (.cons ru .nil)) ?_, rfl, q⟩
  rw [List.length_append, List.length_singleton]
  omega

def rExtend : V → List V → Hp → VK → Prop := fun x vs H Q => ∃ l b xs zs, x = .ref l ∧ vs = [.ref b] ∧ H l = some (.lst xs) ∧ H b = some (.lst zs) ∧ xs.length + zs.length ≤ sizeLine ∧ Q .non (upd H l (.lst (xs ++ zs)))
theorem mt_extend : MtM X "list.extend" rExtend := by
  intro pins s σ H x vs v us Q I rx rv h
  obtain ⟨l, b, xs, zs, rfl, rfl, hH, hB, hz, q⟩ := h
  cases rx
  obtain ⟨u, rfl, ru⟩ := rv.one
  cases ru
  obtain ⟨z, its, n, r, hl, e⟩ := I.lstM hH
  obtain ⟨z2, its2, n2, r2, hl2, e2⟩ := I.lstM hB
  have hsz : its.toArray.size + its2.toArray.size ≤ sizeLine := by rw [List.size_toArray, List.size_toArray]; omega
  have hlong : ¬ (!its.toArray.isEmpty && Builtin.List.listTooLong (its.toArray.size + its2.toArray.size)) = true := by
    rw [notLongL hsz, Bool.and_false]
    exact Bool.false_ne_true
  refine call_meets F.slot_list_extend ⟨_, e, rfl⟩ F.entry_list_extend (F.args_list_extend_2 _ _)
    (AutoSeq1.list_extend_list_list_0 l its.toArray n b its2.toArray n2 hlong (by rw [List.size_toArray]; omega) (by omega)) ⟨e, e2, ?_⟩
  refine ⟨.non, _, I.lset (its' := its ++ its2) hH e (by simp) (r.append r2) ?_, rfl, q⟩
  rw [List.length_append]
  omega

/-! ### list + list, list += list, list * int -/
def rCat : R2 := fun x y H Q => ∃ l b xs zs, x = .ref l ∧ y = .ref b ∧ H l = some (.lst xs) ∧ H b = some (.lst zs) ∧ xs.length + zs.length ≤ sizeLine ∧ ∀ p, H p = none → Q (.ref p) (upd H p (.lst (xs ++ zs)))
theorem op_cat : OpR X (binaryOp .Add) rCat := by
  intro pins s σ H x y v u Q I rx ry h
  obtain ⟨l, b, xs, zs, rfl, rfl, hH, hB, hz, q⟩ := h
  cases rx
  cases ry
  obtain ⟨z, its, n, r, hl, e⟩ := I.lstM hH
  obtain ⟨z2, its2, n2, r2, hl2, e2⟩ := I.lstM hB
  refine PySem.P.add_list e e2 ?_ (by rw [List.size_toArray, List.size_toArray]; omega)
  have ea : its.toArray ++ its2.toArray = (its ++ its2).toArray := by simp
  rw [ea]
  exact ⟨.ref _, _, I.lnew (t' := s.toks) (r.append r2) (by rw [List.length_append]; omega), rfl, q _ I.fresh⟩
/-! ### del xs[i] -/
end

/-! ### xs[a:b] = ys -/
section
variable {prog : Program} {w : World} {A : Around} {E : Value → Shared → Prop} {s : Shared}
end

section
variable {X : Cx}
end
end L2

namespace Att
open PySem PySem.W PySem.Calls PyProof.Rows

/-! ### the script -/
theorem ints_of_wellAll {P : Params} {h : Heap} : ∀ (ns : List Int) (vs : List Value), WellAll P h vs (ns.map WData.int) → IntsAre vs ns := by
  intro ns
  induction ns with
  | nil =>
    intro vs w
    rw [List.map_nil] at w
    cases w
    exact .nil
  | cons n ns ih =>
    intro vs w
    rw [List.map_cons] at w
    cases w with
    | cons a b =>
      cases a
      exact .cons _ _ (ih _ b)

theorem script_of {l : OpenLaw} {n : Nat} (hn : l.most = some n) {P : Params} {h : Heap} {args : List WData} {vals : List Value}
    (hpre : l.row.toRowW.claim.pre args = true) (hwl : WellAll P h vals args) :
    ∃ a vs ns, vals = [Value.ref a] ∧ args = [WData.list (ns.map WData.int)] ∧ h.get? a = some { cls := .type "list", data := .seq vs.toArray } ∧ IntsAre vs ns ∧ ns.length ≤ n := by
  have hsh : WShape.hasAll [] args [.list .int] = true := (pre_splitW hpre).1
  have hc : l.pre.holds [] { args := args } = true := (pre_splitW hpre).2
  obtain ⟨d, r, rfl, h1, h2⟩ := hasAllW_cons hsh
  obtain rfl := hasAllW_nil h2
  obtain ⟨xs, rfl, h3⟩ := hasW_list h1
  obtain ⟨ns, rfl⟩ := items_int h3
  have hlen : ns.length ≤ n := by
    unfold OpenLaw.pre at hc
    have h4 : (WTm.not (.lt (.lit (.int (n : Int))) (.len (.arg 0)))).holds [] { args := [.list (ns.map .int)] } = true := by
      have h4 := (holds_andW hc).1
      rw [hn] at h4
      exact h4
    have h5 := condW_of h4 (w_not (w_lt w_lit (w_len_list (w_arg rfl))))
    rw [List.length_map] at h5
    refine Nat.le_of_not_lt fun q => ?_
    have q' : (n : Int) < ((ns.length : Nat) : Int) := by omega
    first
      | (rw [decide_eq_true q'] at h5; exact absurd h5 (by decide))
      | (simp at h5; omega)
  cases hwl with
  | cons w1 w2 =>
    cases w2
    cases w1 with
    | list ho hall => exact ⟨_, _, ns, rfl, rfl, ho, ints_of_wellAll ns _ hall, hlen⟩

theorem post_true (l : OpenLaw) (args : List WData) : l.row.toRowW.claim.post args (.bool true) args = true :=
  postW_of (r := l.row.toRowW) (X := (true == true))
    (show WShape.has [] (.bool true) .bool = true by first | rfl | decide | simp [WShape.has, WShape.arms, WShape.armsAll])
    (show (WTm.eq .res (.lit (.bool true))).value [] { args := args, res := some (.bool true), after := args } = some (.bool (true == true)) from w_eq_bool (w_res rfl) w_lit) rfl

/-! ### the attachment: holds_open's last premise (the goal 'hc' behind k_head) from a wpAny of the law's body -/
/-- the same from a codeAny of the CALL (for a layer whose function contracts speak of calls) -/
theorem attach_call {l : OpenLaw} {n : Nat} {q : Program} {loose : List Str} {XP : (Str → Option Value) → Heap → Prop} {YP : World → Heap → Prop} {d : DefRec}
    (hn : l.most = some n) (hdf : d.params.defaults = [])
    (call : ∀ (w : World) (s₀ s₁ : Shared) (mg mb : Str → Option Value) (fa : Addr) (o : Obj) (pm cd doc : Value) (a : Addr) (vs : List Value) (ns : List Int),
      Ground q loose [] XP w s₀ mg mb s₁.heap → YP w s₁.heap →
      s₁.heap.get? fa = some o → o.data = .func (docDef d.name d.params d.body d.scope pm cd doc) → s₁.heap.CodeRec cd d.name → mg d.name = some (.ref fa) →
      s₁.heap.get? a = some { cls := .type "list", data := .seq vs.toArray } → IntsAre vs ns → ns.length ≤ n → s₁.gens = #[] →
      codeAny (model l.prog w) callerA (.call (.ref fa) ⟨[.ref a], []⟩) (fun r s' => r = .ok (.ret (.bool true)) ∧ OldK s₁.heap s'.heap ∧ s'.os = s₁.os ∧ AllBare s'.gens) s₁) :
    WalkO q loose XP YP l.row.toRowW d [] (fun f vs => PySem.call f vs) := by
  intro w s₀ s₁ mg mb G Y fa o pm cd doc dV kV ho hd hcd hD hmg hg args vals as hpre hlay hrd hwl hlo
  obtain rfl : dV = .none := Dflts.none hD hdf
  obtain rfl : kV = .none := Dflts.noKw hD
  obtain ⟨a, vs, ns, rfl, rfl, hobj, hints, hlen⟩ := script_of hn hpre hwl
  refine enter_call (codeAny_mono (call w s₀ s₁ mg mb fa o pm cd doc a vs ns G Y ho (fd_plain hd) hcd hmg hobj hints hlen hg) fun r s' hq => ?_)
  obtain ⟨rfl, h2, h3, h4⟩ := hq
  exact ⟨.inl ⟨.bool true, .bool true, [], rfl, fun _ => rfl, .bool true, post_true l _, fun _ => ⟨List.Pairwise.nil, fun _ hm => (nomatch hm)⟩⟩, h2, h3, h4⟩

/-! ### rules over ANY heap (no ledger) from facts about the written part K: the library's own take a ledger (News) for what they write -/
section
variable {prog : Program} {w : World} {A : Around} {E : Value → Shared → Prop} {s : Shared} {K : Frag}

/-! the whole heap as the ledger: makes every rule that writes through a ledger a rule over any heap -/
end
end Att

namespace L2
open PySem PySem.Spec PyProof.Rows

theorem vals_ints : ∀ {vs : List Value} {ns : List Int}, IntsAre vs ns → Vals (ns.map V.int) vs
  | _, _, .nil => .nil
  | _, _, .cons n t h => .cons ⟨t, rfl⟩ (vals_ints h)

/-- nothing is tracked but the script, known to the object (or it is an object of the module) -/
def Only (H : Hp) : Prop := ∀ b, H b = none ∨ ∃ o xs, H b = some (.frz o (.lst xs))

/-- THE HEAD: the law's promise, at the heap behind the top. F, the promise of the law's def, may use that base is part of the heap (so K.In base, base.Ns mainGlobals mg stand in Mod) -/
theorem law_call {P : Program} {w : World} {K : PySem.W.Frag} {mg mb : Str → Option Value} {CX : CXT} {k : Nat} {fa a : Addr} {fd : FuncData} {x : Str} {sp : Sp} {s₁ : Shared} {vs : List Value} {ns : List Int}
    (KX : K.In s₁.heap) (hns : s₁.heap.Ns mainGlobals mg) (hb : s₁.heap.Ns builtinsNs mb) (hbb : ∀ x : Str, x ≠ "__name__" → mb x = bootBuiltins x) (hlim : s₁.heap.NoLimit) (hg : s₁.gens = #[])
    (ha : s₁.heap.get? a = some { cls := .type "list", data := .seq vs.toArray }) (hi : IntsAre vs ns) (hl : ns.length ≤ sizeLine) (hr : Room k callerA)
    (F : ∀ base : Heap, K.In base → base.Ns mainGlobals mg → FnOk P w K mg base CX k fa fd [x] sp) (hbind : ∀ (s : Shared) (u : Value), BindsTo s fd ⟨[u], []⟩ [(x, u)])
    (hsp : ∀ H : Hp, Only H → SqL K H a (ns.map V.int) → sp [.ref a] H (fun v _ => v = .bl true) fun _ _ _ => False)
    (hCX : ∀ H e s', CX [] H s₁ (fun _ _ _ => False) e s' → False) :
    codeAny (model P w) callerA (.call (.ref fa) ⟨[.ref a], []⟩) (fun r s' => r = .ok (.ret (.bool true)) ∧ OldK s₁.heap s'.heap ∧ s'.os = s₁.os ∧ AllBare s'.gens) s₁ := by
  have rv := vals_ints hi
  have lenV := hi.length
  -- from an abstract heap in which nothing but the script may be tracked
  have core : ∀ H : Hp, Only H → SqL K H a (ns.map V.int) → HOk P w H s₁.heap → (∀ b, H b ≠ none → b = a) → (H a ≠ none → K.lookup a = none) →
      codeAny (model P w) callerA (.call (.ref fa) ⟨[.ref a], []⟩) (fun r s' => r = .ok (.ret (.bool true)) ∧ OldK s₁.heap s'.heap ∧ s'.os = s₁.os ∧ AllBare s'.gens) s₁ := by
    intro H hO hS hok hA hK
    have base_of : ∀ {b : Addr} {o : Obj}, s₁.heap.get? b = some o → H b = none → (hidT s₁.heap H).get? b = some o := fun e n => hidT_get e n
    have noA : ∀ {b : Addr} {o : Obj} {es : Array DictEntry} {ep : Nat}, s₁.heap.get? b = some o → o.data = .dict es ep → H b = none := fun {b o es ep} e d => by
      cases q : H b with
      | none => rfl
      | some u =>
        have e' : b = a := hA b (by rw [q]; simp)
        subst e'
        rw [ha] at e; cases e
        have d' : Data.seq vs.toArray _ = Data.dict es ep := d
        cases d'
    have nsK : ∀ {b : Addr} {m : Str → Option Value}, s₁.heap.Ns b m → (hidT s₁.heap H).Ns b m := fun {b m} ⟨o, es, ep, e, d, r⟩ => ⟨o, es, ep, base_of e (noA e d), d, r⟩
    have hKb : K.In (hidT s₁.heap H) := fun b o e => base_of (KX b o e) (by
      cases q : H b with
      | none => rfl
      | some u =>
        have e' : b = a := hA b (by rw [q]; simp)
        subst e'
        rw [hK (by rw [q]; simp)] at e; cases e)
    have hM : Mod K mg (hidT s₁.heap H) := ⟨hKb, nsK hns, ⟨mb, nsK hb, hbb⟩, let ⟨mc, h1, h2⟩ := hlim; ⟨mc, nsK h1, h2⟩⟩
    have e0 : Env0 P w K mg (hidT s₁.heap H) callerA [] s₁ H := ⟨rfl, hM, fun b o e => of_hidT e, Nat.le_of_eq (hidT_size _ _), trivial, fun b hb => absurd (show b ∈ ([] : List Addr) from hb) (by simp), hok, .of_eq hg⟩
    refine codeAny_mono ((F _ hKb (nsK hns)).run callerA [] s₁ H ⟨[.ref a], []⟩ [.ref a] [.ref a] _ _ hr e0 (hbind s₁ (.ref a)) (.cons rfl .nil) (hsp H hO hS)) fun r s' h => ?_
    cases r with
    | error e => exact (hCX H e s' h).elim
    | ok fl =>
      cases fl with
      | next => exact False.elim h
      | brk => exact False.elim h
      | cont => exact False.elim h
      | ret u =>
        obtain ⟨v, H', os, bare, un, hok', r', q⟩ := h
        have q' : v = .bl true := q
        subst q'
        obtain rfl : u = Value.bool true := r'
        refine ⟨rfl, OldK.of_keep fun b o e => ?_, os, bare⟩
        cases q : H b with
        | none => exact un.keep b o e q (by intro z; exact absurd (show b ∈ ([] : List Addr) from z) (by simp)) (by simp)
        | some u =>
          rcases hO b with z | ⟨ob, xs, z⟩
          · rw [q] at z; cases z
          · have z2 := un.frzs b ob _ z
            obtain ⟨e1, _⟩ := hok b _ z
            obtain ⟨e2, _⟩ := hok' b _ z2
            rw [e] at e1; cases e1
            exact e2
  cases hk : K.lookup a with
  | some o =>
    -- the script is one of the module's own objects
    have e := KX a o hk
    rw [ha] at e
    cases e
    refine core (fun _ => none) (fun _ => .inl rfl) (.inr ⟨_, vs.toArray, _, hk, rfl, rfl, rfl, by rw [List.size_toArray, lenV]; exact hl, by simpa using rv⟩) (fun b u z => by have z' : (none : Option HO) = some u := z; cases z') (fun b z => absurd rfl z) fun z => absurd rfl z
  | none =>
    refine core (fun b => if b = a then some (.frz { cls := .type "list", data := .seq vs.toArray } (.lst (ns.map V.int))) else none) (fun b => ?_) (.inl (.inr ⟨{ cls := .type "list", data := .seq vs.toArray }, if_pos rfl⟩)) (fun b u z => ?_) (fun b z => ?_) fun _ => hk
    · by_cases hb : b = a
      · exact .inr ⟨_, _, if_pos hb⟩
      · exact .inl (if_neg hb)
    · by_cases hb : b = a
      · have z' := (if_pos hb).symm.trans z
        cases z'
        subst hb
        exact ⟨ha, by rw [List.length_map]; exact hl, vs, _, rv, ha⟩
      · have z' := (if_neg hb).symm.trans z
        cases z'
    · by_cases hb : b = a
      · exact hb
      · exact absurd (if_neg hb) z
end L2

namespace L2
open PySem PySem.Spec PyProof.Rows

/-- the goal that k_head leaves (case hc), from the law's promise. F gives the function object fd (K's own) once, then the promise over every base -/
theorem walk_of {l : PySem.W.OpenLaw} {n k : Nat} {q : Program} {loose : List Str} {XP : (Str → Option Value) → Heap → Prop} {YP : World → Heap → Prop} {d : DefRec} {K : Params → PySem.W.Frag} {CX : World → CXT} {sp : World → Sp} {x : Str}
    (hn : l.most = some n) (hn2 : n ≤ sizeLine) (hdf : d.params.defaults = []) (hr : Room k callerA)
    (hY : ∀ (w : World) (h : Heap), YP w h → (K w.params).In h)
    (F : ∀ (w : World) (mg : Str → Option Value) (fa : Addr) (h : Heap), (K w.params).In h → h.Ns mainGlobals mg → mg d.name = some (.ref fa) →
      ∃ fd : FuncData, (∀ (s : Shared) (u : Value), BindsTo s fd ⟨[u], []⟩ [(x, u)]) ∧
        ∀ base : Heap, (K w.params).In base → base.Ns mainGlobals mg → FnOk l.prog w (K w.params) mg base (CX w) k fa fd [x] (sp w))
    (hsp : ∀ (w : World) (H : Hp) (a : Addr) (ns : List Int), ns.length ≤ n → Only H → SqL (K w.params) H a (ns.map V.int) → sp w [.ref a] H (fun v _ => v = .bl true) fun _ _ _ => False)
    (hCX : ∀ (w : World) (H : Hp) (s : Shared) (e : Value) (s' : Shared), CX w [] H s (fun _ _ _ => False) e s' → False) :
    PySem.W.WalkO q loose XP YP l.row.toRowW d [] (fun f vs => PySem.call f vs) := by
  refine Att.attach_call hn hdf fun w s₀ s₁ mg mb fa o pm cd doc a vs ns G Y ho hd hcd hmg hobj hints hlen hg => ?_
  have KX := hY w _ Y
  obtain ⟨fd, hb, hF⟩ := F w mg fa _ KX G.T.g hmg
  exact law_call KX G.T.g G.T.b G.T.builtins G.T.nolimit hg hobj hints (Nat.le_trans hlen hn2) hr hF hb (fun H hO hS => hsp w H a ns hlen hO hS) fun H e s' => hCX w H s₁ e s'
end L2

/-! SHORT WORDS over the layer: a def of the text, its body, what a loop and a test want. -/
namespace L2
open PySem PySem.Spec PyProof.Rows

/-! ### the text by places -/
/-- the j-th statement of a class's body -/
def inClass (s : Stmt) (j : Nat) : Stmt := match s with
  | .ClassDef _ _ _ body _ _ _ _ _ _ _ => body.getD j (.Pass ⟨0, 0, 0, 0⟩)
  | _ => .Pass ⟨0, 0, 0, 0⟩
def defArgs (s : Stmt) : Arguments := match s with
  | .FunctionDef _ a _ _ _ _ _ _ _ _ => a
  | _ => { posonlyargs := [], args := [], vararg := none, kwonlyargs := [], kw_defaults := [], kwarg := none, defaults := [] }
def defBody (s : Stmt) : List Stmt := match s with
  | .FunctionDef _ _ b _ _ _ _ _ _ _ => b
  | _ => []
def defScope (s : Stmt) : Scope := match s with
  | .FunctionDef _ _ _ _ _ _ sc _ _ _ => sc
  | _ => { kind := .function, names := [], isGenerator := false, isCoroutine := false }

/-! ### no exception leaves a def -/
abbrev CX0 : CXT := fun _ _ _ _ _ _ => False
abbrev E0 : XK := fun _ _ _ => False
theorem pass0 {X : Cx} : Passes CX0 X E0 := fun _ _ _ _ _ _ _ h => h.elim

/-! ### a def (or method) of the text as it stands behind the top -/
structure Fun (K : PySem.W.Frag) (x qual : Str) (st : Stmt) (f : Addr) (fd : FuncData) : Prop where
  ex : ∃ (oc : Value) (od : Option Addr) (kV doc pm : Value) (an : Option Addr) (cdv ct : Value) (osl : Array (Option Value)),
    fd = PySem.W.fnOf x qual (defArgs st) (defBody st) (defScope st) .none kV doc pm an cdv ct ∧ K.lookup f = some ⟨oc, od, .func fd, osl⟩ ∧ PySem.W.codeIn K cdv qual = true
  kp : PySem.W.keepIn K (.ref f) = true
section
variable {P : Program} {w : World} {K : PySem.W.Frag} {mg : Str → Option Value} {base : Heap}
/-- THE RULE for a def: its body as a term of rules, and the reading of that term -/
theorem Fun.ok {x qual : Str} {st : Stmt} {f : Addr} {fd : FuncData} {N ps : List Str} {k : Nat} {sp : Sp} (F : Fun K x qual st f fd) (S : FnScope N ps (defScope st)) (len : ∀ vs H Q E, sp vs H Q E → vs.length = ps.length)
    (hbody : ∀ (cdv : Value) (A : Around) (outer : List Env) (s : Shared) (H : Hp) (vs : List V) (Q : VK) (E : XK), Room k (A.deeper (envOfC qual (defScope st) s.heap.objs.size f cdv)) → sp vs H Q E →
      ∃ t, PSs (cxOf CX0 P w K mg base N qual (defScope st) f cdv A outer s H E).nox (defBody st) t ∧ t { nx := fun _ H' => Q .non H', rt := Q } (start N vs) H) : FnOk P w K mg base CX0 (k + 1) f fd ps sp := by
  obtain ⟨oc, od, kV, doc, pm, an, cdv, ct, osl, rfl, lk, hcd⟩ := F.ex
  refine fn_of lk hcd S len fun A outer s H vs Q E hr hsp => ?_
  obtain ⟨t, h, q⟩ := hbody cdv A outer s H vs Q E hr hsp
  exact ⟨t, h.nox, q⟩
/-- how its arguments bind (no defaults): h is «fun _ _ _ _ _ _ us hl => match us, hl with | [_, _], _ => rfl», one _ a parameter -/
theorem Fun.binds {x qual : Str} {st : Stmt} {f : Addr} {fd : FuncData} {ps : List Str} (F : Fun K x qual st f fd)
    (h : ∀ (kV doc pm : Value) (an : Option Addr) (cdv ct : Value) (us : List Value), us.length = ps.length → bindArgs (PySem.W.fnOf x qual (defArgs st) (defBody st) (defScope st) .none kV doc pm an cdv ct) ⟨us, []⟩ = pure (ps.zip us)) : Binds K fd ps [] := by
  obtain ⟨oc, od, kV, doc, pm, an, cdv, ct, osl, rfl, lk, hcd⟩ := F.ex
  exact .all (h kV doc pm an cdv ct)
theorem fun_mk {x qual : Str} {st : Stmt} {f : Addr} {oc : Value} {od an : Option Addr} {osl : Array (Option Value)} {kV doc pm cdv ct : Value} (l : K.lookup f = some ⟨oc, od, .func (PySem.W.fnOf x qual (defArgs st) (defBody st) (defScope st) .none kV doc pm an cdv ct), osl⟩)
    (c : PySem.W.codeIn K cdv qual = true) (k : PySem.W.keepIn K (.ref f) = true) : Fun K x qual st f (PySem.W.fnOf x qual (defArgs st) (defBody st) (defScope st) .none kV doc pm an cdv ct) := ⟨⟨oc, od, kV, doc, pm, an, cdv, ct, osl, rfl, l, c⟩, k⟩
end
/-! ### expressions in short: the name that stands in the i-th slot -/
section
variable {X : Cx}
theorem pv (i : Nat) {x : Str} {pos : Pos} (hN : X.N[i]? = some x := by rfl) (hv : Vis X.env.scope x := by first | exact Or.inl rfl | exact Or.inr (Or.inl rfl) | exact Or.inr (Or.inr rfl)) (hd : (x == ("__debug__" : Str)) = false := by decide)
    (hcd : (x == ("__classdict__" : Str)) = false := by decide) : PE X (.Name x pos) (tVar i) := pe_var hN hv hd hcd
end

/-! ### tests -/
theorem iteF {A B : Prop} (h : B) : if false = true then A else B := by
  rw [if_neg Bool.false_ne_true]
  exact h
theorem iteT {A B : Prop} (h : A) : if true = true then A else B := by
  rw [if_pos rfl]
  exact h
theorem ite2 {c A B : Prop} [Decidable c] (h1 : c → A) (h2 : ¬ c → B) : if c then A else B := by
  by_cases h : c
  · rw [if_pos h]
    exact h1 h
  · rw [if_neg h]
    exact h2 h
theorem iteNS {c A B : Prop} [Decidable c] (hc : c) (h : B) : if (!decide c) = true then A else B := by
  rw [decide_eq_true hc]
  exact iteF h

/-! ### heaps -/
/-- all that was tracked is as it was -/
def Same (H H' : Hp) : Prop := ∀ b o, H b = some o → H' b = some o
theorem Same.refl (H : Hp) : Same H H := fun _ _ h => h
theorem Same.trans {H H1 H2 : Hp} (a : Same H H1) (b : Same H1 H2) : Same H H2 := fun c o h => b c o (a c o h)
theorem Same.free {H H' : Hp} (e : Same H H') {l : Addr} (h : H' l = Option.none) : H l = Option.none := by
  cases q : H l with
  | none => rfl
  | some o =>
    rw [e l o q] at h
    cases h
theorem Same.seq {K : PySem.W.Frag} {H H' : Hp} {a : Addr} {xs : List V} (e : Same H H') (h : SqL K H a xs) : SqL K H' a xs := by
  rcases h with (h | ⟨o, h⟩) | h
  · exact .inl (.inl (e _ _ h))
  · exact .inl (.inr ⟨o, e _ _ h⟩)
  · exact .inr h

end L2

namespace L2
open PySem PySem.Spec PyProof.Rows

/-! ### comprehensions: a clause's body, the clauses, the block -/
/-- the body of a comprehension from some place on; N: what stands behind it -/
abbrev TB := St → Hp → (St → Hp → Prop) → Prop
/-- the tests of a clause -/
def PTs (X : Cx) (ifs : List Expr) (t : TT) : Prop :=
  ∀ (pins : List (Addr × Obj)) (s : Shared) (σ : St) (H : Hp) (Q : Bool → Hp → Prop), Inv X pins σ H s → t σ H Q →
    wpAny (model X.prog X.w) X.A (forIn ifs true fun c r => if r = true then do let ok ← isTrue c X.env (eval c X.env); pure (ForInStep.yield ok) else pure (ForInStep.yield r)) (TP X pins σ Q) X.xe s
def tYes : TT := fun _ H Q => Q true H
theorem pts_nil {X : Cx} : PTs X [] tYes := fun _ _ _ H _ I h => wpAny_tests_nil ⟨H, I, h⟩
theorem pts_one {X : Cx} {c : Expr} {t : TT} (h : PT X c t) : PTs X [c] t := fun pins s σ H Q I hq => wpAny_tests_one (h pins s σ H Q I hq)

def compAfter (elt : Expr) (gens : List Comprehension) (scope : Scope) (pos : Pos) (d : Nat) (it acc : Value) (env : Env) : Sem Fin :=
  match gens[d + 1]? with
  | some g' => do
    let x ← eval g'.iter env
    standAt g'.iter.pos
    let x ← if g'.is_async != 0 then foldedIterable g'.iter x else foldedSetIterable g'.iter env x
    let _ ← runOwn (.compStart (.ListComp elt gens scope pos) (d + 1) (← holding [x] (if g'.is_async != 0 then asyncIter x else pyIter x)) acc env) env
    again (.compLoop (.ListComp elt gens scope pos) d it acc env)
  | none => do
    (do let _ ← call (.builtin "list.append") [acc, ← eval elt env])
    again (.compLoop (.ListComp elt gens scope pos) d it acc env)

theorem compTurn_at (elt : Expr) (gens : List Comprehension) (scope : Scope) (pos : Pos) (d : Nat) (it acc : Value) (env : Env) (target iter : Expr) (ifs : List Expr) (hg : gens[d]? = some ⟨target, iter, ifs, 0⟩) :
    compTurn (.ListComp elt gens scope pos) d it acc env = (do
      standAt iter.pos
      match ← pyNext it with
      | none => pure (.done .next)
      | some v => do
        letOwnedTupleGo target it v
        assign target env v
        let ok ← forIn ifs true fun c r => if r = true then do let ok ← isTrue c env (eval c env); pure (ForInStep.yield ok) else pure (ForInStep.yield r)
        if ok then compAfter elt gens scope pos d it acc env
        else again (.compLoop (.ListComp elt gens scope pos) d it acc env)) := by
  unfold compTurn compAfter
  simp only [hg]
  rfl

def bWalk (J : It) (g : TG) (t : TT) (b : TB) (N : St → Hp → Prop) (σ : St) (H : Hp) : Prop :=
  ∃ W : Nat → Nat → St → Hp → Prop, (∃ m, W 0 m σ H) ∧ ∀ i m σ H, W i m σ H →
    (J.stop i H ∧ N σ H) ∨ (J.go i H ∧ ∃ N' : St → Hp → Prop, (∀ σ' H', N' σ' H' → ∃ m', m' < m ∧ W (i + 1) m' σ' H') ∧ ∀ x H', J.yld i H x H' → g x σ H' fun σ2 H2 => t σ2 H2 fun k H3 => if k = true then b σ2 H3 N' else N' σ2 H3)
/-- what stands behind the tests of a clause -/
def PAf (X : Cx) (elt : Expr) (gens : List Comprehension) (scope : Scope) (pos : Pos) (d : Nat) (it acc : Value) (b : TB) : Prop :=
  ∀ (pins : List (Addr × Obj)) (s : Shared) (σ : St) (H : Hp) (N : St → Hp → Prop), Inv X pins σ H s → b σ H N →
    wpAny (model X.prog X.w) X.A (compAfter elt gens scope pos d it acc X.env) (fun fin s' => fin = .again (.compLoop (.ListComp elt gens scope pos) d it acc X.env) ∧ ∃ σ' H', Inv X pins σ' H' s' ∧ N σ' H') X.xe s
section
variable {X : Cx} {elt tg iter : Expr} {ifs : List Expr} {gens : List Comprehension} {scope : Scope} {pos : Pos} {d : Nat} {acc : Value}
theorem comp_loop {g : TG} {t : TT} {b : TB} {N : St → Hp → Prop} {J : It} {fp : List Addr} {it : Addr} {tn : Nat → Heap → Prop} {pins : List (Addr × Obj)} {s : Shared} {σ : St} {H : Hp}
    (hx : X.xe = fun _ _ => False) (hc : X.calm = true) (hg : gens[d]? = some ⟨tg, iter, ifs, 0⟩) (hgt : PG X tg g) (ht : PTs X ifs t) (hb : PAf X elt gens scope pos d (.ref it) acc b)
    (T : Turn X.prog X.w X.K tg J fp it tn) (I : Inv X pins σ H s) (st : tn 0 s.heap) (f2 : ∀ b ∈ fp, FpOk X pins H b) (w : bWalk J g t b N σ H) :
    codeAny (model X.prog X.w) X.A (.compLoop (.ListComp elt gens scope pos) d (.ref it) acc X.env) (fun r s' => match r with | .ok _ => ∃ σ' H', Inv X pins σ' H' s' ∧ N σ' H' | .error _ => False) s := by
  obtain ⟨W, ⟨m0, w0⟩, turn⟩ := w
  have stat : ∀ {H' : Hp}, (∀ b ∈ fp, H' b = none) → ∀ b ∈ fp, FpOk X pins H' b := fun hn b hb => ⟨hn b hb, (f2 b hb).2⟩
  refine codeAny_loop rfl (fun n s' => ∃ i σ' H', Inv X pins σ' H' s' ∧ tn i s'.heap ∧ (∀ b ∈ fp, H' b = none) ∧ W i n σ' H') ?_ m0 ⟨0, σ, H, I, st, fun b hb => (f2 b hb).1, w0⟩
  rintro n s3 ⟨i, σ3, H3, I3, st3, fr3, w3⟩
  show wpAny _ X.A ((compTurn (.ListComp elt gens scope pos) d (.ref it) acc X.env).onRaise (fun x => do noteFrame x X.env; theTreesLotGoes x)) _ _ s3
  refine wpAny_noted ?_
  rw [compTurn_at _ _ _ _ _ _ _ _ _ _ _ hg]
  have weak : ∀ {α : Type} {m : Sem α} {Q Q' : α → Shared → Prop} {E' : Value → Shared → Prop} {s : Shared}, wpAny (model X.prog X.w) X.A m Q X.xe s → (∀ a s, Q a s → Q' a s) → wpAny (model X.prog X.w) X.A m Q' E' s := fun h hQ => by
    rw [hx] at h
    exact wpAny_mono h hQ fun _ _ z => False.elim z
  refine wpAny_bind (wpAny_standAt (wpAny_bind ?_))
  rcases turn i n σ3 H3 w3 with ⟨stop, qn⟩ | ⟨go, N', hN, step⟩
  · refine weak (T.done X rfl rfl rfl hc i pins s3 σ3 H3 X.xe I3 (stat fr3) st3 stop) fun r s4 ⟨hr, I4⟩ => ?_
    subst hr
    exact wpAny_pure ⟨σ3, H3, I4, qn⟩
  · refine weak (T.item X rfl rfl rfl hc i pins s3 σ3 H3 X.xe I3 (stat fr3) st3 go) fun r s4 ⟨u, hr, h4⟩ => ?_
    subst hr
    refine wpAny_bind (weak h4 fun _ s5 ⟨x, H5, I5, r5, y5, st5, fr5⟩ => ?_)
    have I5' := I5.pinned (stat fr5) (T.obj _ _ st5)
    refine wpAny_bind (weak (hgt _ s5 σ3 H5 x u _ I5' r5 (step x H5 y5)) fun _ s6 ⟨σ6, H6, I6, q6⟩ => ?_)
    refine wpAny_bind (weak (ht _ s6 σ6 H6 _ I6 q6) fun k s7 ⟨H7, I7, q7⟩ => ?_)
    have again : ∀ {s8 : Shared} {σ8 : St} {H8 : Hp}, Inv X (pins ++ pinsAt fp s5.heap) σ8 H8 s8 → N' σ8 H8 → ∃ m, m < n ∧ ∃ i σ' H', Inv X pins σ' H' s8 ∧ tn i s8.heap ∧ (∀ b ∈ fp, H' b = none) ∧ W i m σ' H' := fun {s8 σ8 H8} I8 n8 => by
      obtain ⟨m', hm, w8⟩ := hN σ8 H8 n8
      refine ⟨m', hm, i + 1, σ8, H8, I8.unpinned, T.keep _ _ _ st5 fun b hb o e => (I8.pin (b, o) (List.mem_append_right _ (List.mem_append_right _ (mem_pinsAt hb e)))).1, fun b hb => ?_, w8⟩
      obtain ⟨o, e, d⟩ := T.obj _ _ st5 b hb
      exact (I8.pin (b, o) (List.mem_append_right _ (List.mem_append_right _ (mem_pinsAt hb e)))).2.1
    cases k with
    | false => exact wpAny_pure ⟨rfl, again I7 q7⟩
    | true =>
      refine weak (hb _ s7 σ6 H7 N' I7 q7) fun fin s8 ⟨e, σ8, H8, I8, q8⟩ => ?_
      subst e
      exact ⟨rfl, again I8 q8⟩
/-- the start of a clause: it is asked for its iterator again -/
theorem comp_start {R : Result → Shared → Prop} {it : Value} {s : Shared} {env : Env} {P : Program} {w : World} {A : Around} (hg : gens[d]? = some ⟨tg, iter, ifs, 0⟩)
    (h0 : codeAny (model P w) A (.compLoop (.ListComp elt gens scope pos) d it acc env) R s)
    (h : wpAny (model P w) A (pyIter it) (fun it' s' => codeAny (model P w) A (.compLoop (.ListComp elt gens scope pos) d it' acc env) R s') (notedBy (model P w) A env fun x s' => R (.error x) s') s) :
    codeAny (model P w) A (.compStart (.ListComp elt gens scope pos) d it acc env) R s := by
  refine codeAny_of_tree ?_
  show wpAny _ _ ((compStart (.ListComp elt gens scope pos) d it acc env).onRaise (fun x => do noteFrame x env; standAt theWindowsPlace)) _ _ s
  refine wpAny_notedAt ?_
  unfold compStart
  show wpAny _ _ (if (gens[d]?).elim false (·.is_async != 0) = true then _ else _) _ _ s
  rw [hg]
  show wpAny _ _ (ask >>= _) _ _ s
  refine wpAny_bind (wpAny_askSetting (wpAny_ite ?_))
  split
  · first
      | exact wpAny_bind (wpAny_pure (wpAny_pure (And.intro rfl h0)))
      | exact wpAny_pure (And.intro rfl h0)
  · refine wpAny_bind (wpAny_rule ?_)
    dsimp only [clausesOf]
    rw [hg]
    exact wpAny_bind (wpAny_standAt (wpAny_bind (wpAny_mono h (fun it' s' h' => wpAny_pure (And.intro rfl h')) fun _ _ x => x)))
/-- the last clause: the element is put behind the list -/
def bEmit (acc : Addr) (te : TE) : TB := fun σ H N => te σ H fun x H1 => ∃ xs, H1 acc = some (.lst xs) ∧ xs.length < sizeLine ∧ N σ (upd H1 acc (.lst (xs ++ [x])))
theorem paf_emit {it : Value} {a : Addr} {te : TE} (h1 : gens[d + 1]? = none) (he : PE X elt te) : PAf X elt gens scope pos d it (.ref a) (bEmit a te) := by
  intro pins s σ H N I h
  unfold compAfter
  rw [h1]
  refine wpAny_bind (wpAny_bind (thn (he pins s σ H _ I h) fun v s1 ⟨x, H1, I1, r1, xs, e, z, q⟩ => ?_))
  refine wpAny_bind (thn (mt_append pins s1 σ H1 (.ref a) [x] (.ref a) [v] (fun _ H2 => N σ H2) I1 rfl (.cons r1 .nil) ⟨a, xs, x, rfl, rfl, e, z, q⟩) fun _ s2 ⟨_, H2, I2, _, q2⟩ => ?_)
  exact wpAny_pure (wpAny_pure ⟨rfl, σ, H2, I2, q2⟩)
/-- a further clause -/
def bFor (wi : TI) (g : TG) (t : TT) (b : TB) : TB := fun σ H N => wi σ H fun J H1 => bWalk J g t b N σ H1
theorem paf_for {it : Value} {tg' iter' : Expr} {ifs' : List Expr} {wi : TI} {g : TG} {t : TT} {b : TB} (hx : X.xe = fun _ _ => False) (hc : X.calm = true) (h1 : gens[d + 1]? = some ⟨tg', iter', ifs', 0⟩)
    (hi : PI X tg' iter' wi) (hgt : PG X tg' g) (ht : PTs X ifs' t) (hb : ∀ it', PAf X elt gens scope pos (d + 1) (.ref it') acc b)
    (hs : ∀ x, foldedSetIterable iter' X.env x = pure x := by intro _; rfl) : PAf X elt gens scope pos d it acc (bFor wi g t b) := by
  intro pins s σ H N I h
  unfold compAfter
  rw [h1]
  refine wpAny_bind (thn (hi pins s σ H _ I h) fun v s1 hi1 => ?_)
  refine wpAny_bind (wpAny_standAt ?_)
  show wpAny _ _ (foldedSetIterable iter' X.env v >>= _) _ _ s1
  refine wpAny_bind (wpAny_of_eq (hs v) (wpAny_bind (wpAny_holding (thn hi1 fun itv s2 h2 => ?_))))
  obtain ⟨it', fp, tn, J, H2, e, I2, T, st2, f2, w2⟩ := h2
  subst e
  have lp := comp_loop (elt := elt) (scope := scope) (pos := pos) hx hc h1 hgt ht (hb it') T I2 st2 f2 w2
  refine wpAny_bind (wpAny_runOwn (codeAny_mono (R := fun r s' => match r with | .ok _ => ∃ σ' H', Inv X pins σ' H' s' ∧ N σ' H' | .error _ => False) (comp_start h1 lp (T.self _ _ _ _ _ st2 lp)) fun r s3 q3 => ?_))
  cases r with
  | ok f =>
    exact wpAny_pure ⟨rfl, q3⟩
  | error e => exact False.elim q3
end
end L2

namespace L2
open PySem PySem.Spec PyProof.Rows

theorem closure_of {env : Env} {scope : Scope} (h : ∀ x ∈ scope.names, x.2 = .free → ∃ c, env.cells.lookup x.1 = some c) :
    ∃ cl, closureFor scope env = pure cl ∧ (∀ x c, cl.lookup x = some c → env.cells.lookup x = some c) ∧ ∀ x ∈ scope.names, x.2 = .free → ∃ c, cl.lookup x.1 = some c := by
  have key : ∀ (names : List (Str × NameKind)) (acc : List (Str × Addr)), (∀ x ∈ names, x.2 = .free → ∃ c, env.cells.lookup x.1 = some c) → (∀ x c, acc.lookup x = some c → env.cells.lookup x = some c) →
      ∃ cl : List (Str × Addr), (forIn names acc fun (x : Str × NameKind) (r : List (Str × Addr)) => if (x.2 == NameKind.free) = true then do let a ← cellOf env x.1; pure (ForInStep.yield ((x.1, a) :: r)) else pure (ForInStep.yield r) : Sem (List (Str × Addr))) = pure cl ∧
        (∀ x c, cl.lookup x = some c → env.cells.lookup x = some c) ∧ (∀ x c, acc.lookup x = some c → ∃ c', cl.lookup x = some c') ∧ ∀ x ∈ names, x.2 = .free → ∃ c, cl.lookup x.1 = some c := by
    intro names
    induction names with
    | nil => intro acc _ ha; exact ⟨acc, rfl, ha, fun x c e => ⟨c, e⟩, fun _ z => nomatch z⟩
    | cons x r ih =>
      intro acc hn ha
      by_cases hk : (x.2 == NameKind.free) = true
      · obtain ⟨c, hc⟩ := hn x List.mem_cons_self (by simpa using hk)
        have ha' : ∀ y d, List.lookup y ((x.1, c) :: acc) = some d → env.cells.lookup y = some d := by
          intro y d e
          rw [List.lookup_cons] at e
          cases hy : y == x.1 with
          | true => rw [hy] at e; cases e; rw [beq_iff_eq.mp hy]; exact hc
          | false => rw [hy] at e; exact ha y d e
        obtain ⟨cl, e1, e2, e3, e4⟩ := ih ((x.1, c) :: acc) (fun y hy => hn y (List.mem_cons_of_mem _ hy)) ha'
        refine ⟨cl, ?_, e2, fun y d e => ?_, fun y hy hf => ?_⟩
        · rw [List.forIn_cons]
          simp only [hk, if_true, cellOf, hc]
          exact e1
        · cases hy : y == x.1 with
          | true => exact e3 y c (by rw [List.lookup_cons, hy])
          | false => exact e3 y d (by rw [List.lookup_cons, hy]; exact e)
        · rcases List.mem_cons.mp hy with rfl | hy
          · exact e3 y.1 c (by rw [List.lookup_cons, beq_self_eq_true])
          · exact e4 y hy hf
      · obtain ⟨cl, e1, e2, e3, e4⟩ := ih acc (fun y hy => hn y (List.mem_cons_of_mem _ hy)) ha
        refine ⟨cl, ?_, e2, e3, fun y hy hf => ?_⟩
        · rw [List.forIn_cons]
          simp only [hk, if_false]
          exact e1
        · rcases List.mem_cons.mp hy with rfl | hy
          · exact absurd (by simpa using hf) hk
          · exact e4 y hy hf
  obtain ⟨cl, e1, e2, _, e4⟩ := key scope.names [] h (fun _ _ z => by simp at z)
  refine ⟨cl, ?_, e2, e4⟩
  unfold closureFor
  show (forIn scope.names [] _ >>= fun cs => pure cs) = _
  exact (congrArg (fun m => m >>= fun cs => (pure cs : Sem _)) e1)
theorem relabel_free {env : Env} : ∀ {names : List (Str × NameKind)} {x : Str}, names.lookup x = some .free →
    ∃ k, (k = NameKind.cell ∨ k = NameKind.free) ∧ (names.map fun (n, k) => if (k == NameKind.free && env.scope.kind == .function && env.kindOf n == some .cell) then (n, NameKind.cell) else (n, k)).lookup x = some k
  | [], _, h => by simp at h
  | (n, k) :: r, x, h => by
    have ih := @relabel_free env r x
    show ∃ k', _ ∧ List.lookup x ((if (k == NameKind.free && env.scope.kind == .function && env.kindOf n == some .cell) = true then (n, NameKind.cell) else (n, k)) :: _) = _
    cases hx : x == n with
    | true =>
      simp only [List.lookup_cons, hx] at h
      cases h
      by_cases hc : (NameKind.free == NameKind.free && env.scope.kind == .function && env.kindOf n == some .cell) = true
      · rw [if_pos hc]; exact ⟨.cell, .inl rfl, by simp only [List.lookup_cons, hx]⟩
      · rw [if_neg hc]; exact ⟨.free, .inr rfl, by simp only [List.lookup_cons, hx]⟩
    | false =>
      simp only [List.lookup_cons, hx] at h
      obtain ⟨k', hk', e⟩ := ih h
      refine ⟨k', hk', ?_⟩
      by_cases hc : (k == NameKind.free && env.scope.kind == .function && env.kindOf n == some .cell) = true
      · rw [if_pos hc]; simp only [List.lookup_cons, hx]; exact e
      · rw [if_neg hc]; simp only [List.lookup_cons, hx]; exact e
theorem of_relabel {env : Env} : ∀ {names : List (Str × NameKind)} {x : Str} {k' : NameKind}, (k' = .cell ∨ k' = .free) → (∀ y ∈ names, y.2 ≠ .cell) →
    (names.map fun (n, k) => if (k == NameKind.free && env.scope.kind == .function && env.kindOf n == some .cell) then (n, NameKind.cell) else (n, k)).lookup x = some k' → (x, NameKind.free) ∈ names
  | [], _, _, _, _, h => by simp at h
  | (n, k) :: r, x, k', hk', hc, h => by
    have h2 : List.lookup x ((if (k == NameKind.free && env.scope.kind == .function && env.kindOf n == some .cell) = true then (n, NameKind.cell) else (n, k)) :: (r.map fun (n, k) => if (k == NameKind.free && env.scope.kind == .function && env.kindOf n == some .cell) then (n, NameKind.cell) else (n, k))) = some k' := h
    have ih := @of_relabel env r x k' hk' (fun y hy => hc y (List.mem_cons_of_mem _ hy))
    cases hx : x == n with
    | true =>
      have e : x = n := beq_iff_eq.mp hx
      subst e
      by_cases hk : k = .free
      · subst hk; exact List.mem_cons_self
      · have hkf : (k == NameKind.free) = false := by simpa using hk
        simp only [hkf, Bool.false_and, Bool.false_eq_true, if_false, List.lookup_cons, beq_self_eq_true, Option.some.injEq] at h2
        subst h2
        rcases hk' with z | z
        · exact absurd z (hc (x, k) List.mem_cons_self)
        · exact absurd z hk
    | false =>
      refine List.mem_cons_of_mem _ (ih ?_)
      by_cases hcc : (k == NameKind.free && env.scope.kind == .function && env.kindOf n == some .cell) = true
      · rw [if_pos hcc] at h2; simp only [List.lookup_cons, hx] at h2; exact h2
      · rw [if_neg hcc] at h2; simp only [List.lookup_cons, hx] at h2; exact h2
end L2

namespace L2
open PySem PySem.Spec PyProof.Rows

/-- the slots of a comprehension's block: for each of its names the outer slot that it is caught from, or none (its own) -/
def capt (cap : List (Option Nat)) (σ : St) : St := cap.map fun o => match o with | some i => (σ[i]?).join | none => none
def blkOk (No : List Str) (sc : Scope) (N : List Str) (cap : List (Option Nat)) (scope : Scope) : Bool :=
  scope.kind == .function && cap.length == N.length
    && scope.names.all (fun y => y.2 != .cell && (y.2 != .local || scope.names.lookup y.1 == some .local) && (y.2 != .free || (sc.names.lookup y.1 == some .cell || sc.names.lookup y.1 == some .free)))
    && (cap.zip N).all (fun p => match p.1 with | none => true | some i => No[i]? == some p.2 && scope.names.lookup p.2 == some .free)
structure BlkOk (No : List Str) (sc : Scope) (N : List Str) (cap : List (Option Nat)) (scope : Scope) : Prop where
  kind : scope.kind = .function
  len : cap.length = N.length
  cell : ∀ y ∈ scope.names, y.2 ≠ .cell
  names : ∀ y ∈ scope.names, y.2 = .local → scope.names.lookup y.1 = some .local
  free : ∀ y ∈ scope.names, y.2 = .free → sc.names.lookup y.1 = some .cell ∨ sc.names.lookup y.1 = some .free
  cap : ∀ (j i : Nat) (x : Str), cap[j]? = some (some i) → N[j]? = some x → No[i]? = some x ∧ scope.names.lookup x = some .free
theorem blk_of {No : List Str} {sc : Scope} {N : List Str} {cap : List (Option Nat)} {scope : Scope} (h : blkOk No sc N cap scope = true) : BlkOk No sc N cap scope := by
  unfold blkOk at h
  simp only [Bool.and_eq_true, List.all_eq_true, beq_iff_eq, bne_iff_ne, Bool.or_eq_true] at h
  obtain ⟨⟨⟨h1, h2⟩, h3⟩, h4⟩ := h
  refine ⟨h1, h2, fun y hy => (h3 y hy).1.1, fun y hy hl => ?_, fun y hy hf => ?_, fun j i x e1 e2 => ?_⟩
  · rcases (h3 y hy).1.2 with z | z
    · exact absurd hl z
    · exact z
  · rcases (h3 y hy).2 with z | z
    · exact absurd hf z
    · exact z
  · have hm : (some i, x) ∈ cap.zip N := by
      refine List.mem_of_getElem? (i := j) ?_
      rw [List.getElem?_zip_eq_some]
      exact ⟨e1, e2⟩
    have := h4 _ hm
    simpa using this
abbrev Cx.blk (X : Cx) (N : List Str) (scope : Scope) (cl : List (Str × Addr)) (C : Addr) (s3 : Shared) (H3 : Hp) (fp : List Addr) : Cx :=
  { X with N := N, s₀ := s3, H₀ := H3, env := compEnvC scope cl C X.env, outer := X.stack, ex := fp, fn := fun _ => false, pn := [], xe := fun _ _ => False }
section
variable {X : Cx} {N : List Str} {cap : List (Option Nat)} {scope : Scope} {cl : List (Str × Addr)} {C : Addr} {s3 : Shared} {H3 : Hp} {fp : List Addr} {pins : List (Addr × Obj)} {σ : St}
theorem blk_in {h4 : Heap} {m : Str → Option Value} {tk : Nat} (I : Inv X pins σ H3 s3) (ok : BlkOk X.N X.env.scope N cap scope)
    (cl1 : ∀ x c, cl.lookup x = some c → X.env.cells.lookup x = some c) (cl2 : ∀ x ∈ scope.names, x.2 = .free → ∃ c, cl.lookup x.1 = some c)
    (hf : ∀ b ∈ fp, FpOk X pins H3 b ∧ b < s3.heap.objs.size) (hC : s3.heap.objs.size = C) (hn : h4.Ns C m) (hk : ∀ b o, s3.heap.get? b = some o → h4.get? b = some o) :
    Inv (X.blk N scope cl C s3 H3 fp) [] (capt cap σ) H3 { s3 with heap := h4, toks := tk } := by
  have ltC : ∀ b o, s3.heap.get? b = some o → b ≠ C := fun b o e => Nat.ne_of_lt (hC ▸ Heap.lt_size e)
  have cellK : ∀ x c, cl.lookup x = some c → ∃ v, h4.IsCell c v := fun x c e => by
    obtain ⟨v, o, ho, hd⟩ := I.cell x c (cl1 x c e)
    exact ⟨v, o, hk c o ho, hd⟩
  have fr : H3 C = none := I.hok.fresh (Nat.le_of_eq hC)
  refine ⟨⟨I.ok.mod, ?_, I.ok.glob, I.ok.blt, ?_, fun x y c e1 e2 => I.ok.inj x y c (cl1 _ _ e1) (cl1 _ _ e2), fun x hx => ?_, (fun x c z => nomatch z), I.ok.hd, I.ok.frames, .inl rfl, fun b hb => ⟨?_, fun x c e => ?_⟩,
    I.bs, Nat.le_trans I.ok.bsz I.sz, fun b o e hb => ?_, fun b hb hb2 => ?_, I.stack, I.stkFree⟩, rfl, I.bare, Un.kept hk, ⟨m, hn, fun j x v e1 e2 e3 => ?_⟩, cellK, fr, fun x c e => I.freeC x c (cl1 x c e), fun p hp => ?_, I.hok.kept hk, ?_⟩
  · exact ok.kind
  · exact Nat.le_of_eq hC
  · have hx' : ∃ k', (k' = NameKind.cell ∨ k' = NameKind.free) ∧ (relabel scope X.env).names.lookup x = some k' := by
      rcases hx with z | z
      · exact ⟨_, .inl rfl, z⟩
      · exact ⟨_, .inr rfl, z⟩
    obtain ⟨k', hk', z⟩ := hx'
    exact cl2 (x, .free) (of_relabel hk' ok.cell z) rfl
  · exact Nat.ne_of_lt (hC ▸ (hf b hb).2)
  · exact (hf b hb).1.2.2.2.2.1 x c (cl1 x c e)
  · rcases (hf b hb).1.2.2.2.1 with z | z
    · exact I.ok.noex b o e z
    · exact absurd (Nat.lt_of_lt_of_le (Heap.lt_size e) (Nat.le_trans I.ok.bsz z)) (Nat.lt_irrefl _)
  · rcases List.mem_cons.mp (I.stkSub b hb2) with z | z
    · exact (hf b hb).1.2.1 z
    · exact (hf b hb).1.2.2.1 z
  · unfold capt at e2
    rw [List.getElem?_map] at e2
    cases hj : cap[j]? with
    | none => rw [hj] at e2; cases e2
    | some o =>
      rw [hj] at e2
      cases o with
      | none => cases e2
      | some i =>
        obtain ⟨h1, h2⟩ := ok.cap j i x hj e1
        have e2' : (σ[i]?).join = some v := Option.some.inj e2
        have e4 : σ[i]? = some (some v) := by
          cases hs : σ[i]? with
          | none => rw [hs] at e2'; cases e2'
          | some o => rw [hs] at e2'; exact congrArg some e2'
        have hmem : (x, NameKind.free) ∈ scope.names := by
          have key : ∀ (l : List (Str × NameKind)), l.lookup x = some NameKind.free → (x, NameKind.free) ∈ l := by
            intro l
            induction l with
            | nil => intro z; simp at z
            | cons y r ih =>
              intro z
              rw [List.lookup_cons] at z
              cases hxy : x == y.1 with
              | true => rw [hxy] at z; have := beq_iff_eq.mp hxy; have z2 : y.2 = .free := Option.some.inj z; rw [this, ← z2]; exact List.mem_cons_self
              | false => rw [hxy] at z; exact List.mem_cons_of_mem _ (ih z)
          exact key _ h2
        have hout := ok.free _ hmem rfl
        obtain ⟨m', hn', hl'⟩ := I.loc
        obtain ⟨u, r, l⟩ := hl' i x v h1 e4 (.inr hout)
        refine ⟨u, r, .inr ⟨?_, ?_⟩⟩
        · obtain ⟨k', hk', e⟩ := relabel_free (env := X.env) h2
          rcases hk' with rfl | rfl
          · exact .inl e
          · exact .inr e
        · rcases l with ⟨kl, _⟩ | ⟨_, c, hc, o, ho, hd⟩
          · rcases hout with z | z
            · rw [show X.env.kindOf x = some .cell from z] at kl; cases kl
            · rw [show X.env.kindOf x = some .free from z] at kl; cases kl
          · obtain ⟨c', hc'⟩ := cl2 _ hmem rfl
            have e := cl1 _ _ hc'
            have e' : X.env.cells.lookup x = some c' := e
            rw [hc] at e'
            cases e'
            exact ⟨c, hc', o, hk c o ho, hd⟩
  · exact nomatch hp
  · unfold capt; rw [List.length_map]; exact ok.len
theorem blk_out {σ' : St} {H' : Hp} {s' : Shared} {h' : Heap} (I : Inv X pins σ H3 s3) (I' : Inv (X.blk N scope cl C s3 H3 fp) [] σ' H' s') (hf : ∀ b ∈ fp, FpOk X pins H3 b) (hs : Heap.SameBut C s'.heap h') (hC : s3.heap.objs.size = C) :
    Inv X pins σ H' { s' with heap := h' } := by
  have hb := I'.base
  have neC : ∀ b o, s3.heap.get? b = some o → b ≠ C := fun b o e => Nat.ne_of_lt (hC ▸ Heap.lt_size e)
  have ext : ∀ b o, b ≠ C → s'.heap.get? b = some o → h'.get? b = some o := fun b o n e => hs.extBut b o n e
  refine I.call' (ch := fp) I'.os ⟨fun b o e n h1 h2 => ext b o (neC b o e) (hb.keep b o e n h1 h2), fun b o e n h1 h2 => ?_, fun b o e n h2 => hb.free b o e n h2, fun b o e h2 => ?_, hb.tups, hb.frzs, hb.tbls⟩ (fun b u e => ?_) I'.bare fun b hb => ?_
  · obtain ⟨sl, q⟩ := hb.slot b o e n h1 h2
    exact ⟨sl, ext b _ (neC b o e) q⟩
  · obtain ⟨o', q⟩ := hb.there b o e h2
    exact ⟨o', ext b o' (neC b o e) q⟩
  · have fr : H' C = none := I'.free
    refine (I'.hok b u e).stay (fun c v hc q => ext c v ?_ q) (fun _ q => q) fun _ _ q => q
    rintro rfl
    rcases hc with z | z
    · rw [← z, fr] at e; cases e
    · rw [fr] at z; cases z
  · obtain ⟨f0, f1, f2, f3, f4, f5⟩ := hf b hb
    exact ⟨f3, f1, f4, f5⟩
end
end L2

namespace L2
open PySem PySem.Spec PyProof.Rows

def tComp (wi : TI) (cap : List (Option Nat)) (g : TG) (t : TT) (b : Addr → TB) : TE := fun σ H Q =>
  wi σ H fun J H1 => ∀ acc, H1 acc = none → bWalk J g t (b acc) (fun _ H2 => Q (.ref acc) H2) (capt cap σ) (upd H1 acc (.lst []))
section
variable {X : Cx} {elt tg iter : Expr} {ifs : List Expr} {rest : List Comprehension} {scope : Scope} {pos : Pos} {N : List Str} {cap : List (Option Nat)} {wi : TI} {g : TG} {t : TT} {b : Addr → TB}
/-- the block, from its iterator on; RR: what is wanted behind it -/
theorem comp_block {pins : List (Addr × Obj)} {σ : St} {Q : VK} {s2 : Shared} {itv : Value} {cl : List (Str × Addr)} {RR : Value → Addr → Result → Shared → Prop} (hc : X.calm = true) (ok : BlkOk X.N X.env.scope N cap scope)
    (cl1 : ∀ x c, cl.lookup x = some c → X.env.cells.lookup x = some c) (cl2 : ∀ x ∈ scope.names, x.2 = .free → ∃ c, cl.lookup x.1 = some c)
    (hb : ∀ cl C s3 H3 fp, PG (X.blk N scope cl C s3 H3 fp) tg g ∧ PTs (X.blk N scope cl C s3 H3 fp) ifs t ∧ ∀ it acc, PAf (X.blk N scope cl C s3 H3 fp) elt (⟨tg, iter, ifs, 0⟩ :: rest) scope pos 0 (.ref it) (.ref acc) (b acc))
    (h : PIE X pins σ tg (fun J H1 => ∀ acc, H1 acc = none → bWalk J g t (b acc) (fun _ H2 => Q (.ref acc) H2) (capt cap σ) (upd H1 acc (.lst []))) itv s2)
    (hR : ∀ (acc C : Addr) (H' : Hp) (s' : Shared) (m : Str → Option Value), s'.heap.Ns C m → H' C = none → X.s₀.heap.objs.size ≤ C → C ≠ X.env.locals → (∀ x c, X.env.cells.lookup x = some c → c ≠ C) → (∀ p ∈ X.pn ++ pins, p.1 ≠ C) → (∀ h', Heap.SameBut C s'.heap h' → Inv X pins σ H' { s' with heap := h' }) → Q (.ref acc) H' → RR (.ref acc) C (.ok .next) s') :
    wpAny (model X.prog X.w) X.A (newList []) (fun acc s₃ => wpAny (model X.prog X.w) X.A (newFunctionEnv scope X.env.globals cl [] X.env.qual none .none (some X.env)) (fun cenv s₄ =>
      codeAny (model X.prog X.w) X.A (.compStart (.ListComp elt (⟨tg, iter, ifs, 0⟩ :: rest) scope pos) 0 itv acc { cenv with scope := relabel scope X.env }) (fun r s' => match r with | .ok _ => RR acc cenv.locals (.ok .next) s' | .error _ => False) s₄) X.xe s₃) X.xe s2 := by
  obtain ⟨it, fp, tn, J, H2, e, I2, T, st2, f2, q⟩ := h
  subst e
  refine wpAny_newObj_type (wpAny_newFunctionEnv ok.cell (by intro y hy; simp at hy) (fun h₁ hns₁ hsb₁ => ?_) ok.kind)
  dsimp only at hns₁ hsb₁ ⊢
  have I3 := I2.lnew (its := []) (ys := []) (t' := s2.toks) .nil (Nat.zero_le _)
  have fr : H2 s2.heap.objs.size = none := I2.hok.fresh (Nat.le_refl _)
  have hlt : ∀ b ∈ fp, b < s2.heap.objs.size := fun b hb => by
    obtain ⟨o, e, _⟩ := T.obj 0 _ st2 b hb
    exact Heap.lt_size e
  generalize hS3 : ({ s2 with heap := s2.heap.push { cls := .type "list", dict := none, data := .seq ([] : List Value).toArray } } : Shared) = s3 at *
  have hS : s3.heap = s2.heap.push { cls := .type "list", dict := none, data := .seq ([] : List Value).toArray } := by rw [← hS3]
  have hsz : s3.heap.objs.size = s2.heap.objs.size + 1 := by rw [hS, Heap.size_push]
  have I3' : Inv X pins σ (upd H2 s2.heap.objs.size (.lst [])) s3 := I3
  have hf3 : ∀ b ∈ fp, FpOk X pins (upd H2 s2.heap.objs.size (.lst [])) b ∧ b < s3.heap.objs.size := fun b hb => by
    have hl := hlt b hb
    refine ⟨⟨?_, (f2 b hb).2⟩, ?_⟩
    · rw [upd_ne (Nat.ne_of_lt hl)]; exact (f2 b hb).1
    · rw [hsz]; exact Nat.lt_succ_of_lt hl
  rw [← hS] at hns₁ hsb₁
  have kp : ∀ b o, s3.heap.get? b = some o → h₁.get? b = some o := fun b o e => hsb₁.extBut b o (Nat.ne_of_lt (Heap.lt_size e)) (Heap.get?_push_of_some _ e)
  have kp2 : ∀ b o, s2.heap.get? b = some o → h₁.get? b = some o := fun b o e => kp b o (by rw [hS]; exact Heap.get?_push_of_some _ e)
  rw [← hS]
  obtain ⟨hb1, hb2, hb3⟩ := hb cl s3.heap.objs.size s3 (upd H2 s2.heap.objs.size (.lst [])) fp
  have e4 : ∀ tk, ({ s2 with heap := h₁, toks := tk } : Shared) = { s3 with heap := h₁, toks := tk } := fun tk => by rw [← hS3]
  show codeAny _ _ (.compStart _ 0 (.ref it) (.ref s2.heap.objs.size) (compEnvC scope cl s3.heap.objs.size X.env)) _ _
  have I4 : Inv (X.blk N scope cl s3.heap.objs.size s3 (upd H2 s2.heap.objs.size (.lst [])) fp) [] (capt cap σ) (upd H2 s2.heap.objs.size (.lst [])) { s3 with heap := h₁, toks := s3.toks } :=
    blk_in (tk := s3.toks) I3' ok cl1 cl2 hf3 rfl hns₁ kp
  have f4 : ∀ b ∈ fp, FpOk (X.blk N scope cl s3.heap.objs.size s3 (upd H2 s2.heap.objs.size (.lst [])) fp) [] (upd H2 s2.heap.objs.size (.lst [])) b := fun b hb => by
    obtain ⟨⟨g0, g1, g2, g3, g4, g5⟩, g6⟩ := hf3 b hb
    refine ⟨g0, Nat.ne_of_lt g6, fun z => ?_, .inl hb, fun x c e => g4 x c (cl1 x c e), fun p hp => nomatch hp⟩
    rcases List.mem_cons.mp (I3'.stkSub b z) with z | z
    · exact g1 z
    · exact g2 z
  have st4 : tn 0 h₁ := T.keep 0 _ _ st2 fun b hb o e => kp2 b o e
  have lp : ∀ s4 : Shared, s4 = { s3 with heap := h₁, toks := s3.toks } → codeAny (model X.prog X.w) X.A (.compLoop (.ListComp elt (⟨tg, iter, ifs, 0⟩ :: rest) scope pos) 0 (.ref it) (.ref s2.heap.objs.size) (compEnvC scope cl s3.heap.objs.size X.env)) (fun r s' => match r with | .ok _ => RR (.ref s2.heap.objs.size) s3.heap.objs.size (.ok .next) s' | .error _ => False) s4 := by
    intro s4 e4
    rw [e4]
    have lp := comp_loop (X := X.blk N scope cl s3.heap.objs.size s3 (upd H2 s2.heap.objs.size (.lst [])) fp) (d := 0) (N := fun _ H2' => Q (.ref s2.heap.objs.size) H2') rfl hc rfl hb1 hb2 (hb3 it s2.heap.objs.size) T I4 st4 f4 (q _ fr)
    refine codeAny_mono lp fun r s' hr => ?_
    cases r with
    | error e => exact hr
    | ok f =>
      obtain ⟨σ', H', I', q'⟩ := hr
      obtain ⟨m, hn, _⟩ := I'.loc
      exact hR _ _ H' s' m hn I'.free I3'.sz (Nat.ne_of_gt I3'.lt) (fun x c e => by
        obtain ⟨v, z⟩ := I3'.cell x c e
        exact Nat.ne_of_lt z.lt) (fun p hp => Nat.ne_of_lt (Heap.lt_size (I3'.pin p hp).1)) (fun h' hs => blk_out I3' I' (fun b hb => (hf3 b hb).1) hs rfl) q'
  refine comp_start rfl (lp _ ?_) (T.self _ 0 _ _ _ st4 (lp _ ?_))
  · rw [← hS3]; rfl
  · rw [← hS3]; rfl

theorem clos_of {pins : List (Addr × Obj)} {σ : St} {H : Hp} {s : Shared} (I : Inv X pins σ H s) (ok : BlkOk X.N X.env.scope N cap scope) :
    ∃ cl, closureFor scope X.env = pure cl ∧ (∀ x c, cl.lookup x = some c → X.env.cells.lookup x = some c) ∧ ∀ x ∈ scope.names, x.2 = .free → ∃ c, cl.lookup x.1 = some c :=
  closure_of fun x hx hf => I.ok.has x.1 (ok.free x hx hf)

/-- [elt for tg in iter if .. for ..] -/
theorem pe_comp (hc : X.calm = true) (hok : blkOk X.N X.env.scope N cap scope = true) (hi : PI X tg iter wi)
    (hb : ∀ cl C s3 H3 fp, PG (X.blk N scope cl C s3 H3 fp) tg g ∧ PTs (X.blk N scope cl C s3 H3 fp) ifs t ∧ ∀ it acc, PAf (X.blk N scope cl C s3 H3 fp) elt (⟨tg, iter, ifs, 0⟩ :: rest) scope pos 0 (.ref it) (.ref acc) (b acc))
    (hs : ∀ x, foldedSetIterable iter X.env x = pure x := by intro _; rfl) : PE X (.ListComp elt (⟨tg, iter, ifs, 0⟩ :: rest) scope pos) (tComp wi cap g t b) := by
  intro pins s σ H Q I h
  have ok := blk_of hok
  obtain ⟨cl, e0, cl1, cl2⟩ := clos_of I ok
  rw [eval_ListComp]
  refine wpAny_comprehension_free (use := none) rfl hs e0 ok.kind ok.names (thn (hi pins s σ H _ I h) fun v s1 h1 => thn h1 fun itv s2 h2 => ?_)
  refine thn (comp_block (RR := fun acc C => compPost (model X.prog X.w) X.A X.xe none (EP X pins σ Q) acc C) hc ok cl1 cl2 hb h2 ?_) fun acc s3 h3 => thn h3 fun cenv s4 h4 => codeAny_mono h4 fun r s' hr => ?_
  · intro acc C H' s' m hn _ _ _ _ _ hI q
    exact ⟨m, hn, fun h' hs' => ⟨.ref acc, H', hI h' hs', rfl, q⟩⟩
  · cases r with
    | ok f => exact hr
    | error e => exact False.elim hr
/-- x = [elt for ..] where the store stands ahead of the block's end -/
theorem ps_setComp {i : Nat} {y : Str} {py spos : Pos} (hc : X.calm = true) (hok : blkOk X.N X.env.scope N cap scope = true) (hN : X.N.Nodup) (hy : X.N[i]? = some y) (hx : X.env.scope.names.lookup y = some .local) (hi : PI X tg iter wi)
    (hb : ∀ cl C s3 H3 fp, PG (X.blk N scope cl C s3 H3 fp) tg g ∧ PTs (X.blk N scope cl C s3 H3 fp) ifs t ∧ ∀ it acc, PAf (X.blk N scope cl C s3 H3 fp) elt (⟨tg, iter, ifs, 0⟩ :: rest) scope pos 0 (.ref it) (.ref acc) (b acc))
    (hs : ∀ x, foldedSetIterable iter X.env x = pure x := by intro _; rfl)
    (hsw : swapsWith (.ListComp elt (⟨tg, iter, ifs, 0⟩ :: rest) scope pos) (some (.Name y py)) spos.line X.env = pure true := by rfl) :
    PS X (.Assign [.Name y py] (.ListComp elt (⟨tg, iter, ifs, 0⟩ :: rest) scope pos) spos) (tAsg (tComp wi cap g t b) (gName i)) := by
  intro pins s σ H D I h
  have ok := blk_of hok
  obtain ⟨cl, e0, cl1, cl2⟩ := clos_of I ok
  rw [exec_Assign_Name_used _ _ _ _ hsw]
  refine wpAny_bind (wpAny_standAt (wpAny_bind ?_))
  show wpAny _ X.A (do let _ ← comprehension (.ListComp elt (⟨tg, iter, ifs, 0⟩ :: rest) scope pos) scope X.env _ (newList []) false (eval iter X.env) (some (assign (.Name y py) X.env))) _ _ s
  refine wpAny_bind (wpAny_mono (wpAny_comprehension_free (use := some (assign (.Name y py) X.env)) (Q := fun _ s' => SP X pins D .next s') rfl hs e0 ok.kind ok.names
    (thn (hi pins s σ H _ I h) fun v s1 h1 => thn h1 fun itv s2 h2 => ?_)) (fun _ s' hq => wpAny_pure (wpAny_pure hq)) fun _ _ e => e)
  refine thn (comp_block (RR := fun acc C => compPost (model X.prog X.w) X.A X.xe (some (assign (.Name y py) X.env)) (fun _ s' => SP X pins D .next s') acc C) (Q := fun v H2 => D.nx (σ.set i (some v)) H2) hc ok cl1 cl2 hb h2 ?_) fun acc s3 h3 => thn h3 fun cenv s4 h4 => codeAny_mono h4 fun r s' hr => ?_
  · intro acc C H' s' m hn hfr hC1 hC2 hC3 hC4 hI q
    have I' : Inv X pins σ H' s' := hI s'.heap (.refl ..)
    show wpAny _ _ (assign (.Name y py) X.env (.ref acc)) _ _ s'
    refine wpAny_assign_Name (store_ok2 I' hN hy (.inl hx) (v := .ref acc) rfl (fun s2 I2 ⟨a, hsa, ha⟩ => ?_) (.inr hx))
    have haC : C ≠ a := by
      rcases ha with z | z
      · rw [z]; exact hC2
      · exact Ne.symm (hC3 y a z)
    refine ⟨m, hn.sameBut hsa haC, fun h' hs' => ?_⟩
    exact ⟨_, H', I2.turned (it := C) (t' := s2.toks) (fun b o hb e => hs'.extBut b o hb e) hfr hC2 (.inr hC1) hC3 hC4, q⟩
  · cases r with
    | ok f => exact hr
    | error e => exact False.elim hr
end
end L2

namespace L2
open PySem PySem.Spec PyProof.Rows

/-! ### zip of two lists or tuples -/
/-- the iterator at it over the sequence at l, k items taken: of a tuple (b), of a list -/
def ZI (b : Bool) (h : Heap) (it l : Addr) (k : Nat) : Prop := ∃ o, h.get? it = some o ∧ o.cls = .type (if b then "tuple_iterator" else "list_iterator") ∧ o.data = .fields #[.ref l, .int k 0]
def ZS (b : Bool) (h : Heap) (l : Addr) (xs : Array Value) : Prop := ∃ o, h.get? l = some o ∧ o.cls = .type (if b then "tuple" else "list") ∧ ∃ n, o.data = .seq xs n
theorem ZI.at {b : Bool} {h h' : Heap} {it l : Addr} {k : Nat} (z : ZI b h it l k) (e : ∀ o, h.get? it = some o → h'.get? it = some o) : ZI b h' it l k := let ⟨o, ho, r⟩ := z; ⟨o, e o ho, r⟩
theorem ZS.at {b : Bool} {h h' : Heap} {l : Addr} {xs : Array Value} (z : ZS b h l xs) (e : ∀ o, h.get? l = some o → h'.get? l = some o) : ZS b h' l xs := let ⟨o, ho, r⟩ := z; ⟨o, e o ho, r⟩
section
variable {P : Program} {w : World} {A : Around} {E : Value → Shared → Prop} {s : Shared}
theorem iter_of {b : Bool} {l : Addr} {xs : Array Value} {Q : Value → Shared → Prop} (hs : ZS b s.heap l xs)
    (hQ : Q (.ref s.heap.objs.size) { s with heap := s.heap.push { cls := .type (if b then "tuple_iterator" else "list_iterator"), data := .fields #[.ref l, .int 0 0] } }) : wpAny (model P w) A (pyIter (.ref l)) Q E s := by
  cases b with
  | true => exact wpAny_pyIter_tuple hs hQ
  | false => exact wpAny_pyIter_list hs hQ
end
end L2

namespace L2
open PySem PySem.Spec PyProof.Rows
section
variable {P : Program} {w : World} {A : Around} {E : Value → Shared → Prop} {s : Shared}
/-- the state of a zip: k pairs handed out, the last one let go -/
structure ZSt (b1 b2 : Bool) (z TI TO i1 i2 l1 l2 : Addr) (f0 : Value) (k : Nat) (h : Heap) : Prop where
  zz : IsZip h z TI TO f0
  ti : IsPair h TI (.ref i1) (.ref i2)
  to : ∃ a b, IsPair h TO a b
  h1 : ZI b1 h i1 l1 k
  h2 : ZI b2 h i2 l2 k
end
end L2

namespace L2
open PySem PySem.Spec PyProof.Rows
abbrev itOb (b : Bool) (l : Addr) : Obj := { cls := .type (if b then "tuple_iterator" else "list_iterator"), data := .fields #[.ref l, .int 0 0] }
section
variable {P : Program} {w : World} {A : Around} {E : Value → Shared → Prop} {s : Shared}
end
/-! ### the iterator's records have turned, a thing may have been laid -/
section
variable {X : Cx} {pins : List (Addr × Obj)} {σ : St} {H : Hp} {s : Shared} {h' : Heap} {fp : List Addr}
end
/-- a list or a tuple that is read -/
def SqB (K : PySem.W.Frag) (b : Bool) (H : Hp) (a : Addr) (xs : List V) : Prop := if b then SqT K H a xs else SqL K H a xs
theorem Inv.seqB {X : Cx} {pins : List (Addr × Obj)} {σ : St} {H : Hp} {s : Shared} {b : Bool} {a : Addr} {xs : List V} (I : Inv X pins σ H s) (h : SqB X.K b H a xs) : ∃ its : List Value, Vals xs its ∧ ZS b s.heap a its.toArray ∧ xs.length ≤ sizeLine := by
  cases b with
  | true =>
    obtain ⟨its, r, p, z⟩ := I.tuple h
    exact ⟨its, r, p, z⟩
  | false =>
    obtain ⟨its, r, p, z⟩ := I.list h
    exact ⟨its, r, p.isList, z⟩
section
variable {X : Cx}
end
end L2

namespace L2
open PySem PySem.Spec PyProof.Rows
/-! ### sum of ints -/
theorem preSum_list (ns : List Int) : ∀ k, k ≤ ns.length → preSum (fun i => ns.getD i 0) k = (ns.take k).sum
  | 0, _ => by simp [preSum]
  | k + 1, h => by
    have e : ns.take (k + 1) = ns.take k ++ [ns.getD k 0] := by
      rw [List.take_add_one, List.getElem?_eq_getElem (by omega)]
      simp [List.getD, List.getElem?_eq_getElem (show k < ns.length by omega)]
    rw [preSum, preSum_list ns k (by omega), e, List.sum_append]
    simp
theorem ints_get {ns : List Int} {its : List Value} (r : Vals (ns.map V.int) its) {i : Nat} {v : Value} (e : its.toArray[i]? = some v) : ∃ t, v = .int (ns.getD i 0) t := by
  have e' : its[i]? = some v := by simpa using e
  have hi : i < its.length := (List.getElem?_eq_some_iff.mp e').1
  have hl := r.length
  rw [List.length_map] at hl
  have hx : (ns.map V.int)[i]? = some (V.int (ns.getD i 0)) := by
    rw [List.getElem?_map, List.getElem?_eq_getElem (show i < ns.length by omega)]
    simp [List.getD, List.getElem?_eq_getElem (show i < ns.length by omega)]
  obtain ⟨u, hu, ru⟩ := r.get hx
  rw [e'] at hu
  cases hu
  exact ru
section
variable {X : Cx}
def rSum (K : PySem.W.Frag) (b : Bool) : List V → Hp → VK → Prop := fun xs H Q => ∃ (p : Addr) (ns : List Int), xs = [.ref p] ∧ SqB K b H p (ns.map V.int) ∧ Q (.int ns.sum) H
theorem call_sum (hc : X.calm = true) (b : Bool) : CallR X (.builtin "sum") (rSum X.K b) := by
  intro pins s σ H xs us Q I r h
  obtain ⟨p, ns, rfl, hq, q⟩ := h
  obtain ⟨u, rfl, ru⟩ := vals1 r
  cases ru
  obtain ⟨its, rv, zs, hz⟩ := I.seqB hq
  have hlen := rv.length
  rw [List.length_map] at hlen
  have hlt : p < s.heap.objs.size := by obtain ⟨o, e, _⟩ := zs; exact Heap.lt_size e
  refine call_sum_walkG (iter_of zs ?_)
  have sum_eq : preSum (fun i => ns.getD i 0) its.toArray.size = ns.sum := by
    rw [List.size_toArray, ← hlen, preSum_list ns _ (Nat.le_refl _), List.take_length]
  have fin : ∀ (h' : Heap) (tk : Nat) (t' : Tok), (∀ c o, c ∉ [s.heap.objs.size] → (s.heap.push (itOb b p)).get? c = some o → h'.get? c = some o) → EP X pins σ Q (.int (preSum (fun i => ns.getD i 0) its.toArray.size) t') { s with heap := h', toks := tk } := by
    intro h' tk t' k
    rw [sum_eq]
    exact ⟨.int ns.sum, H, I.kept fun c o e => k c o (by simp only [List.mem_singleton]; exact Nat.ne_of_lt (Heap.lt_size e)) (Heap.get?_push_of_some _ e), ⟨_, rfl⟩, q⟩
  have hfp : ∀ c ∈ [s.heap.objs.size, p], c < (s.heap.push (itOb b p)).objs.size := fun c hc => by
    rw [Heap.size_push]
    simp only [List.mem_cons, List.not_mem_nil, or_false] at hc
    rcases hc with rfl | rfl
    · exact Nat.lt_succ_self _
    · exact Nat.lt_succ_of_lt hlt
  cases b with
  | true => exact ⟨_, _, _, _, _, _, fun i => ns.getD i 0, rfl, Walks.tuple (A := X.A.in1) (I.ok.hd hc) _ p (Nat.ne_of_lt hlt) its.toArray, ⟨⟨_, Heap.get?_push_size _ rfl, rfl, rfl⟩, zs.at fun o e => Heap.get?_push_of_some _ e⟩, hfp, fun i v e => ints_get rv e, fin⟩
  | false => exact ⟨_, _, _, _, _, _, fun i => ns.getD i 0, rfl, Walks.list (A := X.A.in1) (I.ok.hd hc) _ p (Nat.ne_of_lt hlt) its.toArray, ⟨⟨_, Heap.get?_push_size _ rfl, rfl, rfl⟩, zs.at fun o e => Heap.get?_push_of_some _ e⟩, hfp, fun i v e => ints_get rv e, fin⟩

/-! ### isinstance -/
end
end L2

namespace L2
open PySem PySem.Spec PyProof.Rows
/-! ### == and != of lists, of tuples, whose items are flat -/
def eqVs (xs ys : List V) : Bool := xs.length == ys.length && (List.range xs.length).all fun j => eqV (xs.getD j .non) (ys.getD j .non)
theorem eqV_refl {x : V} (f : flatV x = true) : eqV x x = true := by
  cases x <;> simp [eqV] <;> exact absurd (show false = true from f) Bool.false_ne_true
theorem eqVs_refl {xs : List V} (f : xs.all flatV = true) : eqVs xs xs = true := by
  unfold eqVs
  rw [beq_self_eq_true, Bool.true_and, List.all_eq_true]
  intro j hj
  have hj' : j < xs.length := List.mem_range.mp hj
  refine eqV_refl ?_
  rw [List.all_eq_true] at f
  simp only [List.getD, List.getElem?_eq_getElem hj', Option.getD_some]
  exact f _ (List.getElem_mem hj')
theorem eqVs_len {xs ys : List V} (h : xs.length ≠ ys.length) : eqVs xs ys = false := by
  unfold eqVs
  rw [beq_eq_false_iff_ne.mpr h, Bool.false_and]
section
variable {X : Cx}
def rEqS (K : PySem.W.Frag) (b neg : Bool) : R2 := fun x y H Q => ∃ p q xs ys, x = .ref p ∧ y = .ref q ∧ SqB K b H p xs ∧ SqB K b H q ys ∧ xs.all flatV = true ∧ ys.all flatV = true ∧ Q (.bl (if neg then !eqVs xs ys else eqVs xs ys)) H
theorem eqs_items {A : Around} {s : Shared} {xs ys : List V} {its its2 : List Value} (r1 : Vals xs its) (r2 : Vals ys its2) (f1 : xs.all flatV = true) (f2 : ys.all flatV = true) :
    ∀ (j : Nat) (h1 : j < its.toArray.size) (h2 : j < its2.toArray.size), SeqAt.EqAt A s its.toArray[j] its2.toArray[j] (eqV (xs.getD j .non) (ys.getD j .non)) := by
  intro j h1 h2
  have l1 := r1.length
  have l2 := r2.length
  rw [List.size_toArray] at h1 h2
  have g1 : xs[j]? = some (xs.getD j .non) := by simp [List.getD, List.getElem?_eq_getElem (show j < xs.length by omega)]
  have g2 : ys[j]? = some (ys.getD j .non) := by simp [List.getD, List.getElem?_eq_getElem (show j < ys.length by omega)]
  obtain ⟨u1, e1, q1⟩ := r1.get g1
  obtain ⟨u2, e2, q2⟩ := r2.get g2
  have z1 : its.toArray[j] = u1 := by
    have := List.getElem?_eq_some_iff.mp e1
    simpa using this.2
  have z2 : its2.toArray[j] = u2 := by
    have := List.getElem?_eq_some_iff.mp e2
    simpa using this.2
  rw [z1, z2]
  rw [List.all_eq_true] at f1 f2
  exact eqAt_V q1 q2 (f1 _ (List.mem_of_getElem? g1)) (f2 _ (List.mem_of_getElem? g2))
theorem op_ne_seq (b : Bool) (hu : X.A.units < cLine) : OpR X (compareOp .NotEq) (rEqS X.K b true) := by
  intro pins s σ H x y v u Q I rx ry h
  obtain ⟨p, q, xs, ys, rfl, rfl, hp, hq, f1, f2, k⟩ := h
  cases rx
  cases ry
  obtain ⟨its, r1, z1, _⟩ := I.seqB hp
  obtain ⟨its2, r2, z2, _⟩ := I.seqB hq
  have l1 := r1.length
  have l2 := r2.length
  have fin : ∀ c : Bool, c = !eqVs xs ys → EP X pins σ Q (.bool c) s := fun c e => ⟨.bl c, H, I, rfl, by rw [e]; exact k⟩
  cases b with
  | false =>
    by_cases hl : xs.length = ys.length
    · refine SeqAt.RcNeAt.lists z1 z2 (by rw [List.size_toArray, List.size_toArray]; omega) hu (eqs_items r1 r2 f1 f2) _ _ _ _ (fin _ ?_)
      unfold eqVs
      rw [hl, beq_self_eq_true, Bool.true_and, List.size_toArray, ← l1, hl]
    · refine SeqAt.RcNeAt.lists_lengths z1 z2 (by rw [List.size_toArray, List.size_toArray, bne_iff_ne]; omega) hu _ _ _ _ (fin _ ?_)
      rw [eqVs_len hl]; rfl
  | true =>
    refine SeqAt.RcNeAt.tuples z1 z2 hu (eqs_items r1 r2 f1 f2) _ _ _ _ (fin _ ?_)
    rw [List.size_toArray, List.size_toArray, ← l1, ← l2]
    by_cases hl : xs.length = ys.length
    · unfold eqVs
      rw [hl, beq_self_eq_true, Bool.true_and, Bool.and_true, Nat.min_self]
    · rw [eqVs_len hl, beq_eq_false_iff_ne.mpr hl, Bool.and_false]
end
end L2

namespace L2
open PySem PySem.Spec PyProof.Rows
/-! ### the same rules over a named K: for a comprehension's block, whose reading may not lean on the block -/
section
variable {X : Cx} {K : PySem.W.Frag}
theorem ixL (h : X.K = K) : IxR X (rIxL K) := h ▸ ix_list
theorem ixT (h : X.K = K) : IxR X (rIxT K) := h ▸ ix_tup
def rLen (K : PySem.W.Frag) : List V → Hp → VK → Prop := fun xs H Q => ∃ p ys, xs = [.ref p] ∧ (SqL K H p ys ∨ SqT K H p ys) ∧ Q (.int ys.length) H
theorem cLen (h : X.K = K) : CallR X (.builtin "len") (rLen K) := h ▸ call_len_seq
theorem cSum (h : X.K = K) (hc : X.calm = true) (b : Bool) : CallR X (.builtin "sum") (rSum K b) := h ▸ call_sum hc b
def rTuple (K : PySem.W.Frag) : List V → Hp → VK → Prop := fun xs H Q => ∃ p ys, xs = [.ref p] ∧ ((SqL K H p ys ∧ ∀ l, H l = none → Q (.ref l) (upd H l (.tup ys))) ∨ (SqT K H p ys ∧ Q (.ref p) H))
theorem cTuple (h : X.K = K) : CallR X (.type "tuple") (rTuple K) := h ▸ call_tuple_of
def rList (K : PySem.W.Frag) : List V → Hp → VK → Prop := fun xs H Q => ∃ p ys, xs = [.ref p] ∧ (SqL K H p ys ∨ SqT K H p ys) ∧ ∀ l, H l = none → Q (.ref l) (upd H l (.lst ys))
theorem cList (h : X.K = K) : CallR X (.type "list") (rList K) := h ▸ call_list_of
theorem oNe (h : X.K = K) (b : Bool) (hu : X.A.units < cLine) : OpR X (compareOp .NotEq) (rEqS K b true) := h ▸ op_ne_seq b hu
theorem piL {tg l : Expr} {tl : TE} (h : X.K = K) (hl : PE X l tl) : PI X tg l (iList K tl) := h ▸ pi_list hl
theorem piT {tg l : Expr} {tl : TE} (h : X.K = K) (hl : PE X l tl) : PI X tg l (iTup K tl) := h ▸ pi_tup hl
theorem pgT {es : List Expr} {k : Nat} {t : TGs} {n : Nat} {pos : Pos} (h : X.K = K) (hc : X.calm = true) (hh : PGs X es t) (hn : (assignEach es X.env).length = n := by rfl) (hst : (assignEach es X.env).findIdx? (·.1) = none := by rfl) :
    PG X (.Tuple es k pos) (gTup K n t) := h ▸ pg_tup hc hh hn hst
end
end L2

namespace HT
open PySem PyProof.Rows
section
variable {prog : Program} {w : World} {A : Around} {E : Value → Shared → Prop} {s : Shared}
/-- the whole of a tuple is the tuple itself -/
theorem getItem_tuple_all {t sl : Addr} {items : Array Value} {vl vu : Value} {lo hi : Option Int} {Q : Value → Shared → Prop} (ht : IsTup s.heap t items) (hs : s.heap.IsSliceOf sl vl vu .none) (pl : IsPart vl lo) (pu : IsPart vu hi)
    (hw : sIx items.size 0 lo = 0 ∧ sIx items.size items.size hi = items.size) (h : Q (.ref t) s) : wpAny (model prog w) A (getItem (.ref t) (.ref sl)) Q E s := by
  obtain ⟨os, hos, hcs, hds⟩ := id hs
  have hTs : s.TypeIs (.ref sl) "slice" := ⟨os, hos, hcs⟩
  unfold getItem
  try with_reducible refine wpAny_holding ?_
  first | refine wpAny_bind (wpAny_pure ?_) | skip
  refine wpAny_bind (wpAny_sequenceKey ht.typeIs (by decide) ?_)
  refine wpAny_bind (wpAny_callSpecial?_slot (name := Str.ofString "__getitem__") ht.typeIs PyProof.Rows.slot_tuple_getitem (wpAny_call_entry PyProof.Rows.slot_tuple_getitem ht.typeIs entry_tuple_getitem ?_ (args_tuple_getitem _ _)))
  show wpAny _ _ (Builtin.Tuple.tupleItemsOf (.ref t) >>= _) _ _ s
  refine wpAny_bind (tupleItemsOf_ ht (wpAny_bind (wpAny_typeOf hTs ?_)))
  rw [if_pos (by decide)]
  refine wpAny_bind (sliceApplied_gen hs pl pu ?_)
  have yes : (((sIx items.size 0 lo : Nat) : Int) == 0 && (1 : Int) == 1 && (sIx items.size items.size hi - sIx items.size 0 lo) == items.size) = true := by
    rw [hw.1, hw.2]; simp
  show wpAny _ _ (if (((sIx items.size 0 lo : Nat) : Int) == 0 && (1 : Int) == 1 && (sIx items.size items.size hi - sIx items.size 0 lo) == items.size) = true then _ else _) _ _ s
  rw [if_pos yes]
  unfold Builtin.Tuple.tupleIsExact
  refine wpAny_bind (wpAny_bind (wpAny_typeOf ht.typeIs (wpAny_pure ?_)))
  exact wpAny_bind (wpAny_rule (wpAny_pure ⟨_, rfl, wpAny_pure h⟩))
end
end HT
namespace L2
open PySem PySem.Spec PyProof.Rows
section
variable {X : Cx} {K : PySem.W.Frag}
/-- cutting a list of any items -/
def cutL {α : Type} (xs : List α) (lo hi : Option Int) : List α := (xs.drop (HT.sIx xs.length 0 lo)).take (HT.sIx xs.length xs.length hi - HT.sIx xs.length 0 lo)
theorem cutV_map (ns : List Int) (lo hi : Option Int) : cutV (ns.map V.int) lo hi = (cutL ns lo hi).map V.int := by
  unfold cutV cutL
  rw [List.length_map, List.map_take, List.map_drop]
theorem Same.tup {K : PySem.W.Frag} {H H' : Hp} {a : Addr} {xs : List V} (e : Same H H') (h : SqT K H a xs) : SqT K H' a xs := by
  rcases h with (h | ⟨o, h⟩) | h
  · exact .inl (.inl (e _ _ h))
  · exact .inl (.inr ⟨o, e _ _ h⟩)
  · exact .inr h
theorem Same.lay {H : Hp} {p : Addr} {o : HO} (h : H p = none) : Same H (upd H p o) := fun b o' e => by rw [upd_ne (ne_of_none e h)]; exact e
end
end L2

namespace L2
open PySem PySem.Spec PyProof.Rows
/-! ### min, max of a list, by a key or plain, with a default -/
def mmL (b : Bool) : String := if b then "min.loop" else "max.loop"
def mmI (b : Bool) : String := if b then "min" else "max"
def mmOp (b : Bool) : CmpOp := if b then .Lt else .Gt
/-- the place of the best of the first i: bt i j: i is better than j -/
def pick (bt : Nat → Nat → Bool) : Nat → Option Nat
  | 0 => none
  | i + 1 => match pick bt i with
    | none => some i
    | some j => if bt i j then some i else some j
theorem pick_none {bt : Nat → Nat → Bool} : ∀ {n : Nat}, pick bt n = none → n = 0
  | 0, _ => rfl
  | n + 1, h => by
    unfold pick at h
    cases e : pick bt n with
    | none => rw [e] at h; cases h
    | some k => rw [e] at h; simp only at h; split at h <;> cases h
theorem den_builtin {P : Program} {w : World} {id : String} {args : Args} {b : Builtin} (hb : entryFor table id = some b) : (model P w).den (.builtin id args) = b args := by
  show (match entryFor table id with | some b => b args | none => unsupported ((withoutEnding? id "#data").getD id)) = _
  rw [hb]
abbrev bestOb (its : Array Value) (c : Nat) : Obj := { cls := .type "list", data := .seq its c }
/-- what the loop keeps: nothing yet, or the best item with its key's value -/
def Kept (xs : List V) (KV : Nat → V → Prop) (jb : Option Nat) (its : Array Value) : Prop := match jb with
  | none => its = #[]
  | some j => ∃ x y u v, xs[j]? = some x ∧ RelV x u ∧ KV j y ∧ RelV y v ∧ its = #[u, v]
section
variable {X : Cx} {pins : List (Addr × Obj)} {σ : St} {H0 : Hp} {a I S : Addr} {xs : List V} {KV : Nat → V → Prop} {bt : Nat → Nat → Bool} {key : Value} {kw : List (Str × Value)} {R : Result → Shared → Prop}
theorem mm_loop (b : Bool) (hc : X.calm = true) (hSI : S ≠ I)
    (hl : SqL X.K H0 a xs)
    (hkey : (key = .none ∧ ∀ i x, xs[i]? = some x → KV i x) ∨ ∃ q, key = .ref q ∧ ∀ i x u (pins : List (Addr × Obj)) s H, xs[i]? = some x → Inv X pins σ H s → RelV x u → Same H0 H →
      wpAny (model X.prog X.w) X.A.in1 (call (.ref q) [u]) (fun v s' => ∃ y H', Inv X pins σ H' s' ∧ RelV y v ∧ KV i y ∧ Same H H') (fun _ _ => False) s)
    (hcmp : ∀ i j y z v u s H (pins : List (Addr × Obj)) (Q : Value → Shared → Prop) (E : Value → Shared → Prop), KV i y → KV j z → Inv X pins σ H s → Same H0 H → RelV y v → RelV z u → Q (.bool (bt i j)) s → wpAny (model X.prog X.w) X.A.in1 (richCompare (mmOp b) v u) Q E s)
    (hR : ∀ s' H', Inv X pins σ H' s' → Same H0 H' → match pick bt xs.length with
      | none => ∀ d dn r, kw = (dn, d) :: r → R (.ok (.ret d)) s'
      | some j => ∀ x u, xs[j]? = some x → RelV x u → R (.ok (.ret u)) s')
    (hkw : kw = [] → 0 < xs.length) {s : Shared} (I0 : Inv X pins σ H0 s) (it0 : s.heap.IsListIter I a 0) (fI : FpOk X pins H0 I) (fS : FpOk X pins H0 S) {c0 : Nat} (s0 : s.heap.get? S = some (bestOb #[] c0)) :
    codeAny (model X.prog X.w) X.A (.builtin (mmL b) ⟨[.ref I, key, .ref S], kw⟩) R s := by
  have hn1 : (toString "min" ++ toString ".loop" : String) = "min.loop" := by decide
  have hn2 : (toString "max" ++ toString ".loop" : String) = "max.loop" := by decide
  have stI : ∀ {H' : Hp}, H' I = none → FpOk X pins H' I := fun h => ⟨h, fI.2⟩
  have stS : ∀ {H' : Hp}, H' S = none → FpOk X pins H' S := fun h => ⟨h, fS.2⟩
  have quiet : (Code.builtin (mmL b) ⟨[.ref I, key, .ref S], kw⟩).quiet = true := by
    cases b
    · exact plainId_quiet PySem.F.plain_max_loop _
    · exact plainId_quiet PySem.F.plain_min_loop _
  refine codeAny_loop quiet (fun n s' => ∃ i H its c, Inv X pins σ H s' ∧ Same H0 H ∧ s'.heap.IsListIter I a i ∧ H I = none ∧ H S = none ∧ s'.heap.get? S = some (bestOb its c) ∧ Kept xs KV (pick bt i) its ∧ i ≤ xs.length ∧ n = xs.length - i) ?_ xs.length
    ⟨0, H0, #[], c0, I0, Same.refl _, it0, fI.1, fS.1, s0, rfl, Nat.zero_le _, rfl⟩
  rintro n s1 ⟨i, H, its, c, I1, S1, hit, hI, hS, hob, hk, hi, rfl⟩
  obtain ⟨vs, rv, pl, hz⟩ := I1.list (S1.seq hl)
  have hlen := rv.length
  have isz : its.size ≤ 2 := by
    cases e : pick bt i with
    | none => rw [e] at hk; rw [show its = #[] from hk]; decide
    | some j => rw [e] at hk; obtain ⟨_, _, _, _, _, _, _, _, rfl⟩ := hk; exact Nat.le_refl 2
  have hh : X.A.in1.handled = none := I1.ok.hd hc
  cases hv : vs[i]? with
  | none =>
    have hil : i = xs.length := by
      have := List.getElem?_eq_none_iff.mp hv
      omega
    cases b
    all_goals
      first | rw [show mmL false = "max.loop" from rfl] | rw [show mmL true = "min.loop" from rfl]
      first | rw [Around.under_plainId PySem.F.plain_max_loop _] | rw [Around.under_plainId PySem.F.plain_min_loop _]
      first | rw [den_builtin PySem.F.entry_max_loop] | rw [den_builtin PySem.F.entry_min_loop]
      show wpAny _ X.A.in1 (seqItems? (.ref S) >>= _) _ _ _
      refine wpAny_bind (wpAny_seqItems hob rfl ?_)
      show wpAny _ X.A.in1 (tryCatch (pyNext (.ref I)) _ >>= _) _ _ _
      refine wpAny_bind (wpAny_tryCatch (wpAny_pyNext_list_end hh hit pl.isList (by simpa using hv) fun h' k' => ?_))
      have I2 : Inv X pins σ H { s1 with heap := h' } := I1.turned (t' := s1.toks) (fun b' o hb e => k' b' o hb e) hI fI.2.1 fI.2.2.2.1 fI.2.2.2.2.1 fI.2.2.2.2.2
      have hob2 := k' S _ hSI hob
      cases e : pick bt i with
      | none =>
        rw [e] at hk
        have hk : its = #[] := hk
        subst hk
        cases kw with
        | nil => exact absurd (pick_none e) (by have := hkw rfl; omega)
        | cons p r =>
          refine wpAny_bind (wpAny_rule (wpAny_pure ?_))
          have := hR _ H I2 S1
          rw [← hil, e] at this
          exact this p.2 p.1 r rfl
      | some j =>
        rw [e] at hk
        obtain ⟨x, y, u, v, g1, g2, g3, g4, rfl⟩ := hk
        show wpAny _ X.A.in1 (updateSeq S (fun _ => #[]) >>= _) _ _ _
        refine wpAny_bind (wpAny_updateSeq hob2 rfl (wpAny_bind (wpAny_letGo (wpAny_pure ?_))))
        have := hR _ H (I2.turned (it := S) (h' := h'.update S (Obj.mapSeq fun _ => #[])) (t' := s1.toks) (fun b' o hb e => (Heap.get?_update_other _ _ (Ne.symm hb)).trans e) hS fS.2.1 fS.2.2.2.1 fS.2.2.2.2.1 fS.2.2.2.2.2) S1
        rw [← hil, e] at this
        exact this x u g1 g2
  | some u =>
    have hil : i < vs.length := (List.getElem?_eq_some_iff.mp hv).1
    obtain ⟨x, hx⟩ : ∃ x, xs[i]? = some x := ⟨xs[i]'(by omega), List.getElem?_eq_getElem (by omega)⟩
    obtain ⟨u', hu', ru⟩ := rv.get hx
    rw [hv] at hu'
    cases hu'
    -- behind the key: the comparison, the store
    have tail : ∀ (s2 : Shared) (H2 : Hp) (y : V) (v : Value) (o2 : Obj), Inv X (pins ++ [(I, o2), (S, bestOb its c)]) σ H2 s2 → Same H H2 → RelV y v → KV i y → (o2.cls = .type "list_iterator" ∧ o2.data = .fields #[.ref a, .int ((i + 1 : Nat) : Int) 0]) →
        ∀ jn, jn = pick bt (i + 1) → ∀ its', Kept xs KV jn its' → its'.size = 2 → ∀ T : Nat, ∃ m, m < xs.length - i ∧ ∃ i' H' its c, Inv X pins σ H' { s2 with heap := s2.heap.update S (Obj.mapSeq fun _ => its'), toks := T } ∧ Same H0 H' ∧ (s2.heap.update S (Obj.mapSeq fun _ => its')).IsListIter I a i' ∧ H' I = none ∧ H' S = none ∧ (s2.heap.update S (Obj.mapSeq fun _ => its')).get? S = some (bestOb its c) ∧ Kept xs KV (pick bt i') its ∧ i' ≤ xs.length ∧ m = xs.length - i' := by
      intro s2 H2 y v o2 J S2 ry hy ho jn hj its' hk' hz' T
      have q1 := J.pin (I, o2) (by simp)
      have q2 := J.pin (S, bestOb its c) (by simp)
      have J1 : Inv X pins σ H2 s2 := J.unpinned
      have g := get?_update_seq (c := "list") q2.1 (fun _ => its')
      refine ⟨xs.length - (i + 1), by omega, i + 1, H2, its', _, J1.turned (it := S) (fun b' o hb e => (Heap.get?_update_other _ _ (Ne.symm hb)).trans e) q2.2.1 fS.2.1 fS.2.2.2.1 fS.2.2.2.2.1 fS.2.2.2.2.2, S1.trans S2, ⟨o2, (Heap.get?_update_other _ _ hSI).trans q1.1, ho.1, ho.2⟩, q1.2.1, q2.2.1, g, by rw [← hj]; exact hk', by omega, rfl⟩
    have tail0 : ∀ (s2 : Shared) (H2 : Hp) (o2 : Obj), Inv X (pins ++ [(I, o2), (S, bestOb its c)]) σ H2 s2 → Same H H2 → (o2.cls = .type "list_iterator" ∧ o2.data = .fields #[.ref a, .int ((i + 1 : Nat) : Int) 0]) → Kept xs KV (pick bt (i + 1)) its →
        ∃ m, m < xs.length - i ∧ ∃ i' H' its c, Inv X pins σ H' s2 ∧ Same H0 H' ∧ s2.heap.IsListIter I a i' ∧ H' I = none ∧ H' S = none ∧ s2.heap.get? S = some (bestOb its c) ∧ Kept xs KV (pick bt i') its ∧ i' ≤ xs.length ∧ m = xs.length - i' := by
      intro s2 H2 o2 J S2 ho hk'
      have q1 := J.pin (I, o2) (by simp)
      have q2 := J.pin (S, bestOb its c) (by simp)
      exact ⟨xs.length - (i + 1), by omega, i + 1, H2, its, c, J.unpinned, S1.trans S2, ⟨o2, q1.1, ho.1, ho.2⟩, q1.2.1, q2.2.1, q2.1, hk', by omega, rfl⟩
    cases b
    all_goals
      first | rw [show mmL false = "max.loop" from rfl] | rw [show mmL true = "min.loop" from rfl]
      first | rw [Around.under_plainId PySem.F.plain_max_loop _] | rw [Around.under_plainId PySem.F.plain_min_loop _]
      first | rw [den_builtin PySem.F.entry_max_loop] | rw [den_builtin PySem.F.entry_min_loop]
      show wpAny _ X.A.in1 (seqItems? (.ref S) >>= _) _ _ _
      refine wpAny_bind (wpAny_seqItems hob rfl ?_)
      show wpAny _ X.A.in1 (tryCatch (pyNext (.ref I)) _ >>= _) _ _ _
      refine wpAny_bind (wpAny_tryCatch (wpAny_pyNext_list_item hit pl.isList (x := u) (by simpa using hv) fun h' hit' k' => ?_))
      have I2 : Inv X pins σ H { s1 with heap := h' } := I1.turned (t' := s1.toks) (fun b' o hb e => (k'.2 b' hb).trans e) hI fI.2.1 fI.2.2.2.1 fI.2.2.2.2.1 fI.2.2.2.2.2
      obtain ⟨o2, ho2, hoc, hod⟩ := hit'
      have hob2 : h'.get? S = some (bestOb its c) := (k'.2 S hSI).trans hob
      have I3 : Inv X (pins ++ [(I, o2), (S, bestOb its c)]) σ H { s1 with heap := h' } := I2.pins_of fun p hp => by
        rcases List.mem_append.mp hp with z | z
        · exact I2.pin p (List.mem_append_right _ z)
        · simp only [List.mem_cons, List.not_mem_nil, or_false] at z
          rcases z with rfl | rfl
          · exact ⟨ho2, hI, fI.2.1, fI.2.2.1, fun v q => by rw [hod] at q; cases q⟩
          · exact ⟨hob2, hS, fS.2.1, fS.2.2.1, fun v q => by cases q⟩
      rcases hkey with ⟨rfl, hk0⟩ | ⟨q, rfl, hq⟩
      · refine wpAny_bind (wpAny_pure ?_)
        have hy := hk0 i x hx
        cases e : pick bt i with
        | none =>
          rw [e] at hk
          have hk : its = #[] := hk
          subst hk
          have ep : pick bt (i + 1) = some i := by unfold pick; rw [e]
          refine wpAny_bind (wpAny_updateSeq hob2 rfl ?_)
          first | rw [hn1] | rw [hn2]
          exact wpAny_pure ⟨rfl, tail _ H x u o2 I3 (Same.refl _) ru hy ⟨hoc, hod⟩ _ ep.symm _ ⟨x, x, u, u, hx, ru, hy, ru, rfl⟩ rfl _⟩
        | some j =>
          rw [e] at hk
          obtain ⟨xo, yo, uo, vo, g1, g2, g3, g4, rfl⟩ := hk
          show wpAny _ X.A.in1 (tryCatch (holding [u, u] (richCompare _ u vo >>= _)) _ >>= _) _ _ _
          refine wpAny_bind (wpAny_tryCatch (wpAny_holding (wpAny_bind (hcmp i j x yo u vo _ H _ _ _ hy g3 I3 S1 ru g4 (wpAny_bind (wpAny_holding (wpAny_truthy_bool (wpAny_bind (wpAny_letGo (wpAny_pure ?_)))))))))) 
          cases eb : bt i j with
          | true =>
            have ep : pick bt (i + 1) = some i := by unfold pick; rw [e]; simp only [eb, if_true]
            refine wpAny_bind (wpAny_updateSeq hob2 rfl (wpAny_bind (wpAny_letGo ?_)))
            first | rw [hn1] | rw [hn2]
            exact wpAny_pure ⟨rfl, tail _ H x u o2 I3 (Same.refl _) ru hy ⟨hoc, hod⟩ _ ep.symm _ ⟨x, x, u, u, hx, ru, hy, ru, rfl⟩ rfl _⟩
          | false =>
            have ep : pick bt (i + 1) = some j := by unfold pick; rw [e]; simp only [eb, Bool.false_eq_true, if_false]
            refine wpAny_bind (wpAny_letGo ?_)
            first | rw [hn1] | rw [hn2]
            exact wpAny_pure ⟨rfl, tail0 _ H o2 I3 (Same.refl _) ⟨hoc, hod⟩ (by rw [ep]; exact ⟨xo, yo, uo, vo, g1, g2, g3, g4, rfl⟩)⟩
      · show wpAny _ X.A.in1 (tryCatch (holding [u] (call (.ref q) [u])) _ >>= _) _ _ _
        refine wpAny_bind (wpAny_tryCatch (wpAny_holding (wpAny_mono (hq i x u _ _ H hx I3 ru S1) (fun v s2 ⟨y, H2, J, ry, hy, S2⟩ => ?_) fun _ _ z => z.elim)))
        have hob3 := (J.pin (S, bestOb its c) (by simp)).1
        cases e : pick bt i with
        | none =>
          rw [e] at hk
          have hk : its = #[] := hk
          subst hk
          have ep : pick bt (i + 1) = some i := by unfold pick; rw [e]
          refine wpAny_bind (wpAny_updateSeq hob3 rfl ?_)
          first | rw [hn1] | rw [hn2]
          exact wpAny_pure ⟨rfl, tail _ H2 y v o2 J S2 ry hy ⟨hoc, hod⟩ _ ep.symm _ ⟨x, y, u, v, hx, ru, hy, ry, rfl⟩ rfl _⟩
        | some j =>
          rw [e] at hk
          obtain ⟨xo, yo, uo, vo, g1, g2, g3, g4, rfl⟩ := hk
          show wpAny _ X.A.in1 (tryCatch (holding [u, v] (richCompare _ v vo >>= _)) _ >>= _) _ _ _
          refine wpAny_bind (wpAny_tryCatch (wpAny_holding (wpAny_bind (hcmp i j y yo v vo _ H2 _ _ _ hy g3 J (S1.trans S2) ry g4 (wpAny_bind (wpAny_holding (wpAny_truthy_bool (wpAny_bind (wpAny_letGo (wpAny_pure ?_))))))))))
          cases eb : bt i j with
          | true =>
            have ep : pick bt (i + 1) = some i := by unfold pick; rw [e]; simp only [eb, if_true]
            refine wpAny_bind (wpAny_updateSeq hob3 rfl (wpAny_bind (wpAny_letGo ?_)))
            first | rw [hn1] | rw [hn2]
            exact wpAny_pure ⟨rfl, tail _ H2 y v o2 J S2 ry hy ⟨hoc, hod⟩ _ ep.symm _ ⟨x, y, u, v, hx, ru, hy, ry, rfl⟩ rfl _⟩
          | false =>
            have ep : pick bt (i + 1) = some j := by unfold pick; rw [e]; simp only [eb, Bool.false_eq_true, if_false]
            refine wpAny_bind (wpAny_letGo ?_)
            first | rw [hn1] | rw [hn2]
            exact wpAny_pure ⟨rfl, tail0 _ H2 o2 J S2 ⟨hoc, hod⟩ (by rw [ep]; exact ⟨xo, yo, uo, vo, g1, g2, g3, g4, rfl⟩)⟩
end
end L2

namespace L2
open PySem PySem.Spec PyProof.Rows
theorem argsD (b : Bool) (a d : Value) : argsOk (mmI b) ⟨[a], [(Str.ofString "default", d)]⟩ := by cases b <;> (unfold argsOk; kernel_rfl)
theorem argsKD (b : Bool) (a v d : Value) : argsOk (mmI b) ⟨[a], [(Str.ofString "key", v), (Str.ofString "default", d)]⟩ := by cases b <;> (unfold argsOk; kernel_rfl)
theorem args1 (b : Bool) (a : Value) : argsOk (mmI b) ⟨[a], []⟩ := by cases b <;> (unfold argsOk; kernel_rfl)
section
variable {X : Cx} {pins : List (Addr × Obj)} {σ : St} {H : Hp} {s : Shared} {a : Addr} {xs : List V} {KV : Nat → V → Prop} {bt : Nat → Nat → Bool} {Q : VK}
/-- the three forms of a call: plain; with a default; with a key and a default -/
inductive MmKw : List (Str × Value) → Value → List (Str × Value) → Prop
  | one : MmKw [] .none []
  | dflt (d : Value) : MmKw [(Str.ofString "default", d)] .none [(Str.ofString "default", d)]
  | key (q : Addr) (d : Value) : MmKw [(Str.ofString "key", .ref q), (Str.ofString "default", d)] (.ref q) [(Str.ofString "default", d)]
theorem mm_call (b : Bool) {kws kw : List (Str × Value)} {key : Value} (hkw : MmKw kws key kw) (hc : X.calm = true) (I0 : Inv X pins σ H s) (hl : SqL X.K H a xs)
    (hkey : (key = .none ∧ ∀ i x, xs[i]? = some x → KV i x) ∨ ∃ q, key = .ref q ∧ ∀ i x u (pins : List (Addr × Obj)) s H', xs[i]? = some x → Inv X pins σ H' s → RelV x u → Same H H' →
      wpAny (model X.prog X.w) X.A.in1 (call (.ref q) [u]) (fun v s' => ∃ y H2, Inv X pins σ H2 s' ∧ RelV y v ∧ KV i y ∧ Same H' H2) (fun _ _ => False) s)
    (hcmp : ∀ i j y z v u s H' (pins : List (Addr × Obj)) (Q : Value → Shared → Prop) (E : Value → Shared → Prop), KV i y → KV j z → Inv X pins σ H' s → Same H H' → RelV y v → RelV z u → Q (.bool (bt i j)) s → wpAny (model X.prog X.w) X.A.in1 (richCompare (mmOp b) v u) Q E s)
    (hn : kw = [] → 0 < xs.length) (hd : ∀ dn d r, kw = (dn, d) :: r → d = .none)
    (hQ : ∀ H', Same H H' → match pick bt xs.length with | none => Q .non H' | some j => ∀ x, xs[j]? = some x → Q x H') :
    wpAny (model X.prog X.w) X.A (call (.builtin (mmI b)) [.ref a] kws) (EP X pins σ Q) X.xe s := by
  have hn1 : (toString "min" ++ toString ".loop" : String) = "min.loop" := by decide
  have hn2 : (toString "max" ++ toString ".loop" : String) = "max.loop" := by decide
  obtain ⟨vs, rv, pl, hz⟩ := I0.list hl
  have hls := pl.isList
  have e1 : (s.heap.push { cls := .type "list_iterator", data := .fields #[.ref a, .int 0 0] }).objs.size = s.heap.objs.size + 1 := Heap.size_push ..
  have I1 : Inv X pins σ H { s with heap := (s.heap.push { cls := .type "list_iterator", data := .fields #[.ref a, .int 0 0] }).push (bestOb #[] 0) } := I0.kept (t' := s.toks) fun b' o e => Heap.get?_push_of_some _ (Heap.get?_push_of_some _ e)
  have gI : ((s.heap.push { cls := .type "list_iterator", data := .fields #[.ref a, .int 0 0] }).push (bestOb #[] 0)).IsListIter s.heap.objs.size a 0 := ⟨_, Heap.get?_push_of_some _ (Heap.get?_push_size _ rfl), rfl, rfl⟩
  have gS : ((s.heap.push { cls := .type "list_iterator", data := .fields #[.ref a, .int 0 0] }).push (bestOb #[] 0)).get? (s.heap.push { cls := .type "list_iterator", data := .fields #[.ref a, .int 0 0] }).objs.size = some (bestOb #[] 0) := Heap.get?_push_size _ rfl
  have fI : FpOk X pins H s.heap.objs.size := I0.fpOk (Nat.le_refl _) (I0.hok.fresh (Nat.le_refl _))
  have fS : FpOk X pins H (s.heap.push { cls := .type "list_iterator", data := .fields #[.ref a, .int 0 0] }).objs.size := by
    rw [e1]; exact I0.fpOk (Nat.le_succ _) (I0.hok.fresh (Nat.le_succ _))
  have nSI : (s.heap.push { cls := .type "list_iterator", data := .fields #[.ref a, .int 0 0] }).objs.size ≠ s.heap.objs.size := by rw [e1]; exact Nat.ne_of_gt (Nat.lt_succ_self _)
  have lp : codeAny (model X.prog X.w) X.A (.builtin (mmL b) ⟨[.ref s.heap.objs.size, key, .ref (s.heap.push { cls := .type "list_iterator", data := .fields #[.ref a, .int 0 0] }).objs.size], kw⟩)
      (fun r s' => match r with | .ok (.ret v) => EP X pins σ Q v s' | .ok _ => False | .error e => X.xe e s') { s with heap := (s.heap.push { cls := .type "list_iterator", data := .fields #[.ref a, .int 0 0] }).push (bestOb #[] 0) } := by
    refine mm_loop b hc nSI hl hkey hcmp ?_ hn I1 gI fI fS gS
    intro s' H' I' S'
    have q := hQ H' S'
    cases e : pick bt xs.length with
    | none =>
      rw [e] at q
      intro d dn r hk
      have hd' := hd dn d r hk
      subst hd'
      exact ⟨.non, H', I', rfl, q⟩
    | some j =>
      rw [e] at q
      intro x u hx ru
      exact ⟨x, H', I', ru, q x hx⟩
  cases b with
  | false =>
    cases hkw with
    | one =>
      refine PyProof.Rows.kmk_tree PySem.F.kind_max PySem.F.plain_max PySem.F.entry_max (args1 false _) ?_
      show wpAny _ X.A.in1 (Builtin.Builtins.bindParams "max" ["key", "default"] 0 ⟨[], []⟩ >>= _) _ _ s
      refine wpAny_bind (wpAny_of_eq (show Builtin.Builtins.bindParams "max" ["key", "default"] 0 ⟨[], []⟩ = pure [none, none] from rfl) ?_)
      refine wpAny_bind (wpAny_pure ?_)
      refine wpAny_bind (wpAny_pyIter_list hls ?_)
      refine wpAny_bind (wpAny_newList ?_ (Nat.zero_le _))
      rw [hn2]
      exact wpAny_pure ⟨plainId_quiet PySem.F.plain_max_loop _, lp⟩
    | dflt d =>
      refine PyProof.Rows.kmk_tree PySem.F.kind_max PySem.F.plain_max PySem.F.entry_max (argsD false _ _) ?_
      show wpAny _ X.A.in1 (Builtin.Builtins.bindParams "max" ["key", "default"] 0 ⟨[], [(Str.ofString "default", d)]⟩ >>= _) _ _ s
      refine wpAny_bind (wpAny_of_eq (show Builtin.Builtins.bindParams "max" ["key", "default"] 0 ⟨[], [(Str.ofString "default", d)]⟩ = pure [none, some d] from rfl) ?_)
      refine wpAny_bind (wpAny_pure ?_)
      refine wpAny_bind (wpAny_pyIter_list hls ?_)
      refine wpAny_bind (wpAny_newList ?_ (Nat.zero_le _))
      rw [hn2]
      exact wpAny_pure ⟨plainId_quiet PySem.F.plain_max_loop _, lp⟩
    | key q d =>
      refine PyProof.Rows.kmk_tree PySem.F.kind_max PySem.F.plain_max PySem.F.entry_max (argsKD false _ _ _) ?_
      show wpAny _ X.A.in1 (Builtin.Builtins.bindParams "max" ["key", "default"] 0 ⟨[], [(Str.ofString "key", .ref q), (Str.ofString "default", d)]⟩ >>= _) _ _ s
      refine wpAny_bind (wpAny_of_eq (show Builtin.Builtins.bindParams "max" ["key", "default"] 0 ⟨[], [(Str.ofString "key", .ref q), (Str.ofString "default", d)]⟩ = pure [some (.ref q), some d] from rfl) ?_)
      refine wpAny_bind (wpAny_pure ?_)
      refine wpAny_bind (wpAny_pyIter_list hls ?_)
      refine wpAny_bind (wpAny_newList ?_ (Nat.zero_le _))
      rw [hn2]
      exact wpAny_pure ⟨plainId_quiet PySem.F.plain_max_loop _, lp⟩
  | true =>
    cases hkw with
    | one =>
      refine PyProof.Rows.kmk_tree PySem.F.kind_min PySem.F.plain_min PySem.F.entry_min (args1 true _) ?_
      show wpAny _ X.A.in1 (Builtin.Builtins.bindParams "min" ["key", "default"] 0 ⟨[], []⟩ >>= _) _ _ s
      refine wpAny_bind (wpAny_of_eq (show Builtin.Builtins.bindParams "min" ["key", "default"] 0 ⟨[], []⟩ = pure [none, none] from rfl) ?_)
      refine wpAny_bind (wpAny_pure ?_)
      refine wpAny_bind (wpAny_pyIter_list hls ?_)
      refine wpAny_bind (wpAny_newList ?_ (Nat.zero_le _))
      rw [hn1]
      exact wpAny_pure ⟨plainId_quiet PySem.F.plain_min_loop _, lp⟩
    | dflt d =>
      refine PyProof.Rows.kmk_tree PySem.F.kind_min PySem.F.plain_min PySem.F.entry_min (argsD true _ _) ?_
      show wpAny _ X.A.in1 (Builtin.Builtins.bindParams "min" ["key", "default"] 0 ⟨[], [(Str.ofString "default", d)]⟩ >>= _) _ _ s
      refine wpAny_bind (wpAny_of_eq (show Builtin.Builtins.bindParams "min" ["key", "default"] 0 ⟨[], [(Str.ofString "default", d)]⟩ = pure [none, some d] from rfl) ?_)
      refine wpAny_bind (wpAny_pure ?_)
      refine wpAny_bind (wpAny_pyIter_list hls ?_)
      refine wpAny_bind (wpAny_newList ?_ (Nat.zero_le _))
      rw [hn1]
      exact wpAny_pure ⟨plainId_quiet PySem.F.plain_min_loop _, lp⟩
    | key q d =>
      refine PyProof.Rows.kmk_tree PySem.F.kind_min PySem.F.plain_min PySem.F.entry_min (argsKD true _ _ _) ?_
      show wpAny _ X.A.in1 (Builtin.Builtins.bindParams "min" ["key", "default"] 0 ⟨[], [(Str.ofString "key", .ref q), (Str.ofString "default", d)]⟩ >>= _) _ _ s
      refine wpAny_bind (wpAny_of_eq (show Builtin.Builtins.bindParams "min" ["key", "default"] 0 ⟨[], [(Str.ofString "key", .ref q), (Str.ofString "default", d)]⟩ = pure [some (.ref q), some d] from rfl) ?_)
      refine wpAny_bind (wpAny_pure ?_)
      refine wpAny_bind (wpAny_pyIter_list hls ?_)
      refine wpAny_bind (wpAny_newList ?_ (Nat.zero_le _))
      rw [hn1]
      exact wpAny_pure ⟨plainId_quiet PySem.F.plain_min_loop _, lp⟩
end
end L2

namespace L2
open PySem PySem.Spec PyProof.Rows
section
variable {X : Cx} {K : PySem.W.Frag} {x : Str} {p pos : Pos} {e : Expr} {es : List Expr} {kws : List Keyword} {t tk : TA} {id : String} {ks : List Str}
def tCBK (r : List V → List V → Hp → VK → Prop) (t tk : TA) : TE := fun σ H Q => t σ H fun vs H1 => tk σ H1 fun zs H2 => r vs zs H2 Q
/-- a call of a built-in function with keywords, by values -/
def CallKR (X : Cx) (id : String) (ks : List Str) (r : List V → List V → Hp → VK → Prop) : Prop :=
  ∀ (pins : List (Addr × Obj)) (s : Shared) (σ : St) (H : Hp) (vs zs : List V) (us ws : List Value) (Q : VK), Inv X pins σ H s → Vals vs us → Vals zs ws → r vs zs H Q →
    wpAny (model X.prog X.w) X.A (call (.builtin id) us (ks.zip ws)) (EP X pins σ Q) X.xe s
theorem pe_callBK {r : List V → List V → Hp → VK → Prop} (hc : CallKR X id ks r) (hg : Gl X x) (hm : X.mg x = none) (hv : bootBuiltins x = some (.builtin id)) (ha : PA X (e :: es) t) (hk : PK X kws tk) (hn : x ≠ "__name__" := by decide) (hdb : (x == ("__debug__" : Str)) = false := by decide)
    (hks : (backToKw pos (keywordEach kws X.env)).filterMap (·.1) = ks := by rfl)
    (he : backTo pos (starEach (e :: es) X.env) = (false, eval e X.env) :: backTo pos (starEach es X.env) := by rfl)
    (hplain : (backTo pos (starEach (e :: es) X.env)).any (·.1) = false := by rfl)
    (hall : (backToKw pos (keywordEach kws X.env)).all (·.1.isSome) = true := by rfl)
    (hkw : (backToKw pos (keywordEach kws X.env)).any (·.1.isNone) = false := by rfl) : PE X (.Call (.Name x p) (e :: es) kws pos) (tCBK r t tk) := by
  intro pins s σ H Q I h
  refine wpAny_Call_Name_kw (ld_blt I hg hm hv ?_ hn hdb)
  refine callWith_kw (thn (ha pos pins s σ H _ I h) fun us s1 ⟨vs, H1, I1, r1, q1⟩ => thn (hk pos pins s1 σ H1 _ I1 q1) fun ws s2 ⟨zs, H2, I2, r2, q2⟩ => ?_) he hplain hall hkw
  rw [hks]
  exact hc pins s2 σ H2 vs zs us ws Q I2 r1 r2 q2
/-- what the best is: None of no items, else the item at its place -/
def Best (bt : Nat → Nat → Bool) (xs : List V) (H : Hp) (Q : VK) : Prop := ∀ H', Same H H' → match pick bt xs.length with | none => Q .non H' | some j => ∀ x, xs[j]? = some x → Q x H'
/-- min(xs, default=None) of tuples of ints -/
def rMinD (K : PySem.W.Frag) : List V → List V → Hp → VK → Prop := fun vs zs H Q => ∃ (a : Addr) (xs : List V) (ms : Nat → List Int), vs = [.ref a] ∧ zs = [.non] ∧ SqL K H a xs ∧ (∀ (i : Nat) x, xs[i]? = some x → ∃ q, x = .ref q ∧ H q = some (.tup ((ms i).map V.int))) ∧ Best (fun i j => HT.lexLt (ms i) (ms j)) xs H Q
theorem cMinD (hK : X.K = K) (hc : X.calm = true) (hu : X.A.in1.units < cLine) : CallKR X "min" [Str.ofString "default"] (rMinD K) := by
  subst hK
  intro pins s σ H vs zs us ws Q I r1 r2 h
  obtain ⟨a, xs, ms, rfl, rfl, hl, hi, hb⟩ := h
  obtain ⟨u, rfl, ru⟩ := vals1 r1
  cases ru
  obtain ⟨d, rfl, rd⟩ := vals1 r2
  cases (show d = Value.none from rd)
  refine mm_call (b := true) (KV := fun i y => ∃ q, y = .ref q ∧ H q = some (.tup ((ms i).map V.int))) (bt := fun i j => HT.lexLt (ms i) (ms j)) (.dflt _) hc I hl (.inl ⟨rfl, fun i x hx => hi i x hx⟩) ?_ (fun z => nomatch z) (fun dn d r z => by cases z; rfl) hb
  rintro i j y z v w' s' H' pins' Q' E' ⟨q1, rfl, e1⟩ ⟨q2, rfl, e2⟩ I' S' ry rz hq
  cases ry
  cases rz
  obtain ⟨its, w1, p1, _⟩ := I'.tuple (SqT.of (K := X.K) (S' _ _ e1))
  obtain ⟨its2, w2, p2, _⟩ := I'.tuple (SqT.of (K := X.K) (S' _ _ e2))
  show wpAny _ _ (compareOp .Lt (.ref q1) (.ref q2)) _ _ _
  exact HT.lt_tupInts p1 p2 (intsAre_of w1) (intsAre_of w2) hu hq
end
end L2

namespace L2
open PySem PySem.Spec PyProof.Rows
section
variable {X : Cx} {K : PySem.W.Frag}
end
end L2

namespace L2
open PySem PySem.Spec PyProof.Rows
/-- // by a positive divisor below 2^64 -/
def CDivW (i j : Int) : Prop := 0 < j ∧ j < 18446744073709551616
theorem op_fdivW {X : Cx} : OpR X (binaryOp .FloorDiv) (rI CDivW fun i j => .int (i / j)) := opI fun i j _ _ _ _ _ hc q => by
  have h1 : (0 : Int) < j := hc.1
  have h2 : j < 18446744073709551616 := hc.2
  refine floordiv_int (by omega) (by rw [Int.fdiv_eq_ediv_of_nonneg i (by omega)]; exact q) (.inl (PyProof.noPylong_of_log2 ?_))
  have h0 : j.natAbs ≠ 0 := by omega
  have : j.natAbs.log2 < 64 := (Nat.log2_lt h0).mpr (by omega)
  omega
end L2

namespace L2
open PySem PySem.Spec PyProof.Rows
/-! ### a, b = a list of that length -/
section
variable {prog : Program} {w : World} {A : Around} {E : Value → Shared → Prop} {s : Shared}
end
section
variable {X : Cx} {K : PySem.W.Frag} {pos : Pos}
/-- xs != [] of any list -/
def rNeNil (K : PySem.W.Frag) : R2 := fun x y H Q => ∃ p q xs, x = .ref p ∧ y = .ref q ∧ SqL K H p xs ∧ SqL K H q [] ∧ Q (.bl (!xs.isEmpty)) H
theorem oNeNil (hK : X.K = K) (hu : X.A.units < cLine) : OpR X (compareOp .NotEq) (rNeNil K) := by
  subst hK
  intro pins s σ H x y v u Q I rx ry h
  obtain ⟨p, q, xs, rfl, rfl, hp, hq, k⟩ := h
  cases rx
  cases ry
  obtain ⟨its, r1, z1, _⟩ := I.list hp
  obtain ⟨its2, r2, z2, _⟩ := I.list hq
  cases r2
  have l1 := r1.length
  cases xs with
  | nil =>
    cases r1
    exact SeqAt.RcNeAt.lists (e := fun _ => true) z1.isList z2.isList rfl hu (fun j h1 h2 => absurd h1 (Nat.not_lt_zero _)) _ _ _ _ ⟨.bl false, H, I, rfl, k⟩
  | cons x xs =>
    refine SeqAt.RcNeAt.lists_lengths z1.isList z2.isList ?_ hu _ _ _ _ ⟨.bl true, H, I, rfl, k⟩
    rw [List.size_toArray, bne_iff_ne, ← l1]
    simp
/-- what is never come to -/
theorem ps_no {st : Stmt} : PS X st (fun _ _ _ => False) := fun _ _ _ _ _ _ h => h.elim
end
end L2

namespace L2
open PySem PySem.Spec PyProof.Rows
/-! ### lists of pairs as tables -/
section
variable {κ : Type} [DecidableEq κ]
def valV (kvs : List (κ × V)) (k : κ) : Option V := (kvs.find? fun kv => decide (kv.1 = k)).map (·.2)
/-- in its place, or at the end -/
def putK (kvs : List (κ × V)) (k : κ) (v : V) : List (κ × V) :=
  if (kvs.any fun kv => decide (kv.1 = k)) = true then kvs.map (fun kv => if kv.1 = k then (kv.1, v) else kv) else kvs ++ [(k, v)]
theorem valV_pos {p : κ × V} {r : List (κ × V)} {k : κ} (e : p.1 = k) : valV (p :: r) k = some p.2 := by simp [valV, List.find?_cons, e]
theorem valV_neg {p : κ × V} {r : List (κ × V)} {k : κ} (e : ¬ p.1 = k) : valV (p :: r) k = valV r k := by simp [valV, List.find?_cons, e]
theorem valV_any (k : κ) : ∀ kvs : List (κ × V), (kvs.any fun kv => decide (kv.1 = k)) = (valV kvs k).isSome
  | [] => rfl
  | p :: r => by
    rw [List.any_cons]
    by_cases e : p.1 = k
    · simp only [valV_pos e, decide_eq_true e, Bool.true_or, Option.isSome_some]
    · rw [valV_neg e, decide_eq_false e, Bool.false_or]; exact valV_any k r
theorem length_putK (kvs : List (κ × V)) (k : κ) (v : V) : (putK kvs k v).length ≤ kvs.length + 1 := by
  unfold putK
  split
  · rw [List.length_map]; omega
  · rw [List.length_append, List.length_cons, List.length_nil]; omega
theorem RelO.isSome_eq {o : Option V} {u : Option Value} (r : RelO o u) : o.isSome = u.isSome := by
  cases o with
  | none => cases u with
    | none => rfl
    | some _ => exact (show False from r).elim
  | some _ => cases u with
    | none => exact (show False from r).elim
    | some _ => rfl
theorem RelO.getD {o : Option V} {u : Option Value} {d : V} {d' : Value} (r : RelO o u) (rd : RelV d d') : RelV (o.getD d) (u.getD d') := by
  cases o with
  | none => cases u with
    | none => exact rd
    | some _ => exact (show False from r).elim
  | some _ => cases u with
    | none => exact (show False from r).elim
    | some _ => exact r

/-- raw tables of the same keys -/
theorem KV.val {kvs : List (κ × V)} {vs : List (κ × Value)} (r : KV kvs vs) (k : κ) : RelO (valV kvs k) (valueAt vs k) := by
  unfold KV at r
  induction r with
  | nil => exact True.intro
  | @cons p q ps qs h t ih =>
    obtain ⟨h1, h2⟩ := h
    by_cases e : p.1 = k
    · have e' : q.1 = k := h1.symm.trans e
      have b : valueAt (q :: qs) k = some q.2 := by simp [valueAt, List.find?_cons, e']
      rw [valV_pos e, b]; exact h2
    · have e' : ¬ q.1 = k := fun z => e (h1.trans z)
      have b : valueAt (q :: qs) k = valueAt qs k := by simp [valueAt, List.find?_cons, e']
      rw [valV_neg e, b]; exact ih
theorem KV.any {kvs : List (κ × V)} {vs : List (κ × Value)} (r : KV kvs vs) (k : κ) : (kvs.any fun kv => decide (kv.1 = k)) = vs.any fun kv => decide (kv.1 = k) := by
  unfold KV at r
  induction r with
  | nil => rfl
  | cons h t ih => rw [List.any_cons, List.any_cons, ih, h.1]
theorem KV.repl {kvs : List (κ × V)} {vs : List (κ × Value)} (r : KV kvs vs) (k : κ) {y : V} {u : Value} (ry : RelV y u) :
    KV (kvs.map fun kv => if kv.1 = k then (kv.1, y) else kv) (vs.map fun kv => if kv.1 = k then (kv.1, u) else kv) := by
  unfold KV at r ⊢
  induction r with
  | nil => exact .nil
  | @cons p q ps qs h t ih =>
    rw [List.map_cons, List.map_cons]
    refine .cons ?_ ih
    obtain ⟨h1, h2⟩ := h
    by_cases e : p.1 = k
    · rw [if_pos e, if_pos (h1.symm.trans e)]; exact ⟨h1, ry⟩
    · rw [if_neg e, if_neg (fun z => e (h1.trans z))]; exact ⟨h1, h2⟩
theorem KV.put {kvs : List (κ × V)} {vs : List (κ × Value)} (r : KV kvs vs) (k : κ) {y : V} {u : Value} (ry : RelV y u) : KV (putK kvs k y) (stored vs k u) := by
  unfold putK stored
  rw [r.any k]
  by_cases e : (vs.any fun kv => decide (kv.1 = k)) = true
  · rw [if_pos e, if_pos e]; exact r.repl k ry
  · rw [if_neg e, if_neg e]; exact Paired.snoc r ⟨rfl, ry⟩
theorem KV.keys {kvs : List (κ × V)} {vs : List (κ × Value)} (r : KV kvs vs) : kvs.map (·.1) = vs.map (·.1) := by
  unfold KV at r
  induction r with
  | nil => rfl
  | cons h t ih => rw [List.map_cons, List.map_cons, ih, h.1]
theorem KV.length {kvs : List (κ × V)} {vs : List (κ × Value)} (r : KV kvs vs) : kvs.length = vs.length := Paired.length r
end


/-! ### a tracked dict, its keys ints and texts or tuples of these -/
theorem kV_is {P : Program} {w : World} {k : Key} {u : Value} (r : RelV (kV k) u) : (mixKind P w).is k u = true := by
  cases k with
  | inl i => obtain ⟨t, e⟩ := (show ∃ t, u = Value.int i t from r); subst e; exact mixKind_int P w i t
  | inr x => obtain ⟨t, e⟩ := (show ∃ t, u = Value.str x t from r); subst e; exact mixKind_str P w x t
theorem items_are {P : Program} {w : World} : ∀ {ks : List Key} {us : List Value}, Vals (ks.map kV) us → ItemsAre (mixKind P w) ks us
  | [], _, r => by rw [List.map_nil] at r; cases r; exact .nil
  | k :: ks, _, r => by
    rw [List.map_cons] at r
    cases r with
    | cons h t => exact .cons (kV_is h) (items_are t)

/-- raw entries of a dict with tuple keys -/
abbrev KT (H : Hp) : List (List Key × V) → List (List Key × Addr × Value) → Prop := Paired fun p q => p.1 = q.1 ∧ H q.2.1 = some (.tup (p.1.map kV)) ∧ RelV p.2 q.2.2
theorem KT.val {H : Hp} {kvs : List (List Key × V)} {xs : List (List Key × Addr × Value)} (r : KT H kvs xs) (k : List Key) : RelO (valV kvs k) ((atKey xs k).map (·.2)) := by
  induction r with
  | nil => exact True.intro
  | @cons p q ps qs h t ih =>
    obtain ⟨h1, _, h2⟩ := h
    by_cases e : p.1 = k
    · have e' : q.1 = k := h1.symm.trans e
      have b : atKey (q :: qs) k = some q.2 := by simp [atKey, List.find?_cons, e']
      rw [valV_pos e, b]; exact h2
    · have e' : ¬ q.1 = k := fun z => e (h1.trans z)
      have b : atKey (q :: qs) k = atKey qs k := by simp [atKey, List.find?_cons, e']
      rw [valV_neg e, b]; exact ih
theorem KT.repl {H : Hp} {kvs : List (List Key × V)} {xs : List (List Key × Addr × Value)} (r : KT H kvs xs) (k : List Key) {y : V} {u : Value} (ry : RelV y u) :
    KT H (kvs.map fun kv => if kv.1 = k then (kv.1, y) else kv) (xs.map (putAt k u)) := by
  induction r with
  | nil => exact .nil
  | @cons p q ps qs h t ih =>
    rw [List.map_cons, List.map_cons]
    refine .cons ?_ ih
    obtain ⟨h1, h2, h3⟩ := h
    unfold putAt
    by_cases e : p.1 = k
    · rw [if_pos e, if_pos (h1.symm.trans e)]; exact ⟨h1, h2, ry⟩
    · rw [if_neg e, if_neg (fun z => e (h1.trans z))]; exact ⟨h1, h2, h3⟩
theorem KT.put {H : Hp} {kvs : List (List Key × V)} {xs : List (List Key × Addr × Value)} (r : KT H kvs xs) (k : List Key) {b : Addr} {y : V} {u : Value} (hb : H b = some (.tup (k.map kV))) (ry : RelV y u) :
    KT H (putK kvs k y) (storedH xs k b u) := by
  have e : (kvs.any fun kv => decide (kv.1 = k)) = (atKey xs k).isSome := by
    rw [valV_any, (r.val k).isSome_eq, Option.isSome_map]
  unfold putK storedH
  rw [e]
  by_cases q : (atKey xs k).isSome = true
  · rw [if_pos q, if_pos q]; exact r.repl k ry
  · rw [if_neg q, if_neg q]; exact Paired.snoc r ⟨rfl, hb, ry⟩
theorem KT.keeps {H H' : Hp} {kvs : List (List Key × V)} {xs : List (List Key × Addr × Value)} (r : KT H kvs xs) (ht : ∀ b ys, H b = some (.tup ys) → H' b = some (.tup ys)) : KT H' kvs xs :=
  Paired.mapP r fun _ _ z => ⟨z.1, ht _ _ z.2.1, z.2.2⟩

section
variable {P : Program} {w : World} {H : Hp} {h : Heap} {a : Addr}
theorem rd_of {u : HO} (ok : HOk P w H h) (e : Rd H a u) : ObjOk P w H h a u := e.ok ok
theorem dk_rd {kvs : List (Key × V)} (ok : HOk P w H h) (e : Rd H a (.dK kvs)) : kvs.length ≤ sizeLine ∧ (a == sysModules) = false ∧ ∃ vs, KV kvs vs ∧ h.DictOf (mixKind P w) a vs :=
  show ObjOk P w H h a (.dK kvs) from rd_of ok e
theorem dk_of {kvs : List (Key × V)} (ok : HOk P w H h) (e : H a = some (.dK kvs)) : kvs.length ≤ sizeLine ∧ (a == sysModules) = false ∧ ∃ vs, KV kvs vs ∧ h.DictOf (mixKind P w) a vs := dk_rd ok (.inl e)
/-- a tracked tuple of ints and texts is a key -/
theorem key_of {ks : List Key} (ok : HOk P w H h) (e : H a = some (.tup (ks.map kV))) : (tupleKind (mixKind P w)).is h ks a := by
  obtain ⟨_, its, r, o, h1, h2, n, h3⟩ := (show ObjOk P w H h a (.tup (ks.map kV)) from ok a _ e)
  exact ⟨o, its.toArray, n, h1, h2, h3, by simpa using items_are r⟩
theorem dt_rd {kvs : List (List Key × V)} (ok : HOk P w H h) (e : Rd H a (.dT kvs)) : kvs.length ≤ sizeLine ∧ (a == sysModules) = false ∧
    ∃ xs, KT H kvs xs ∧ h.DictOfH (tupleKind (mixKind P w)) a xs := by
  obtain ⟨z, y, xs, r, o, es, ep, h1, h2, h3, h4, h5⟩ := (show ObjOk P w H h a (.dT kvs) from rd_of ok e)
  refine ⟨z, y, xs, r, o, es, ep, h1, h2, h3, h4, fun x hx => ?_, h5⟩
  have all : ∀ {l : List (List Key × V)} {m : List (List Key × Addr × Value)}, KT H l m → ∀ x ∈ m, (tupleKind (mixKind P w)).is h x.1 x.2.1 := by
    intro l m q
    induction q with
    | nil => intro x hx; exact nomatch hx
    | @cons p q ps qs hq t ih =>
      intro x hx
      rcases List.mem_cons.mp hx with e | hx
      · subst e
        exact key_of ok (by rw [← hq.1]; exact hq.2.1)
      · exact ih x hx
  exact all r x hx
theorem dt_of {kvs : List (List Key × V)} (ok : HOk P w H h) (e : H a = some (.dT kvs)) : kvs.length ≤ sizeLine ∧ (a == sysModules) = false ∧
    ∃ xs, KT H kvs xs ∧ h.DictOfH (tupleKind (mixKind P w)) a xs := dt_rd ok (.inl e)
end

/-- what the dict at a holds at the key y -/
def DGet (H : Hp) (a : Addr) (y : V) (r : Option V) : Prop :=
  (∃ kvs k, Rd H a (.dK kvs) ∧ y = kV k ∧ r = valV kvs k) ∨ ∃ kvs k b, Rd H a (.dT kvs) ∧ y = .ref b ∧ H b = some (.tup (k.map kV)) ∧ r = valV kvs k
/-- the heap behind a[y] = v -/
def DPut (H : Hp) (a : Addr) (y v : V) (H' : Hp) : Prop :=
  (∃ kvs k, H a = some (.dK kvs) ∧ y = kV k ∧ kvs.length < sizeLine ∧ H' = upd H a (.dK (putK kvs k v))) ∨
  ∃ kvs k b, H a = some (.dT kvs) ∧ y = .ref b ∧ H b = some (.tup (k.map kV)) ∧ kvs.length < sizeLine ∧ H' = upd H a (.dT (putK kvs k v))
theorem DGet.k {H : Hp} {a : Addr} {kvs : List (Key × V)} {k : Key} (e : H a = some (.dK kvs)) : DGet H a (kV k) (valV kvs k) := .inl ⟨kvs, k, .inl e, rfl, rfl⟩
theorem DGet.t {H : Hp} {a b : Addr} {kvs : List (List Key × V)} {k : List Key} (e : H a = some (.dT kvs)) (eb : H b = some (.tup (k.map kV))) : DGet H a (.ref b) (valV kvs k) := .inr ⟨kvs, k, b, .inl e, rfl, eb, rfl⟩
theorem DPut.k {H : Hp} {a : Addr} {kvs : List (Key × V)} {k : Key} {v : V} (e : H a = some (.dK kvs)) (hl : kvs.length < sizeLine) : DPut H a (kV k) v (upd H a (.dK (putK kvs k v))) := .inl ⟨kvs, k, e, rfl, hl, rfl⟩
theorem DPut.t {H : Hp} {a b : Addr} {kvs : List (List Key × V)} {k : List Key} {v : V} (e : H a = some (.dT kvs)) (eb : H b = some (.tup (k.map kV))) (hl : kvs.length < sizeLine) :
    DPut H a (.ref b) v (upd H a (.dT (putK kvs k v))) := .inr ⟨kvs, k, b, e, rfl, eb, hl, rfl⟩


section
variable {X : Cx} {pins : List (Addr × Obj)} {σ : St} {H : Hp} {s : Shared} {a : Addr} {y v : V} {u r : Value} {o : Option V} {A : Around} {E : Value → Shared → Prop}

theorem Inv.big (I : Inv X pins σ H s) : sysModules < s.heap.objs.size := by
  have h : mainGlobals < s.heap.objs.size := (I.mod.glob.keeps I.bk).lt
  exact Nat.lt_trans (by decide) h

/-- a dict's object is replaced -/
theorem d_write {h' : Heap} {t' : Nat} {ob : HO} (I : Inv X pins σ H s) (mu : Mut (H a)) (hs : Heap.SameBut a s.heap h') (he : ∃ q, h'.get? a = some q) (new : ObjOk X.prog X.w (upd H a ob) h' a ob) :
    Inv X pins σ (upd H a ob) { s with heap := h', toks := t' } :=
  I.write (x := a) (e := a) mu (.inl rfl) (fun b q hb z => (hs.2 b hb).trans z) he new
theorem dk_new {P : Program} {w : World} {H' : Hp} {h' : Heap} {kvs : List (Key × V)} {vs : List (Key × Value)} (z : kvs.length ≤ sizeLine) (hd : (a == sysModules) = false) (rel : KV kvs vs) (dd : h'.DictOf (mixKind P w) a vs) :
    ObjOk P w H' h' a (.dK kvs) := ⟨z, hd, vs, rel, dd⟩
/-- d[y] = v -/
theorem d_setItem {H' : Hp} {Q : Unit → Shared → Prop} (hu : A.units + 1 < cLine) (I : Inv X pins σ H s) (g : DPut H a y v H') (ry : RelV y u) (rv : RelV v r) (h : ∀ s', Inv X pins σ H' s' → Q () s') :
    wpAny (model X.prog X.w) A (setItem (.ref a) u r) Q E s := by
  rcases g with ⟨kvs, k, e, ey, l, eH⟩ | ⟨kvs, k, b, e, ey, eb, l, eH⟩
  · subst ey eH
    obtain ⟨z, hd, vs, rel, dd⟩ := dk_of I.hok e
    have hz : vs.length ≤ sizeLine := by rw [← rel.length]; exact z
    have hl : (putK kvs k v).length ≤ sizeLine := by have := length_putK kvs k v; omega
    refine wpAny_setItem_pairs (hsz := hz) (kV_is ry) dd fun h' dd' hs => h _ ?_
    have he : ∃ q, h'.get? a = some q := let ⟨q, _, _, hq, _⟩ := dd'; ⟨q, hq⟩
    exact d_write I (by rw [e]; exact True.intro) hs he (dk_new hl hd (rel.put k rv) dd')
  · subst ey eH
    cases (show u = Value.ref b from ry)
    obtain ⟨z, hd, xs, rel, dd⟩ := dt_of I.hok e
    have hz : xs.length ≤ sizeLine := by rw [← Paired.length rel]; exact z
    have hl : (putK kvs k v).length ≤ sizeLine := by have := length_putK kvs k v; omega
    refine wpAny_setItem_heap (hsz := hz) (tupleKind_room_in1 hu) (key_of I.hok eb) dd fun h' dd' hs => h _ ?_
    obtain ⟨q, es, ep, hq, h2, h3, h4, _, h5⟩ := dd'
    refine d_write I (by rw [e]; exact True.intro) hs ⟨q, hq⟩ ⟨hl, hd, _, (rel.put k eb rv).keeps fun c ys ec => ?_, q, es, ep, hq, h2, h3, h4, h5⟩
    rw [upd_ne (ne_of ec e (fun z => nomatch z))]
    exact ec
end

section
variable {X : Cx} {pins : List (Addr × Obj)} {σ : St} {H : Hp} {s : Shared} {a : Addr} {kvs : List (Key × V)} {k : Key} {u : Value} {A : Around} {E : Value → Shared → Prop}
end


/-! ### readings and rules -/
/-- d[y] = v -/
def sDPut (td ty tv : TE) : TS := fun D σ H => tv σ H fun v H1 => td σ H1 fun x H2 => ty σ H2 fun y H3 => ∃ a H4, x = .ref a ∧ DPut H3 a y v H4 ∧ D.nx σ H4
section
variable {X : Cx} {o i e value : Expr} {pos pos' tpos : Pos} {td ty tv : TE}
theorem ps_dput (hu : X.A.units + 1 < cLine) (ho : PE X o td) (hi : PE X i ty) (hv : PE X value tv) (hs : swapsWith value (some (.Subscript o i pos')) pos.line X.env = pure false) :
    PS X (.Assign [.Subscript o i pos'] value pos) (sDPut td ty tv) := by
  intro pins s σ H D I h
  refine wpAny_Assign_Subscript (thn (hv pins s σ H _ I h) fun r s1 ⟨v, H1, I1, rv, q1⟩ => thn (ho pins s1 σ H1 _ I1 q1) fun u s2 ⟨x, H2, I2, rx, q2⟩ => thn (hi pins s2 σ H2 _ I2 q2) fun iv s3 ⟨y, H3, I3, ry, a, H4, ex, g, q3⟩ => ?_) hs
  subst ex
  obtain rfl : u = Value.ref a := rx
  exact d_setItem hu I3 g ry rv fun s4 I4 => ⟨σ, H4, I4, q3⟩
end


/-! ### displays -/
theorem dk_empty {P : Program} {w : World} {H : Hp} (h : Heap) (hb : sysModules < h.objs.size) : ObjOk P w H (h.push { cls := .type "dict", data := .dict #[] }) h.objs.size (.dK []) :=
  ⟨Nat.zero_le _, beq_eq_false_iff_ne.mpr (Ne.symm (Nat.ne_of_lt hb)), [], .nil, Heap.DictOf.new h⟩
/-- {}, to be a dict of the kind that is wanted -/
def tDNewK : TE := fun _ H Q => ∀ p, H p = none → Q (.ref p) (upd H p (.dK []))
section
variable {X : Cx} {pos : Pos}
theorem pe_dnewK : PE X (.Dict [] [] pos) tDNewK := fun pins s σ H Q I h =>
  wpAny_Dict_empty ⟨.ref s.heap.objs.size, _, I.laid (a := s.heap.objs.size) (o := .dK []) (t' := s.toks) (fun _ _ q => Heap.get?_push_of_some _ q) (Nat.le_refl _) (dk_empty s.heap I.big), rfl, h _ (I.hok.fresh (Nat.le_refl _))⟩
end
end L2

namespace L2
open PySem PySem.Spec PyProof.Rows
/-! ### a dict's keys one by one, whatever they are -/
def RawD (h : Heap) (d : Addr) (es : Array DictEntry) (ep : Nat) : Prop := ∃ o, h.get? d = some o ∧ o.ExactDict ∧ o.data = .dict es ep
theorem RawD.typeIs {s : Shared} {d : Addr} {es : Array DictEntry} {ep : Nat} (h : RawD s.heap d es ep) : s.TypeIs (.ref d) "dict" := let ⟨o, e, hx, _⟩ := h; ⟨o, e, hx.1⟩
theorem RawD.at {h h' : Heap} {d : Addr} {es : Array DictEntry} {ep : Nat} (x : RawD h d es ep) (k : ∀ o, h.get? d = some o → h'.get? d = some o) : RawD h' d es ep := let ⟨o, e, r⟩ := x; ⟨o, k _ e, r⟩
section
variable {prog : Program} {w : World} {A : Around} {E : Value → Shared → Prop} {s : Shared} {d it : Addr} {es : Array DictEntry} {ep i : Nat}
theorem rawD_iter {Q : Value → Shared → Prop} (hd : (d == sysModules) = false) (hm : RawD s.heap d es ep)
    (hQ : Q (.ref s.heap.objs.size) { s with heap := s.heap.push { cls := .type "dict_keyiterator", data := .fields #[.ref d, .int 0 0, .int es.size 0, .int ep 0] } }) :
    wpAny (model prog w) A (pyIter (.ref d)) Q E s := by
  obtain ⟨o, ho, hc, hdat⟩ := id hm
  have hT := hm.typeIs
  refine wpAny_pyIter_slot hT PySem.F.slot_dict_iter (wpAny_call_entry PySem.F.slot_dict_iter hT PySem.F.entry_dict_iter ?_ (PySem.F.args_dict_iter_1 _))
  unfold Builtin.«dict.__iter__»
  refine wpAny_bind ?_
  unfold Builtin.Dict.dictSlotNone
  refine wpAny_bind (wpAny_notOrdered_dict hT ?_)
  show wpAny _ _ (pure (Value.ref d)) _ _ s
  refine wpAny_pure ?_
  show wpAny _ _ (Builtin.Dict.showsAll d >>= _) _ _ s
  unfold Builtin.Dict.showsAll
  rw [if_neg (by rw [hd]; exact Bool.false_ne_true)]
  refine wpAny_bind (wpAny_pure (wpAny_bind (wpAny_dictEntries ho hdat (wpAny_bind (wpAny_dictEpoch ho hdat ?_)))))
  refine wpAny_bind (wpAny_newObj_type (wpAny_pure ⟨_, rfl, "dict_keyiterator", _, ⟨_, Heap.get?_push_size _ rfl, rfl⟩, PySem.F.slot_dict_keyiterator_next.lookup, ?_⟩))
  simpa [rawInt] using hQ
theorem rawD_item {Q : Option Value → Shared → Prop} (hit : s.heap.IsKeyIter it d i es.size ep) (hm : RawD s.heap d es ep) (hlt : i < es.size)
    (hQ : ∀ h', h'.IsKeyIter it d (i + 1) es.size ep → Heap.SameBut it s.heap h' → Q (some es[i].key) { s with heap := h' }) :
    wpAny (model prog w) A (pyNext (.ref it)) Q E s := by
  obtain ⟨o, ho, hc, hd⟩ := id hit
  obtain ⟨od, hod, hcd, hdd⟩ := id hm
  unfold pyNext
  refine wpAny_bind (wpAny_attempt (wpAny_callSpecial?_slot (name := Str.ofString "__next__") hit.typeIs PySem.F.slot_dict_keyiterator_next
    (wpAny_call_entry PySem.F.slot_dict_keyiterator_next hit.typeIs PySem.F.entry_dict_keyiterator_next ?_ (PySem.F.args_dict_keyiterator_next_1 _))))
  refine wpAny_bind (wpAny_pure (wpAny_bind (wpAny_bind ?_)))
  first | refine wpAny_bind (wpAny_typeNameOfWhole_keyiter hit.typeIs (wpAny_pure ?_)) | refine wpAny_bind (wpAny_typeNameOf_keyiter hit.typeIs (wpAny_pure ?_))
  refine wpAny_bind (wpAny_fieldsOf ho hd ?_)
  have hown : Builtin.Dict_items.ownsTuple "dict_keyiterator" = false := by decide
  simp only [hown, Bool.false_eq_true, if_false]
  show wpAny _ _ (if (Value.ref d == Value.none) = true then _ else _) _ _ s
  rw [if_neg (show ¬ ((Value.ref d == Value.none) = true) from Bool.false_ne_true)]
  refine wpAny_bind (wpAny_pure (wpAny_bind (wpAny_dictEntries hod hdd ?_)))
  rw [if_neg (by simp)]
  refine wpAny_bind (wpAny_pure (wpAny_bind (wpAny_dictEpoch hod hdd ?_)))
  rw [if_neg (by simp)]
  refine wpAny_pure ?_
  simp only [show ¬ ((i : Int) < 0) from by omega, if_false, Int.toNat_natCast, Array.getElem?_eq_getElem hlt]
  refine wpAny_bind ?_
  first | refine wpAny_bind (wpAny_typeNameOfWhole_keyiter hit.typeIs (wpAny_pure ?_)) | refine wpAny_bind (wpAny_typeNameOf_keyiter hit.typeIs (wpAny_pure ?_))
  refine wpAny_bind (wpAny_isOneOf_keyiter hit.typeIs ?_)
  show wpAny _ _ (setField (.ref it) 1 (rawInt ((i : Int) + 1)) >>= _) _ _ s
  refine wpAny_bind (wpAny_setField ho hd (by simp) ?_)
  have hit' : (s.heap.update it (Obj.mapFields (·.setIfInBounds 1 (rawInt ((i : Int) + 1))))).IsKeyIter it d (i + 1) es.size ep :=
    ⟨_, Heap.get?_update_self _ ho (Obj.isFreed_of_fields (Obj.data_mapFields hd _)), (Obj.cls_mapFields ..).trans hc, by rw [Obj.data_mapFields hd]; simp [rawInt]⟩
  refine wpAny_bind (wpAny_holding ?_)
  refine wpAny_bind (wpAny_isOneOf_keyiter (s := { s with heap := s.heap.update it (Obj.mapFields (·.setIfInBounds 1 (rawInt ((i : Int) + 1)))) }) hit'.typeIs ?_)
  show wpAny _ _ (pure es[i].key) _ _ _
  exact wpAny_pure (wpAny_pure ⟨_, rfl, wpAny_pure (hQ _ hit' (Heap.SameBut.update ..))⟩)
theorem rawD_end {Q : Option Value → Shared → Prop} (hh : A.handled = none) (hit : s.heap.IsKeyIter it d i es.size ep) (hm : RawD s.heap d es ep) (hge : es.size ≤ i)
    (hQ : ∀ h', Heap.ExtBut it s.heap h' → Q none { s with heap := h' }) : wpAny (model prog w) A (pyNext (.ref it)) Q E s := by
  obtain ⟨o, ho, hc, hd⟩ := id hit
  obtain ⟨od, hod, hcd, hdd⟩ := id hm
  unfold pyNext
  refine wpAny_bind (wpAny_attempt (wpAny_callSpecial?_slot (name := Str.ofString "__next__") hit.typeIs PySem.F.slot_dict_keyiterator_next
    (wpAny_call_entry PySem.F.slot_dict_keyiterator_next hit.typeIs PySem.F.entry_dict_keyiterator_next ?_ (PySem.F.args_dict_keyiterator_next_1 _))))
  refine wpAny_bind (wpAny_pure (wpAny_bind (wpAny_bind ?_)))
  first | refine wpAny_bind (wpAny_typeNameOfWhole_keyiter hit.typeIs (wpAny_pure ?_)) | refine wpAny_bind (wpAny_typeNameOf_keyiter hit.typeIs (wpAny_pure ?_))
  refine wpAny_bind (wpAny_fieldsOf ho hd ?_)
  have hown : Builtin.Dict_items.ownsTuple "dict_keyiterator" = false := by decide
  simp only [hown, Bool.false_eq_true, if_false]
  show wpAny _ _ (if (Value.ref d == Value.none) = true then _ else _) _ _ s
  rw [if_neg (show ¬ ((Value.ref d == Value.none) = true) from Bool.false_ne_true)]
  refine wpAny_bind (wpAny_pure (wpAny_bind (wpAny_dictEntries hod hdd ?_)))
  rw [if_neg (by simp)]
  refine wpAny_bind (wpAny_pure (wpAny_bind (wpAny_dictEpoch hod hdd ?_)))
  rw [if_neg (by simp)]
  refine wpAny_pure ?_
  simp only [show ¬ ((i : Int) < 0) from by omega, if_false, Int.toNat_natCast, Array.getElem?_eq_none hge]
  refine wpAny_bind ?_
  first | refine wpAny_bind (wpAny_typeNameOfWhole_keyiter hit.typeIs (wpAny_pure ?_)) | refine wpAny_bind (wpAny_typeNameOf_keyiter hit.typeIs (wpAny_pure ?_))
  show wpAny _ _ (setField (.ref it) 0 .none >>= _) _ _ s
  refine wpAny_bind (wpAny_setField ho hd (by simp) ?_)
  show wpAny _ _ (newExc (.type "StopIteration") [] >>= _) _ _ _
  refine wpAny_bind ?_
  simp only [newExc, newTuple]
  refine wpAny_bind (wpAny_newObj_type ?_ (by size_fits))
  refine wpAny_bind (m := firstArgMember _ _) (wpAny_of_eq (a := Value.none) (by first | rfl | (simp only [firstArgMember]; rfl)) ?_)
  refine wpAny_newObj_type ?_ (by size_fits)
  simp only [raiseNew]
  refine wpAny_bind (wpAny_handled ?_)
  rw [show A.in1.handled = none from hh]
  refine wpAny_bind (wpAny_pure (wpAny_throw ?_))
  refine wpAny_bind (wpAny_isInstance (T := "StopIteration") (b := true) ⟨_, Heap.get?_push_size _ rfl, rfl⟩ isSubtype_stop ?_)
  exact wpAny_pure (hQ _ (((Heap.SameBut.update ..).extBut.push _).push _))
end
theorem rawD_src {prog : Program} {w : World} {d : Addr} {es : Array DictEntry} {ep : Nat} (hd : (d == sysModules) = false) :
    PySem.W.KdlSrc prog w "dict" d d es.size (fun i v => ∃ e, es[i]? = some e ∧ v = e.key) (fun h => RawD h d es ep) where
  type := fun s h => h.typeIs
  there := fun h ⟨o, e, _⟩ => ⟨Heap.lt_size e, Heap.lt_size e⟩
  keep := fun h h' x k => x.at fun o e => k d (.inl rfl) o e
  notList := by decide
  notTuple := by decide
  hint := fun A E s Q h q => PySem.W.kdl_hint_dict h.typeIs q
  iter := fun A s hh hm => by
    have hne : d ≠ s.heap.objs.size := by obtain ⟨o, e, _⟩ := hm; exact Nat.ne_of_lt (Heap.lt_size e)
    refine ⟨_, fun i h => h.IsKeyIter s.heap.objs.size d i es.size ep ∧ RawD h d es ep, fun E Q q => rawD_iter hd hm q, ?_, ⟨_, Heap.get?_push_size _ rfl, rfl, rfl⟩, hm.at fun o e => Heap.get?_push_of_some _ e⟩
    refine { sub := fun b hb => ?_, frame := ?_, item := ?_, done := ?_, self := ?_ }
    · simp at hb; simp [hb]
    · exact fun _ _ _ st hk => ⟨st.1.at fun o e => hk _ (by simp) o e, st.2.at fun o e => hk d (by simp) o e⟩
    · intro i s1 Q E hi st hQ
      refine rawD_item st.1 st.2 hi fun h' hit' hs' => ?_
      exact hQ _ h' s1.toks ⟨_, by simp [hi], rfl⟩ ⟨hit', st.2.at fun o e => hs'.extBut d o hne e⟩ fun b o hb e => hs'.extBut b o (fun h => hb (by simp [h])) e
    · intro s1 Q E st hQ
      exact rawD_end hh st.1 st.2 (Nat.le_refl _) fun h' he' => hQ h' s1.toks fun b o hb e => he' b o (fun h => hb (by simp [h])) e
    · exact fun _ _ _ _ st hQ => wpAny_pyIter_keyiter st.1 hQ
end L2

namespace L2
open PySem PySem.Spec PyProof.Rows
/-! ### the sort of what is in order already -/
section
variable {prog : Program} {w : World} {A : Around} {E : Value → Shared → Prop} {κ : SortKind} {it : Array Keyed}
end
section
variable {prog : Program} {w : World} {A : Around} {E : Value → Shared → Prop} {s : Shared} {a : Addr} {vs : List Value}
theorem pairs_snd (vs : List Value) : (pairsOf vs).map (·.2) = vs.toArray := by
  apply Array.toList_inj.mp
  rw [Array.toList_map, pairsOf_toList]
  simp [List.map_snd_zip]
end
end L2

namespace L2
open PySem PySem.Spec PyProof.Rows
/-! ### sorted(d): a dict whose keys are pairs of ints, in order -/
theorem Paired.at' {α β : Type} {F : α → β → Prop} : ∀ {l : List α} {m : List β} {i : Nat} {x : α}, Paired F l m → l[i]? = some x → ∃ y, m[i]? = some y ∧ F x y
  | _, _, _, _, .nil, e => by simp at e
  | _, _, 0, _, .cons r _, e => by simp at e; subst e; exact ⟨_, rfl, r⟩
  | _, _, i + 1, x, .cons _ t, e => by simp at e; obtain ⟨y, h1, h2⟩ := Paired.at' t e; exact ⟨y, by simpa using h1, h2⟩
end L2

namespace L2
open PySem PySem.Spec PyProof.Rows
/-! ### d != {}, d == {} -/
section
variable {prog : Program} {w : World} {A : Around} {E : Value → Shared → Prop} {s : Shared} {a b : Addr} {es : Array DictEntry} {ep ep' : Nat}
end
end L2

namespace L2
open PySem PySem.Spec PyProof.Rows
/-! ### t < u, tuples whose items are compared one by one -/
section
open PySem.SeqAt
open PySem.AutoSeq1 (wpAny_loadPart')
open PySem.MeetsSeq PySem.MeetsSeq2 PySem.MeetsSeq3
end
end L2

namespace L2
open PySem PySem.Spec PyProof.Rows
theorem isTup_inj {h : Heap} {a : Addr} {xs ys : Array Value} (hx : IsTup h a xs) (hy : IsTup h a ys) : xs = ys := by
  obtain ⟨o, e1, _, n, d1⟩ := hx
  obtain ⟨o', e2, _, m, d2⟩ := hy
  rw [e1] at e2
  cases e2
  rw [d1] at d2
  cases d2
  rfl
theorem int_of {x : Int} {u : Value} (r : RelV (.int x) u) : ∃ t, u = .int x t := r
end L2

namespace L2
open PySem PySem.Spec PyProof.Rows
/-! ### for v in d.values() -/
section
variable {prog : Program} {w : World} {A : Around} {E : Value → Shared → Prop} {s : Shared} {d it vw : Addr} {es : Array DictEntry} {ep i : Nat}
end
end L2

namespace L2
open PySem PySem.Spec PyProof.Rows
/-! ### the same of a dict that may be frozen -/
end L2

namespace L2
open PySem PySem.Spec PyProof.Rows
section
variable {X : Cx} {a b c d : Expr} {ta tb tc td : TE} {pos : Pos}
end
/-! ### sorted(xs), fewer than 64 ints -/
end L2

namespace HT
open PySem PyProof.Rows
section
variable {prog : Program} {w : World} {A : Around} {E : Value → Shared → Prop} {s : Shared}
end
end HT
namespace L2
open PySem PySem.Spec PyProof.Rows
section
variable {X : Cx} {K : PySem.W.Frag} {e st : Expr} {te ts : TE} {p2 pos : Pos}
end
end L2

namespace L2
open PySem PySem.Spec PyProof.Rows
end L2

namespace L2
open PySem PySem.Spec PyProof.Rows
/-! ### t > u, tuples whose items are compared one by one -/
section
open PySem.SeqAt
open PySem.AutoSeq1 (wpAny_loadPart')
open PySem.MeetsSeq PySem.MeetsSeq2 PySem.MeetsSeq3
end
end L2

namespace L2
open PySem PySem.Spec PyProof.Rows
end L2

namespace L2
open PySem PySem.Spec PyProof.Rows
/-! ### lo, lo + st, lo + 2 st, .. (n of them) -/
section
variable {X : Cx} {tg : Expr}
/-! ### reversed(list) -/
/-! ### reversed(range(n)) -/
/-! ### {k: v} -/
end
end L2

namespace L2
open PySem PySem.Spec PyProof.Rows
section
variable {X : Cx} {K : PySem.W.Frag}
/-! ### a list of ints, by places -/
end
end L2

namespace L2
open PySem PySem.Spec PyProof.Rows
/-! ### min, max of a list of ints -/
section
variable {X : Cx} {K : PySem.W.Frag}
end
end L2

namespace L2
open PySem PySem.Spec PyProof.Rows
/-! ### a call of what a name holds -/
end L2

namespace L2
open PySem PySem.Spec PyProof.Rows
section
variable {X : Cx} {K : PySem.W.Frag}
/-- t[lo:hi] of a tracked tuple is a tracked one -/
def rSlTB : V → Option Int → Option Int → Hp → VK → Prop := fun x lo hi H Q => ∃ a xs, x = .ref a ∧ H a = some (.tup xs) ∧ ∀ q H', Same H H' → H' q = some (.tup (cutV xs lo hi)) → Q (.ref q) H'
theorem slTB : SlR X rSlTB := by
  intro pins s σ H x v vl vu lo hi sl Q I rx hs pl pu h
  obtain ⟨a, xs, rfl, hx, q1⟩ := h
  by_cases hw : HT.sIx xs.length 0 lo = 0 ∧ HT.sIx xs.length xs.length hi = xs.length
  · cases rx
    obtain ⟨its, r, ht, hz⟩ := I.tuple (SqT.of hx)
    have hlen : its.toArray.size = xs.length := by rw [List.size_toArray]; exact r.length.symm
    refine ⟨"tuple", _, PyProof.Rows.slot_tuple_getitem.lookup, ht.typeIs, HT.getItem_tuple_all ht hs pl pu (by rw [hlen]; exact hw) ⟨.ref a, H, I, rfl, q1 a H (Same.refl H) ?_⟩⟩
    have e : cutV xs lo hi = xs := by
      unfold cutV
      rw [hw.1, hw.2]; simp
    rw [e]; exact hx
  · exact sl_tup pins s σ H (.ref a) v vl vu lo hi sl Q I rx hs pl pu ⟨a, xs, rfl, SqT.of hx, hw, fun p hp => q1 p _ (fun b o e => by rw [upd_ne (ne_of_none e hp)]; exact e) upd_same⟩
/-- t + u of tracked tuples -/
def rCatB : R2 := fun x y H Q => ∃ a b xs ys, x = .ref a ∧ y = .ref b ∧ H a = some (.tup xs) ∧ H b = some (.tup ys) ∧ xs.length + ys.length ≤ sizeLine ∧ ∀ q H', Same H H' → H' q = some (.tup (xs ++ ys)) → Q (.ref q) H'
theorem oCatB : OpR X (binaryOp .Add) rCatB := by
  intro pins s σ H x y v u Q I rx ry h
  obtain ⟨a, b, xs, ys, rfl, rfl, ha, hb, hz, q⟩ := h
  by_cases hx : xs = []
  · subst hx
    cases rx
    cases ry
    obtain ⟨its, r1, p1, _⟩ := I.tuple (SqT.of ha)
    obtain ⟨its2, r2, p2, _⟩ := I.tuple (SqT.of hb)
    cases r1
    obtain ⟨⟨cls, dd, data, sl⟩, ho, hc, n, hd⟩ := id p1
    obtain ⟨⟨cls2, dd2, data2, sl2⟩, ho2, hc2, n2, hd2⟩ := id p2
    simp only at hc hd hc2 hd2
    subst hc hd hc2 hd2
    exact concat_meets ⟨_, ho, rfl⟩ ⟨_, ho2, rfl⟩ noFill_tuple_add seq_tuple_add PySem.F.slot_tuple_add PySem.F.entry_tuple_add (PySem.F.args_tuple_add_2 _ _)
      (tuple_addW0 a b _ _ n n2 dd dd2 sl sl2 rfl) ⟨ho, ho2, ⟨.ref b, H, I, rfl, q b H (Same.refl _) hb⟩⟩
  · exact op_catT pins s σ H (.ref a) (.ref b) v u Q I rx ry ⟨a, b, xs, ys, rfl, rfl, SqT.of ha, SqT.of hb, hx, hz, fun e => by subst e; exact q a H (Same.refl _) (by rw [List.append_nil]; exact ha), fun _ p hp => q p _ (Same.lay hp) upd_same⟩
/-- the truth of a tracked tuple -/
theorem pt_tup {a : Expr} {ta : TE} (ha : PE X a ta) (he : ∀ whole, isTrue a X.env whole = (do let v ← whole; standAt a.pos; holding [v] (truthy v)) := by intro _; rfl) :
    PT X a (fun σ H Q => ta σ H fun x H' => ∃ p xs, x = .ref p ∧ H' p = some (.tup xs) ∧ Q (!xs.isEmpty) H') := by
  intro pins s σ H Q I h
  refine isTrue_plain (thn (ha pins s σ H _ I h) fun v s1 ⟨x, H1, I1, r1, p, xs, e1, e2, q1⟩ => ?_) (he _)
  subst e1
  exact tru_ok pins s1 σ H1 (.ref p) v Q I1 r1 ⟨_, .inr (.inl ⟨xs, SqT.of e2, rfl⟩), q1⟩
/-- cutting: from the begin, from a place, all but the last -/
theorem cut_to {α : Type} (xs : List α) (k : Nat) (h : k ≤ xs.length) : cutL xs none (some (k : Int)) = xs.take k := by
  unfold cutL
  have e1 : HT.sIx xs.length 0 none = 0 := rfl
  have e2 : HT.sIx xs.length xs.length (some (k : Int)) = k := by
    unfold HT.sIx
    simp only
    split <;> omega
  rw [e1, e2, List.drop_zero, Nat.sub_zero]
theorem cut_from {α : Type} (xs : List α) (k : Nat) (h : k ≤ xs.length) : cutL xs (some (k : Int)) none = xs.drop k := by
  unfold cutL
  have e2 : HT.sIx xs.length 0 (some (k : Int)) = k := by
    unfold HT.sIx
    simp only
    split <;> omega
  have e1 : HT.sIx xs.length xs.length none = xs.length := rfl
  rw [e1, e2, List.take_of_length_le (by rw [List.length_drop]; omega)]
theorem cut_last {α : Type} (xs : List α) (h : 0 < xs.length) : cutL xs none (some (-1)) = xs.dropLast := by
  unfold cutL
  have e1 : HT.sIx xs.length 0 none = 0 := rfl
  have e2 : HT.sIx xs.length xs.length (some (-1)) = xs.length - 1 := by
    unfold HT.sIx
    simp only
    split <;> omega
  rw [e1, e2, List.drop_zero, Nat.sub_zero, List.dropLast_eq_take]
end
end L2

namespace L2
open PySem PySem.Spec PyProof.Rows
/-! ### == and != of what is nested: tuples, lists, None, to a depth -/
def EqD (K : PySem.W.Frag) (H : Hp) : Nat → V → V → Bool → Prop
  | 0, x, y, b => flatV x = true ∧ flatV y = true ∧ b = eqV x y
  | n + 1, x, y, b => (flatV x = true ∧ flatV y = true ∧ b = eqV x y) ∨
    (∃ (c : Bool) (p q : Addr) (xs ys : List V) (e : Nat → Bool), x = .ref p ∧ y = .ref q ∧ SqB K c H p xs ∧ SqB K c H q ys ∧ (∀ (j : Nat) (x' y' : V), xs[j]? = some x' → ys[j]? = some y' → EqD K H n x' y' (e j)) ∧
      b = ((xs.length == ys.length) && (List.range xs.length).all e) ∧ (p = q → b = true)) ∨
    (∃ (c : Bool) (p : Addr) (xs : List V), x = .ref p ∧ y = .non ∧ SqB K c H p xs ∧ b = false) ∨
    (∃ (c : Bool) (p : Addr) (xs : List V), x = .non ∧ y = .ref p ∧ SqB K c H p xs ∧ b = false)
section
variable {X : Cx} {pins : List (Addr × Obj)} {σ : St} {H : Hp} {s : Shared}
theorem getA {its : List Value} {j : Nat} {u : Value} (h : j < its.toArray.size) (e : its[j]? = some u) : its.toArray[j] = u := by
  have := List.getElem?_eq_some_iff.mp e
  simpa using this.2
theorem eqAt_D (I : Inv X pins σ H s) : ∀ (n : Nat) (A : Around) {x y : V} {b : Bool} {v u : Value}, EqD X.K H n x y b → RelV x v → RelV y u → A.units + n < cLine → SeqAt.EqAt A s v u b := by
  intro n
  induction n with
  | zero =>
    intro A x y b v u h rx ry _
    obtain ⟨f1, f2, rfl⟩ := h
    exact eqAt_V rx ry f1 f2
  | succ n ih =>
    intro A x y b v u h rx ry hu
    rcases h with ⟨f1, f2, rfl⟩ | ⟨c, p, q, xs, ys, e, rfl, rfl, hp, hq, he, hb, hpq⟩ | ⟨c, p, xs, rfl, rfl, hp, rfl⟩ | ⟨c, p, xs, rfl, rfl, hp, rfl⟩
    · exact eqAt_V rx ry f1 f2
    · cases rx
      cases ry
      by_cases epq : p = q
      · subst epq
        rw [hpq rfl]
        exact SeqAt.EqAt.same _
      · refine SeqAt.EqAt.of_refs epq ?_
        obtain ⟨its, r1, z1, _⟩ := I.seqB hp
        obtain ⟨its2, r2, z2, _⟩ := I.seqB hq
        have l1 := r1.length
        have l2 := r2.length
        have items : ∀ (j : Nat) (h1 : j < its.toArray.size) (h2 : j < its2.toArray.size), SeqAt.EqAt A.in1 s its.toArray[j] its2.toArray[j] (e j) := fun j h1 h2 => by
          have h1' : j < xs.length := by rw [List.size_toArray] at h1; omega
          have h2' : j < ys.length := by rw [List.size_toArray] at h2; omega
          obtain ⟨u1, e1, q1⟩ := r1.get (List.getElem?_eq_getElem h1')
          obtain ⟨u2, e2, q2⟩ := r2.get (List.getElem?_eq_getElem h2')
          rw [getA h1 e1, getA h2 e2]
          exact ih A.in1 (he j _ _ (List.getElem?_eq_getElem h1') (List.getElem?_eq_getElem h2')) q1 q2 (by show A.units + 1 + n < cLine; omega)
        cases c with
        | false =>
          by_cases hl : xs.length = ys.length
          · have := SeqAt.RcAt.lists (A := A) (e := e) z1 z2 (by rw [List.size_toArray, List.size_toArray]; omega) (by omega) items
            rw [List.size_toArray, ← l1] at this
            rw [hb, hl, beq_self_eq_true, Bool.true_and, ← hl]
            exact this
          · rw [hb, beq_eq_false_iff_ne.mpr hl, Bool.false_and]
            exact SeqAt.RcAt.lists_lengths z1 z2 (by rw [List.size_toArray, List.size_toArray, bne_iff_ne]; omega) (by omega)
        | true =>
          have := SeqAt.RcAt.tuples (A := A) (e := e) z1 z2 (by omega) items
          rw [List.size_toArray, List.size_toArray, ← l1, ← l2] at this
          by_cases hl : xs.length = ys.length
          · rw [hl, Nat.min_self, beq_self_eq_true, Bool.and_true] at this
            rw [hb, hl, beq_self_eq_true, Bool.true_and]
            exact this
          · rw [beq_eq_false_iff_ne.mpr hl, Bool.and_false] at this
            rw [hb, beq_eq_false_iff_ne.mpr hl, Bool.false_and]
            exact this
    · cases rx
      cases ry
      obtain ⟨its, r1, z1, _⟩ := I.seqB hp
      cases c with
      | false => exact SeqAt.EqAt.list_none z1 (by omega)
      | true => exact SeqAt.EqAt.tuple_none z1 (by omega)
    · cases rx
      cases ry
      obtain ⟨its, r1, z1, _⟩ := I.seqB hp
      cases c with
      | false => exact SeqAt.EqAt.none_list z1 (by omega)
      | true => exact SeqAt.EqAt.none_tuple z1 (by omega)
end
section
variable {K : PySem.W.Frag} {H : Hp}
theorem EqD.flat {n : Nat} {x y : V} (h1 : flatV x = true) (h2 : flatV y = true) : EqD K H n x y (eqV x y) := by
  cases n with
  | zero => exact ⟨h1, h2, rfl⟩
  | succ n => exact .inl ⟨h1, h2, rfl⟩
theorem EqD.int {n : Nat} (i j : Int) : EqD K H n (.int i) (.int j) (i == j) := EqD.flat rfl rfl
theorem EqD.int_t {n : Nat} (i : Int) : EqD K H n (.int i) (.int i) true := by
  have := EqD.int (K := K) (H := H) (n := n) i i
  rw [beq_self_eq_true] at this
  exact this
/-- two lists, or two tuples, alike item by item -/
theorem EqD.seq {n : Nat} {c : Bool} {p q : Addr} {xs ys : List V} (hp : SqB K c H p xs) (hq : SqB K c H q ys) (hl : xs.length = ys.length) (h : ∀ (j : Nat) (x y : V), xs[j]? = some x → ys[j]? = some y → EqD K H n x y true) : EqD K H (n + 1) (.ref p) (.ref q) true := by
  refine .inr (.inl ⟨c, p, q, xs, ys, fun _ => true, rfl, rfl, hp, hq, h, ?_, fun _ => rfl⟩)
  rw [hl, beq_self_eq_true, Bool.true_and]
  exact (List.all_eq_true.mpr fun _ _ => rfl).symm
theorem EqD.ints {n : Nat} {c : Bool} {p q : Addr} {ns : List Int} (hp : SqB K c H p (ns.map V.int)) (hq : SqB K c H q (ns.map V.int)) : EqD K H (n + 1) (.ref p) (.ref q) true :=
  EqD.seq hp hq rfl fun j x y h1 h2 => by
    rw [h1] at h2
    cases h2
    rw [List.getElem?_map] at h1
    obtain ⟨i, _, rfl⟩ := Option.map_eq_some_iff.mp h1
    exact EqD.int_t i
theorem SqB.t {p : Addr} {xs : List V} (h : H p = some (.tup xs)) : SqB K true H p xs := SqT.of h
theorem SqB.l {p : Addr} {xs : List V} (h : H p = some (.lst xs)) : SqB K false H p xs := SqL.of h
end
end L2

namespace L2
open PySem PySem.Spec PyProof.Rows
/-! ### xs[::-1] of a list -/
section
variable {X : Cx} {K : PySem.W.Frag} {e st : Expr} {te ts : TE} {p2 pos : Pos}
end
end L2

/-! # isinstance of an exception of an own class -/
namespace L2
open PySem PySem.Spec PyProof.Rows

section
variable {prog : Program} {w : World} {A : Around} {E : Value → Shared → Prop} {h : Heap} {g : Array GenState} {d : Drawn} {t : Nat} {os : OsState} {a C : Addr} {o : Obj} {K : PySem.W.Frag}

end

end L2

namespace L2
open PySem PySem.Spec PyProof.Rows

/-! ### isinstance of an exception -/
section
variable {X : Cx}
end

/-! ### an exception on its way: its record, its traceback -/
/-- the exception at a, of the class at C; its traceback (the record at T), if there is one -/
def XRec (h : Heap) (a C : Addr) (T : Option Addr) : Prop := ∃ oe vs, h.get? a = some oe ∧ oe.cls = .ref C ∧ oe.data = .fields vs ∧
  match T with
  | none => vs[1]? = some .none
  | some t => vs[1]? = some (.ref t) ∧ t ≠ a ∧ ∃ oT ts, h.get? t = some oT ∧ oT.data = .fields ts ∧ ts[3]? = some .none

section
variable {X : Cx} {pins : List (Addr × Obj)} {σ : St} {H H' : Hp} {s : Shared} {h' : Heap} {ch : List Addr}
/-- records that are newer than the entry may have turned (or been filled anew) -/
abbrev Cx.exs (X : Cx) (ch : List Addr) : Cx := { X with ex := X.ex ++ ch }
theorem Inv.exs (I : Inv X pins σ H s) (hch : ∀ b ∈ ch, X.s₀.heap.get? b = none ∧ b ≠ X.env.locals ∧ (∀ x c, X.env.cells.lookup x = some c → c ≠ b)) : Inv (X.exs ch) pins σ H s := by
  have nb : ∀ b o, X.s₀.heap.get? b = some o → b ∉ ch := fun b o e hb => by rw [(hch b hb).1] at e; cases e
  have ok := I.ok
  refine ⟨⟨ok.mod, ok.kind, ok.glob, ok.blt, ok.above, ok.inj, ok.has, ok.cab, ok.hd, ok.frames, ok.stk, fun b hb => ?_, ok.bs, ok.bsz, fun b o e hb => ?_, fun b hb hf => ?_, ok.funs, ok.frf⟩, I.os, I.bare,
    ⟨fun b o e n hb hx => I.base.keep b o e n hb fun z => hx (List.mem_append_left _ z), fun b o e n hb hx => I.base.slot b o e n hb fun z => hx (List.mem_append_left _ z), fun b o e n hx => I.base.free b o e n fun z => hx (List.mem_append_left _ z), fun b o e hx => I.base.there b o e fun z => hx (List.mem_append_left _ z), I.base.tups, I.base.frzs, I.base.tbls⟩,
    I.loc, I.cell, I.free, I.freeC, I.pin, I.hok, I.len⟩
  · rcases List.mem_append.mp hb with z | z
    · exact ok.exf b z
    · exact ⟨(hch b z).2.1, (hch b z).2.2⟩
  · rcases List.mem_append.mp hb with z | z
    · exact ok.noex b o e z
    · exact nb b o (ok.bs b o e).1 z
  · rcases List.mem_append.mp hb with z | z
    · exact ok.exfs b z hf
    · obtain ⟨_, o, ho, _⟩ := ok.funs.mem hf
      exact nb b o ho z
theorem Inv.unexs (I : Inv (X.exs ch) pins σ H s) (ok : X.Ok) (hch : ∀ b ∈ ch, X.s₀.heap.get? b = none) : Inv X pins σ H s := by
  have nb : ∀ b o, X.s₀.heap.get? b = some o → b ∉ X.ex → b ∉ X.ex ++ ch := fun b o e n hb => by
    rcases List.mem_append.mp hb with z | z
    · exact n z
    · rw [hch b z] at e; cases e
  exact ⟨ok, I.os, I.bare, ⟨fun b o e n hb hx => I.base.keep b o e n hb (nb b o e hx), fun b o e n hb hx => I.base.slot b o e n hb (nb b o e hx), fun b o e n hx => I.base.free b o e n (nb b o e hx), fun b o e hx => I.base.there b o e (nb b o e hx), I.base.tups, I.base.frzs, I.base.tbls⟩,
    I.loc, I.cell, I.free, I.freeC, I.pin, I.hok, I.len⟩
/-- what was there when the state was s is neither of these: so they are no frame, no cell, no pin -/
theorem Inv.news (I : Inv X pins σ H s) (hn : ∀ b ∈ ch, X.s₀.heap.get? b = none ∧ H b = none ∧ b ∉ frs X.stack ∧ b ≠ X.env.locals ∧ (∀ x c, X.env.cells.lookup x = some c → c ≠ b) ∧ ∀ p ∈ X.pn ++ pins, p.1 ≠ b)
    (hk : (PySem.W.hideAll s.heap (ch ++ frs X.stack)).StaysIn h') (hs : ∀ b o, s.heap.get? b = some o → (∀ vs, o.data ≠ .fields vs) → ∃ sl, h'.get? b = some { o with slots := sl }) (t' : Nat) :
    Inv X pins σ H { s with heap := h', toks := t' } := by
  have kp : ∀ b o, s.heap.get? b = some o → b ∉ frs X.stack → b ∉ ch → h'.get? b = some o := fun b o e n1 n2 => hk b o (PySem.W.hideAll_get _ e fun z => (List.mem_append.mp z).elim n2 n1)
  have fs : ∀ b o, s.heap.get? b = some o → b ∈ frs X.stack → ∃ sl, h'.get? b = some { o with slots := sl } := fun b o e hb => by
    obtain ⟨_, o', ho', hd⟩ := I.stack.mem hb
    rw [e] at ho'; cases ho'
    exact hs b o e hd
  have hch' : ∀ b ∈ ch, X.s₀.heap.get? b = none ∧ b ≠ X.env.locals ∧ (∀ x c, X.env.cells.lookup x = some c → c ≠ b) := fun b hb => ⟨(hn b hb).1, (hn b hb).2.2.2.1, (hn b hb).2.2.2.2.1⟩
  refine Inv.unexs (ch := ch) ((I.exs hch').call (g' := s.gens) (d' := s.drawn) (ch := ch) ⟨fun b o e n hb hx => kp b o e hb hx, fun b o e n hb hx => fs b o e hb, fun b o e n hx => n, fun b o e hx => ?_, fun b xs e => e, fun b o u e => e, fun b ps e => ⟨#[], by rw [e]; simp⟩⟩ (fun b u e => ?_) I.bare fun b hb => ?_) I.ok fun b hb => (hn b hb).1
  · by_cases hf : b ∈ frs X.stack
    · obtain ⟨sl, q⟩ := fs b o e hf
      exact ⟨_, q⟩
    · exact ⟨o, kp b o e hf hx⟩
  · have nf : ∀ c u, H c = some u → c ∉ frs X.stack ∧ c ∉ ch := fun c u q => ⟨fun z => (by rw [I.stkFree c z] at q; cases q), fun z => (by rw [(hn c z).2.1] at q; cases q)⟩
    refine (I.hok b u e).stay (fun c v hc q => ?_) (fun _ q => q) fun _ _ q => q
    rcases hc with z | z
    · exact kp c v q (z ▸ nf b u e).1 (z ▸ nf b u e).2
    · exact kp c v q (nf c _ z).1 (nf c _ z).2
  · exact ⟨.inl (List.mem_append_right _ hb), (hn b hb).2.2.2.1, (hn b hb).2.2.2.2.1, (hn b hb).2.2.2.2.2⟩
end
end L2

namespace L2
open PySem PySem.Spec PyProof.Rows

/-- new since the entry, and no frame, no cell, no pin, not tracked -/
def Nw (X : Cx) (pins : List (Addr × Obj)) (H : Hp) (b : Addr) : Prop :=
  X.s₀.heap.get? b = none ∧ H b = none ∧ b ∉ frs X.stack ∧ b ≠ X.env.locals ∧ (∀ x c, X.env.cells.lookup x = some c → c ≠ b) ∧ ∀ p ∈ X.pn ++ pins, p.1 ≠ b
/-- the exception at a, of the class at C, is on its way -/
structure Fly (X : Cx) (pins : List (Addr × Obj)) (σ : St) (H : Hp) (s : Shared) (a C : Addr) (T : Option Addr) : Prop where
  inv : Inv X pins σ H s
  xrec : XRec s.heap a C T
  na : Nw X pins H a
  nt : ∀ t, T = some t → Nw X pins H t
/-- a def's body -/
structure Full (X : Cx) : Prop where
  stk : X.stack = X.env :: X.outer
  fr : X.env.frame = some X.env.locals
  ex : X.ex = []

section
variable {X : Cx} {pins : List (Addr × Obj)} {σ : St} {H : Hp} {s : Shared} {a C : Addr} {T : Option Addr} {h' : Heap}
/-- what was not there is new -/
theorem Inv.nw (I : Inv X pins σ H s) (f : Full X) {b : Addr} (e : s.heap.get? b = none) : Nw X pins H b := by
  have ne : ∀ c o, s.heap.get? c = some o → c ≠ b := fun c o q z => by rw [z, e] at q; cases q
  refine ⟨?_, ?_, fun z => ?_, fun z => ?_, fun x c q z => ?_, fun p hp z => ?_⟩
  · cases q : X.s₀.heap.get? b with
    | none => rfl
    | some o =>
      obtain ⟨o', q'⟩ := I.base.there b o q (by rw [f.ex]; simp)
      exact absurd rfl (ne b o' q')
  · cases q : H b with
    | none => rfl
    | some u =>
      have lt := I.hok.lt q
      exfalso
      have ok := I.hok b u q
      cases u with
      | lst xs => obtain ⟨_, _, _, _, q'⟩ := ok; exact ne b _ q' rfl
      | tup xs => obtain ⟨_, _, _, ⟨o, q', _⟩⟩ := ok; exact ne b _ q' rfl
      | dK kvs => obtain ⟨_, _, _, _, o, _, _, q', _⟩ := ok; exact ne b _ q' rfl
      | dT kvs => obtain ⟨_, _, _, _, o, _, _, q', _⟩ := ok; exact ne b _ q' rfl
      | set S n => obtain ⟨o, _, _, _, q', _⟩ := ok; exact ne b _ q' rfl
      | ins C dx fs => obtain ⟨_, _, _, q', _⟩ := ok; exact ne b _ q' rfl
      | own y => obtain ⟨_, q'⟩ := ok; exact ne b _ q' rfl
      | xd fs => obtain ⟨_, ⟨_, _, _, q', _⟩, _⟩ := ok; exact ne b _ q' rfl
      | rng lo hi => obtain ⟨_, _, _, q'⟩ := ok; exact ne b _ q' rfl
      | frz ob u => obtain ⟨q', _⟩ := ok; exact ne b _ q' rfl
      | tbl ps => exact ne b _ (show s.heap.get? b = some _ from ok) rfl
      | met f y => exact ne b _ (show s.heap.get? b = some _ from ok) rfl
      | ext φ => obtain ⟨_, ⟨_, q'⟩, _⟩ := ok; exact ne b _ q' rfl
  · obtain ⟨_, o, ho, _⟩ := I.stack.mem z
    exact ne b o ho rfl
  · obtain ⟨m, ⟨o, _, _, ho, _⟩, _⟩ := I.loc
    exact ne _ o ho z.symm
  · obtain ⟨v, o, ho, _⟩ := I.cell x c q
    exact ne c o ho z
  · exact ne _ _ (I.pin p hp).1 z

/-- the heap but the exception, its traceback, the frames -/
abbrev bareX (X : Cx) (h : Heap) (a : Addr) (T : Option Addr) : Heap := PySem.W.hideAll h ((a :: T.toList) ++ frs X.stack)
theorem Fly.frames (F : Fly X pins σ H s a C T) : s.heap.FunFrames (bareX X s.heap a T) X.stack :=
  PySem.W.funFrames_hide F.inv.stack fun env he b hb => List.mem_append_right _ (List.mem_filterMap.mpr ⟨env, he, hb⟩)
theorem Fly.bareStays (F : Fly X pins σ H s a C T) : (bareX X s.heap a T).StaysIn s.heap := fun b o e => PySem.W.of_hideAll _ e
theorem Fly.bareNone (F : Fly X pins σ H s a C T) : (bareX X s.heap a T).get? a = none := PySem.W.hideAll_none _ (by simp)
/-- behind a step of the exception in this frame -/
theorem Fly.on (F : Fly X pins σ H s a C T) (f : Full X) (st : (bareX X s.heap a T).StaysIn h') (ff : h'.FunFrames (bareX X s.heap a T) X.stack) (tr : h'.Traced (bareX X s.heap a T) a (.ref C)) (sl : s.heap.UpToSlots h') :
    ∃ t', Fly X pins σ H { s with heap := h' } a C (some t') := by
  have I := F.inv
  have hch : ∀ b ∈ a :: T.toList, Nw X pins H b := fun b hb => by
    rcases List.mem_cons.mp hb with rfl | hb
    · exact F.na
    · exact F.nt b (by simpa using hb)
  have I' : Inv X pins σ H { s with heap := h' } := I.news hch st sl s.toks
  obtain ⟨oe, vs, t', oT, ts, he, hcl, hd, h1, hn, hne, hT, hdT, h3⟩ := tr
  refine ⟨t', I', ⟨oe, vs, he, hcl, hd, h1, hne, oT, ts, hT, hdT, h3⟩, F.na, fun t e => ?_⟩
  cases e
  cases q : s.heap.get? t' with
  | none => exact I.nw f q
  | some o =>
    by_cases hm : t' ∈ (a :: T.toList) ++ frs X.stack
    · rcases List.mem_append.mp hm with z | z
      · exact hch t' z
      · obtain ⟨_, o', ho', hnf⟩ := ff.mem z
        rw [hT] at ho'; cases ho'
        exact absurd hdT (hnf ts)
    · have := PySem.W.hideAll_get _ q hm
      rw [hn] at this
      cases this

theorem Fly.leave (F : Fly X pins σ H s a C T) (f : Full X) {M : Model} {Q : Unit → Shared → Prop} {E : Value → Shared → Prop} (k : ∀ s' t, Fly X pins σ H s' a C (some t) → Q () s') : wpAny M X.A (leaving X.env (.ref a)) Q E s := by
  have hfr : X.A.frames = some (X.env :: X.outer) := by rw [← f.stk]; exact F.inv.ok.frames
  have hl : s.heap.FunFrames (bareX X s.heap a T) (X.env :: X.outer) := by rw [← f.stk]; exact F.frames
  obtain ⟨oe, vs, he, hcl, hd, h1⟩ := F.xrec
  cases T with
  | none =>
    refine wpAny_leaving_first hfr hl f.fr he F.bareStays F.bareNone hd h1 fun h' ⟨k1, k2, k3, k4⟩ => ?_
    rw [hcl] at k3
    obtain ⟨t', F'⟩ := F.on f k1 (by rw [f.stk]; exact k2) k3 k4
    exact k _ t' F'
  | some t =>
    obtain ⟨h1, hne, oT, ts, hT, hdT, h3⟩ := h1
    refine wpAny_leaving_next hfr hl f.fr (cls := .ref C) ⟨oe, vs, t, oT, ts, he, hcl, hd, h1, PySem.W.hideAll_none _ (by simp), hne, hT, hdT, h3⟩ F.bareStays F.bareNone fun h' ⟨k1, k2, k3, k4⟩ => ?_
    obtain ⟨t', F'⟩ := F.on f k1 (by rw [f.stk]; exact k2) k3 k4
    exact k _ t' F'

end

/-! ### how an exception lies behind a call -/
def CXx (P : Program) (w : World) : CXT := fun outer H s E e s' => ∃ (a C t : Addr) (H' : Hp), e = .ref a ∧ s'.os = s.os ∧ AllBare s'.gens ∧ Un (frs outer) [] H H' s.heap s'.heap ∧ HOk P w H' s'.heap ∧
  XRec s'.heap a C (some t) ∧ s.heap.get? a = none ∧ s.heap.get? t = none ∧ H' a = none ∧ H' t = none ∧ E (.ref C) none H'
section
variable {X : Cx} {pins : List (Addr × Obj)} {σ : St} {H : Hp} {s s' : Shared} {a C : Addr} {E : XK} {e : Value}
/-- it leaves the frame -/
theorem Fly.out {T : Option Addr} (F : Fly X pins σ H s a C T) (f : Full X) {M : Model} {E' : Value → Shared → Prop} (q : E (.ref C) none H) :
    wpAny M X.A (leaving X.env (.ref a)) (fun _ s' => CXx X.prog X.w X.outer X.H₀ X.s₀ E (.ref a) s') E' s :=
  F.leave f fun s' t F' => ⟨a, C, t, H, rfl, F'.inv.os, F'.inv.bare, by have := F'.inv.base; rw [f.ex] at this; exact this, F'.inv.hok, F'.xrec, F'.na.1, (F'.nt t rfl).1, F'.na.2.1, (F'.nt t rfl).2.1, q⟩
end
section
variable {P : Program} {w : World} {K : PySem.W.Frag} {mg : Str → Option Value} {base : Heap} {N : List Str} {qual : Str} {scope : Scope} {f : Addr} {cd : Value} {A : Around} {outer : List Env} {s : Shared} {H : Hp} {E E' : XK}
end
end L2

namespace L2
open PySem PySem.Spec PyProof.Rows

/-! ### raise C(text) -/
section
variable {X : Cx}
end
end L2

namespace L2
open PySem PySem.Spec PyProof.Rows

section
variable {X : Cx} {pins : List (Addr × Obj)} {σ : St} {H : Hp} {s : Shared} {a C t : Addr} {h' : Heap}
/-- the exception and its traceback are pinned -/
theorem Fly.pin (F : Fly X pins σ H s a C (some t)) : ∃ oe oT : Obj, Inv X (pins ++ [(a, oe), (t, oT)]) σ H s ∧ oe.cls = .ref C ∧
    ∀ (X' : Cx) (s' : Shared), Inv X' (pins ++ [(a, oe), (t, oT)]) σ H s' → Inv X pins σ H s' → s'.heap.get? a = some oe ∧ Fly X pins σ H s' a C (some t) := by
  obtain ⟨oe, vs, he, hcl, hd, h1, hne, oT, ts, hT, hdT, h3⟩ := F.xrec
  have ff : ∀ b ∈ frs X.stack, ∀ o vs, s.heap.get? b = some o → o.data = .fields vs → False := fun b hb o vs e q => by
    obtain ⟨_, o', ho', hnf⟩ := F.inv.stack.mem hb
    rw [e] at ho'; cases ho'
    exact hnf vs q
  have fs : ∀ b ∈ X.fs, b ∈ frs X.stack ∨ True := fun _ _ => .inr trivial
  have nfs : ∀ b o vs, s.heap.get? b = some o → o.data = .fields vs → b ∉ X.fs := fun b o vs e q hb => by
    obtain ⟨_, o', ho', hnf⟩ := F.inv.funs.mem hb
    rw [e] at ho'; cases ho'
    exact hnf vs q
  refine ⟨oe, oT, F.inv.pins_of fun p hp => ?_, hcl, fun X' s' I' I => ?_⟩
  · rcases List.mem_append.mp hp with z | z
    · exact F.inv.pin p (List.mem_append_right _ z)
    · rcases List.mem_cons.mp z with rfl | z
      · exact ⟨he, F.na.2.1, F.na.2.2.2.1, nfs _ _ _ he hd, fun v q => by rw [hd] at q; cases q⟩
      · rcases List.mem_cons.mp z with rfl | z
        · exact ⟨hT, (F.nt t rfl).2.1, (F.nt t rfl).2.2.2.1, nfs _ _ _ hT hdT, fun v q => by rw [hdT] at q; cases q⟩
        · exact nomatch z
  · have e1 := (I'.pin (a, oe) (List.mem_append_right _ (List.mem_append_right _ (.head _)))).1
    have e2 := (I'.pin (t, oT) (List.mem_append_right _ (List.mem_append_right _ (.tail _ (.head _))))).1
    exact ⟨e1, I, ⟨oe, vs, e1, hcl, hd, h1, hne, oT, ts, e2, hdT, h3⟩, F.na, F.nt⟩
end

/-! ### try .. except C as n -/
section
variable {X : Cx} {pins p2 : List (Addr × Obj)} {σ : St} {H : Hp} {s : Shared} {E : Value → Shared → Prop} {e : Value}
end
end L2

namespace L2
open PySem PySem.Spec PyProof.Rows
section
variable {X : Cx}
/-! ### x is not True, for None and bools -/
end
end L2

namespace L2
open PySem PySem.Spec PyProof.Rows
/-! ### t > u, tuples whose items are compared one by one -/
section
open PySem.SeqAt
open PySem.AutoSeq1 (wpAny_loadPart')
open PySem.MeetsSeq PySem.MeetsSeq2 PySem.MeetsSeq3
end
end L2

namespace L2
open PySem PySem.Spec PyProof.Rows
/-! ### min, max of a tuple of ints -/
section
variable {X : Cx} {pins : List (Addr × Obj)} {σ : St} {H0 : Hp} {a I S : Addr} {xs : List V} {KV : Nat → V → Prop} {bt : Nat → Nat → Bool} {key : Value} {kw : List (Str × Value)} {R : Result → Shared → Prop}
end
section
variable {X : Cx} {pins : List (Addr × Obj)} {σ : St} {H : Hp} {s : Shared} {a : Addr} {xs : List V} {KV : Nat → V → Prop} {bt : Nat → Nat → Bool} {Q : VK}
end
section
variable {X : Cx} {K : PySem.W.Frag}
end
end L2

namespace L2
open PySem PySem.Spec PyProof.Rows
/-! ### the general sort: by a comparison that only answers -/
def gallop' : Bool → Keyed → Array Keyed → Nat → Nat → Nat → StateT SortSt Sem (Option Nat) := sortPriv% PySem.Builtin.gallop
def mergeLo' : Array Keyed → Array Keyed → StateT SortSt Sem (Array Keyed) := sortPriv% PySem.Builtin.mergeLo
def mergeHi' : Array Keyed → Array Keyed → StateT SortSt Sem (Array Keyed) := sortPriv% PySem.Builtin.mergeHi
def beyond' (left : Bool) (key : Keyed) (arr : Array Keyed) (base i : Nat) : StateT SortSt Sem (Option Bool) := do
  let x ← elem' arr (base + i)
  if left then lt' x key else return (← lt' key x).map (!·)
section
variable {prog : Program} {w : World} {A : Around} {E : Value → Shared → Prop} {s : Shared} {κ : SortKind} {LT : Keyed → Keyed → Bool} {S : Keyed → Prop}
/-- the comparison of what S has is LT's, and nothing changes -/
def LtIs (prog : Program) (w : World) (A : Around) (E : Value → Shared → Prop) (s : Shared) (κ : SortKind) (S : Keyed → Prop) (LT : Keyed → Keyed → Bool) : Prop :=
  ∀ (x y : Keyed) (st : SortSt) (Q : Option Bool → SortSt → Prop), S x → S y → kindOf st = κ → Q (some (LT x y)) st → wpS (model prog w) A E s (lt' x y) Q st
def bey (LT : Keyed → Keyed → Bool) (left : Bool) (key : Keyed) (arr : Array Keyed) (base i : Nat) : Bool :=
  match arr[base + i]? with
  | some x => if left then LT x key else !LT key x
  | none => false
theorem wpS_elem {arr : Array Keyed} {i : Nat} {x : Keyed} {st : SortSt} {Q : Keyed → SortSt → Prop} (e : arr[i]? = some x) (h : Q x st) : wpS (model prog w) A E s (elem' arr i) Q st := by
  rw [elem'_eq, e]
  exact wpS_pure h
theorem wpS_beyond (hl : LtIs prog w A E s κ S LT) {left : Bool} {key : Keyed} {arr : Array Keyed} {base i : Nat} {st : SortSt} {Q : Option Bool → SortSt → Prop} (hk : S key) (ha : ∀ (j : Nat) (x : Keyed), arr[j]? = some x → S x) (hi : base + i < arr.size) (hs : kindOf st = κ)
    (h : Q (some (bey LT left key arr base i)) st) : wpS (model prog w) A E s (beyond' left key arr base i) Q st := by
  have e : arr[base + i]? = some arr[base + i] := Array.getElem?_eq_getElem hi
  unfold beyond'
  refine wpS_bind (wpS_elem e ?_)
  unfold bey at h
  rw [e] at h
  dsimp only at h
  cases left with
  | true =>
    rw [if_pos rfl] at h ⊢
    exact hl _ _ st _ (ha _ _ e) hk hs h
  | false =>
    rw [if_neg (by decide)] at h ⊢
    exact wpS_bind (hl _ _ st _ hk (ha _ _ e) hs (wpS_pure h))
end
end L2

namespace L2
open PySem PySem.Spec PyProof.Rows
section
variable {prog : Program} {w : World} {A : Around} {E : Value → Shared → Prop} {s : Shared} {κ : SortKind} {LT : Keyed → Keyed → Bool} {S : Keyed → Prop}
/-- a loop that halves, whatever its text: F's step, told by what it does -/
theorem wpS_search {n : Nat} {st : SortSt} {Q : Option Nat → SortSt → Prop} {B : Nat → Bool} {F : Nat → Option (Option Nat) × Nat × Nat → StateT SortSt Sem (ForInStep (Option (Option Nat) × Nat × Nat))} {G : Option (Option Nat) × Nat × Nat → StateT SortSt Sem (Option Nat)}
    (hF : ∀ (i lo hi : Nat) (Q' : ForInStep (Option (Option Nat) × Nat × Nat) → SortSt → Prop), hi ≤ n → (hi ≤ lo → Q' (.done (none, lo, hi)) st) → (lo < hi → B (lo + (hi - lo) / 2) = true → Q' (.yield (none, lo + (hi - lo) / 2 + 1, hi)) st) → (lo < hi → B (lo + (hi - lo) / 2) = false → Q' (.yield (none, lo, lo + (hi - lo) / 2)) st) → wpS (model prog w) A E s (F i (none, lo, hi)) Q' st)
    (hG : ∀ k, Q (some k) st → wpS (model prog w) A E s (G (none, k, k)) Q st) (hm : ∀ i j, i ≤ j → j < n → B j = true → B i = true)
    (h : ∀ k, k ≤ n → (∀ i, i < k → B i = true) → (∀ i, k ≤ i → i < n → B i = false) → Q (some k) st) (lo0 hi0 : Nat) (h1 : lo0 ≤ hi0) (h2 : hi0 ≤ n) (h3 : ∀ i, i < lo0 → B i = true) (h4 : ∀ i, hi0 ≤ i → i < n → B i = false) :
    wpS (model prog w) A E s (forIn [0:n] (none, lo0, hi0) F >>= G) Q st := by
  refine wpS_bind (wpS_mono (wpS_forRange (I := fun i c st' => st' = st ∧ ∃ lo hi, c = (none, lo, hi) ∧ lo ≤ hi ∧ hi ≤ n ∧ (∀ i, i < lo → B i = true) ∧ (∀ i, hi ≤ i → i < n → B i = false) ∧ hi - lo ≤ n - i)
    (Q := fun c st' => st' = st ∧ ∃ k, c = (none, k, k) ∧ k ≤ n ∧ (∀ i, i < k → B i = true) ∧ (∀ i, k ≤ i → i < n → B i = false)) ?_ ?_ ⟨rfl, lo0, hi0, rfl, h1, h2, h3, h4, by omega⟩) ?_)
  · rintro i c st' _ hi' ⟨rfl, lo, hi, rfl, g1, g2, g3, g4, g5⟩
    refine hF i lo hi _ g2 (fun ho => ?_) (fun ho e => ?_) (fun ho e => ?_)
    · have : lo = hi := by omega
      subst this
      exact ⟨rfl, lo, rfl, g2, g3, g4⟩
    · exact ⟨rfl, _, _, rfl, by omega, g2, fun i hi => hm i _ (by omega) (by omega) e, g4, by omega⟩
    · refine ⟨rfl, _, _, rfl, by omega, by omega, g3, fun i hi1 hi2 => ?_, by omega⟩
      cases e3 : B i with
      | false => rfl
      | true => rw [hm _ i hi1 hi2 e3] at e; cases e
  · rintro c st' ⟨rfl, lo, hi, rfl, g1, g2, g3, g4, g5⟩
    have : lo = hi := by omega
    subst this
    exact ⟨rfl, lo, rfl, g2, g3, g4⟩
  · rintro c st' ⟨rfl, k, rfl, g1, g2, g3⟩
    exact hG k (h k g1 g2 g3)
theorem wpS_gallop (hl : LtIs prog w A E s κ S LT) {left : Bool} {key : Keyed} {arr : Array Keyed} {base n hint : Nat} {st : SortSt} {Q : Option Nat → SortSt → Prop} (hk : S key) (ha : ∀ (j : Nat) (x : Keyed), arr[j]? = some x → S x) (hn : base + n ≤ arr.size) (hh : hint < n) (hs : kindOf st = κ)
    (hm : ∀ i j, i ≤ j → j < n → bey LT left key arr base j = true → bey LT left key arr base i = true)
    (h : ∀ k, k ≤ n → (∀ i, i < k → bey LT left key arr base i = true) → (∀ i, k ≤ i → i < n → bey LT left key arr base i = false) → Q (some k) st) : wpS (model prog w) A E s (gallop' left key arr base n hint) Q st := by
  unfold gallop'
  k_delta "gallop"
  have hb : ∀ i {Q' : Option Bool → SortSt → Prop}, i < n → Q' (some (bey LT left key arr base i)) st → wpS (model prog w) A E s (beyond' left key arr base i) Q' st := fun i Q' hi q => wpS_beyond hl hk ha (by omega) hs q
  generalize bey LT left key arr base = B at hm h hb
  refine wpS_bind (hb hint hh ?_)
  dsimp only
  cases e : B hint with
  | true =>
    rw [if_pos rfl]
    refine wpS_bind (wpS_mono (wpS_forRange (I := fun i c st' => st' = st ∧ ∃ l o, c = (none, l, o) ∧ l < o ∧ hint + l < n ∧ B (hint + l) = true ∧ i + 1 ≤ o)
      (Q := fun c st' => st' = st ∧ ∃ l o, c = (none, l, o) ∧ l < o ∧ hint + l < n ∧ B (hint + l) = true ∧ (n - hint ≤ o ∨ (hint + o < n ∧ B (hint + o) = false))) ?_ ?_ ⟨rfl, 0, 1, rfl, by omega, by omega, by rw [Nat.add_zero]; exact e, by omega⟩) ?_)
    · rintro i c st' _ hi ⟨rfl, l, o, rfl, h1, h2, h3, h4⟩
      dsimp only
      by_cases ho : o ≥ n - hint
      · rw [if_pos ho]
        exact wpS_pure ⟨rfl, l, o, rfl, h1, h2, h3, .inl ho⟩
      · rw [if_neg ho]
        refine wpS_bind (hb (hint + o) (by omega) ?_)
        dsimp only
        cases e2 : B (hint + o) with
        | true => exact wpS_pure ⟨rfl, o, 2 * o + 1, rfl, by omega, by omega, e2, by omega⟩
        | false => exact wpS_pure ⟨rfl, l, o, rfl, h1, h2, h3, .inr ⟨by omega, e2⟩⟩
    · rintro c st' ⟨rfl, l, o, rfl, h1, h2, h3, h4⟩
      exact ⟨rfl, l, o, rfl, h1, h2, h3, .inl (by omega)⟩
    · rintro c st' ⟨rfl, l, o, rfl, h1, h2, h3, h4⟩
      refine wpS_search (fun i lo hi Q' hn' q1 q2 q3 => by
        dsimp only
        by_cases ho : lo ≥ hi
        · rw [if_pos ho]
          exact wpS_pure (q1 ho)
        · rw [if_neg ho]
          refine wpS_bind (hb (lo + (hi - lo) / 2) (by omega) ?_)
          dsimp only
          cases e9 : B (lo + (hi - lo) / 2) with
          | true => exact wpS_pure (q2 (by omega) e9)
          | false => exact wpS_pure (q3 (by omega) e9)) (fun k q => wpS_pure q) hm h (hint + l + 1) (hint + min o (n - hint)) (by omega) (by omega) (fun i hi => hm i _ (by omega) h2 h3) (fun i hi1 hi2 => ?_)
      rcases h4 with h4 | ⟨h4, h5⟩
      · omega
      · cases e3 : B i with
        | false => rfl
        | true => rw [hm _ i (by omega) hi2 e3] at h5; cases h5
  | false =>
    rw [if_neg (by decide)]
    refine wpS_bind (wpS_mono (wpS_forRange (I := fun i c st' => st' = st ∧ ∃ l o, c = (none, l, o) ∧ l < o ∧ l ≤ hint ∧ B (hint - l) = false ∧ i + 1 ≤ o)
      (Q := fun c st' => st' = st ∧ ∃ l o, c = (none, l, o) ∧ l < o ∧ l ≤ hint ∧ B (hint - l) = false ∧ (hint + 1 ≤ o ∨ (o ≤ hint ∧ B (hint - o) = true))) ?_ ?_ ⟨rfl, 0, 1, rfl, by omega, by omega, e, by omega⟩) ?_)
    · rintro i c st' _ hi ⟨rfl, l, o, rfl, h1, h2, h3, h4⟩
      dsimp only
      by_cases ho : o ≥ hint + 1
      · rw [if_pos ho]
        exact wpS_pure ⟨rfl, l, o, rfl, h1, h2, h3, .inl ho⟩
      · rw [if_neg ho]
        refine wpS_bind (hb (hint - o) (by omega) ?_)
        dsimp only
        cases e2 : B (hint - o) with
        | true => exact wpS_pure ⟨rfl, l, o, rfl, h1, h2, h3, .inr ⟨by omega, e2⟩⟩
        | false => exact wpS_pure ⟨rfl, o, 2 * o + 1, rfl, by omega, by omega, e2, by omega⟩
    · rintro c st' ⟨rfl, l, o, rfl, h1, h2, h3, h4⟩
      exact ⟨rfl, l, o, rfl, h1, h2, h3, .inl (by omega)⟩
    · rintro c st' ⟨rfl, l, o, rfl, h1, h2, h3, h4⟩
      refine wpS_search (fun i lo hi Q' hn' q1 q2 q3 => by
        dsimp only
        by_cases ho : lo ≥ hi
        · rw [if_pos ho]
          exact wpS_pure (q1 ho)
        · rw [if_neg ho]
          refine wpS_bind (hb (lo + (hi - lo) / 2) (by omega) ?_)
          dsimp only
          cases e9 : B (lo + (hi - lo) / 2) with
          | true => exact wpS_pure (q2 (by omega) e9)
          | false => exact wpS_pure (q3 (by omega) e9)) (fun k q => wpS_pure q) hm h (hint + 1 - min o (hint + 1)) (hint - l) (by omega) (by omega) (fun i hi => ?_) (fun i hi1 hi2 => ?_)
      · rcases h4 with h4 | ⟨h4, h5⟩
        · omega
        · exact hm i _ (by omega) (by omega) h5
      · cases e3 : B i with
        | false => rfl
        | true => rw [hm _ i hi1 hi2 e3] at h3; cases h3
end
end L2

namespace L2
open PySem PySem.Spec PyProof.Rows
/-! ### two runs, merged -/
/-- LT orders what S has: le x y is LT y x = false -/
structure Ord {α : Type} (S : α → Prop) (LT : α → α → Bool) : Prop where
  asym : ∀ x y, S x → S y → LT x y = true → LT y x = false
  trans : ∀ x y z, S x → S y → S z → LT y x = false → LT z y = false → LT z x = false
abbrev leO {α : Type} (LT : α → α → Bool) (x y : α) : Prop := LT y x = false
/-- what is laid out, what is left of the two runs, all of it -/
structure MI {α : Type} (S : α → Prop) (LT : α → α → Bool) (T out ra rb : List α) : Prop where
  perm : (out ++ (ra ++ rb)).Perm T
  so : out.Pairwise (leO LT)
  sa : ra.Pairwise (leO LT)
  sb : rb.Pairwise (leO LT)
  below : ∀ x ∈ out, ∀ y ∈ ra ++ rb, leO LT x y
  all : ∀ x ∈ T, S x
section
variable {α : Type} {S : α → Prop} {LT : α → α → Bool} {T out ra rb ra' rb' : List α} {x y : α}
theorem MI.inA (m : MI S LT T out ra rb) (h : x ∈ ra) : S x := m.all x (m.perm.mem_iff.mp (List.mem_append_right _ (List.mem_append_left _ h)))
theorem MI.inB (m : MI S LT T out ra rb) (h : x ∈ rb) : S x := m.all x (m.perm.mem_iff.mp (List.mem_append_right _ (List.mem_append_right _ h)))
/-- some of the first run, none above what the second has -/
theorem MI.takeA {c : List α} (m : MI S LT T out (c ++ ra) rb) (h : ∀ x ∈ c, ∀ y ∈ rb, leO LT x y) : MI S LT T (out ++ c) ra rb := by
  have sa := List.pairwise_append.mp m.sa
  refine ⟨?_, List.pairwise_append.mpr ⟨m.so, sa.1, fun x hx y hy => m.below x hx y (List.mem_append_left _ (List.mem_append_left _ hy))⟩, sa.2.1, m.sb, fun x hx y hy => ?_, m.all⟩
  · refine List.Perm.trans ?_ m.perm
    rw [List.append_assoc, List.append_assoc]
  · rcases List.mem_append.mp hx with hx | hx
    · rcases List.mem_append.mp hy with hy | hy
      · exact m.below x hx y (List.mem_append_left _ (List.mem_append_right _ hy))
      · exact m.below x hx y (List.mem_append_right _ hy)
    · rcases List.mem_append.mp hy with hy | hy
      · exact sa.2.2 x hx y hy
      · exact h x hx y hy
theorem MI.takeB {c : List α} (m : MI S LT T out ra (c ++ rb)) (h : ∀ x ∈ c, ∀ y ∈ ra, leO LT x y) : MI S LT T (out ++ c) ra rb := by
  have sb := List.pairwise_append.mp m.sb
  refine ⟨?_, List.pairwise_append.mpr ⟨m.so, sb.1, fun x hx y hy => m.below x hx y (List.mem_append_right _ (List.mem_append_left _ hy))⟩, m.sa, sb.2.1, fun x hx y hy => ?_, m.all⟩
  · refine List.Perm.trans ?_ m.perm
    rw [List.append_assoc]
    refine List.Perm.append_left _ ?_
    rw [← List.append_assoc, ← List.append_assoc]
    exact List.Perm.append_right _ List.perm_append_comm
  · rcases List.mem_append.mp hx with hx | hx
    · rcases List.mem_append.mp hy with hy | hy
      · exact m.below x hx y (List.mem_append_left _ hy)
      · exact m.below x hx y (List.mem_append_right _ (List.mem_append_right _ hy))
    · rcases List.mem_append.mp hy with hy | hy
      · exact h x hx y hy
      · exact sb.2.2 x hx y hy
/-- one of the first run that is not above the second's first -/
theorem MI.pushA (o : Ord S LT) (m : MI S LT T out (x :: ra) (y :: rb)) (h : LT y x = false) : MI S LT T (out ++ [x]) ra (y :: rb) := by
  refine MI.takeA (c := [x]) m fun x' hx' z hz => ?_
  rw [List.mem_singleton] at hx'
  subst hx'
  rcases List.mem_cons.mp hz with rfl | hz'
  · exact h
  · exact o.trans x' y z (m.inA (List.mem_cons_self ..)) (m.inB (List.mem_cons_self ..)) (m.inB hz) h ((List.pairwise_cons.mp m.sb).1 z hz')
theorem MI.pushB (o : Ord S LT) (m : MI S LT T out (x :: ra) (y :: rb)) (h : LT y x = true) : MI S LT T (out ++ [y]) (x :: ra) rb := by
  refine MI.takeB (c := [y]) m fun y' hy' z hz => ?_
  rw [List.mem_singleton] at hy'
  subst hy'
  have h' := o.asym y' x (m.inB (List.mem_cons_self ..)) (m.inA (List.mem_cons_self ..)) h
  rcases List.mem_cons.mp hz with rfl | hz'
  · exact h'
  · exact o.trans y' x z (m.inB (List.mem_cons_self ..)) (m.inA (List.mem_cons_self ..)) (m.inA hz) h' ((List.pairwise_cons.mp m.sa).1 z hz')
/-- one run is at its end -/
theorem MI.endB (m : MI S LT T out ra []) : (out ++ ra).Perm T ∧ (out ++ ra).Pairwise (leO LT) := by
  have p := m.perm
  rw [List.append_nil] at p
  exact ⟨p, List.pairwise_append.mpr ⟨m.so, m.sa, fun x hx y hy => m.below x hx y (List.mem_append_left _ hy)⟩⟩
theorem MI.endA (m : MI S LT T out [] rb) : (out ++ rb).Perm T ∧ (out ++ rb).Pairwise (leO LT) :=
  ⟨m.perm, List.pairwise_append.mpr ⟨m.so, m.sb, fun x hx y hy => m.below x hx y hy⟩⟩
/-- the first run's last is above all that is left of the second -/
theorem MI.lastA (m : MI S LT T out [x] rb) (h : ∀ y ∈ rb, leO LT y x) : (out ++ rb ++ [x]).Perm T ∧ (out ++ rb ++ [x]).Pairwise (leO LT) := by
  have m' : MI S LT T (out ++ rb) [x] [] := MI.takeB (c := rb) (rb := []) (by rw [List.append_nil]; exact m) fun y hy z hz => by rw [List.mem_singleton] at hz; subst hz; exact h y hy
  exact m'.endB
end
end L2

namespace L2
open PySem PySem.Spec PyProof.Rows
/-! ### the merge from below -/
theorem drop_at {α : Type} {a : Array α} {i : Nat} {x : α} (e : a[i]? = some x) : a.toList.drop i = x :: a.toList.drop (i + 1) := by
  obtain ⟨h, e⟩ := Array.getElem?_eq_some_iff.mp e
  rw [List.drop_eq_getElem_cons (by simpa using h)]
  simp [e]
theorem mem_at {α : Type} {a : Array α} {i : Nat} {x : α} (e : a[i]? = some x) : x ∈ a.toList := by
  obtain ⟨h, e⟩ := Array.getElem?_eq_some_iff.mp e
  rw [← e]; simp
structure Lo (S : Keyed → Prop) (LT : Keyed → Keyed → Bool) (a b out : Array Keyed) (ia ib : Nat) : Prop where
  mi : MI S LT (a.toList ++ b.toList) out.toList (a.toList.drop ia) (b.toList.drop ib)
  sz : out.size = ia + ib
  ha : ia ≤ a.size
  hb : ib ≤ b.size
def Mg (LT : Keyed → Keyed → Bool) (a b r : Array Keyed) : Prop := r.toList.Perm (a.toList ++ b.toList) ∧ r.toList.Pairwise (leO LT)
section
variable {S : Keyed → Prop} {LT : Keyed → Keyed → Bool} {a b out : Array Keyed} {ia ib k : Nat} {x y : Keyed}
theorem Lo.pushB (o : Ord S LT) (h : Lo S LT a b out ia ib) (ea : a[ia]? = some x) (eb : b[ib]? = some y) (e : LT y x = true) : Lo S LT a b (out.push y) ia (ib + 1) := by
  have m := h.mi
  rw [drop_at ea, drop_at eb] at m
  have m' := m.pushB o e
  refine ⟨?_, by rw [Array.size_push, h.sz]; omega, h.ha, (Array.getElem?_eq_some_iff.mp eb).1⟩
  rw [Array.toList_push, drop_at ea]
  exact m'
theorem Lo.pushA (o : Ord S LT) (h : Lo S LT a b out ia ib) (ea : a[ia]? = some x) (eb : b[ib]? = some y) (e : LT y x = false) : Lo S LT a b (out.push x) (ia + 1) ib := by
  have m := h.mi
  rw [drop_at ea, drop_at eb] at m
  have m' := m.pushA o e
  refine ⟨?_, by rw [Array.size_push, h.sz]; omega, (Array.getElem?_eq_some_iff.mp ea).1, h.hb⟩
  rw [Array.toList_push, drop_at eb]
  exact m'
theorem drop_take {α : Type} (a : Array α) (i k : Nat) : a.toList.drop i = (a.extract i (i + k)).toList ++ a.toList.drop (i + k) := by
  rw [Array.toList_extract, List.extract_eq_take_drop, Nat.add_sub_cancel_left, ← List.drop_drop, List.take_append_drop]
theorem mem_ext {α : Type} {a : Array α} {i k : Nat} {x : α} (h : x ∈ (a.extract i (i + k)).toList) : ∃ j, j < k ∧ a[i + j]? = some x := by
  rw [Array.mem_toList_iff] at h
  obtain ⟨j, hj, e⟩ := Array.getElem_of_mem h
  rw [Array.size_extract] at hj
  refine ⟨j, by omega, ?_⟩
  rw [← e, Array.getElem_extract]
  exact Array.getElem?_eq_getElem _
theorem Lo.takeA (o : Ord S LT) (h : Lo S LT a b out ia ib) (hk : ia + k ≤ a.size) (eb : b[ib]? = some y) (c : ∀ i x, i < k → a[ia + i]? = some x → LT y x = false) : Lo S LT a b (out ++ a.extract ia (ia + k)) (ia + k) ib := by
  have m := h.mi
  rw [drop_take a ia k] at m
  refine ⟨?_, by rw [Array.size_append, Array.size_extract, h.sz]; omega, hk, h.hb⟩
  rw [Array.toList_append]
  refine m.takeA fun x hx z hz => ?_
  obtain ⟨i, hi, e⟩ := mem_ext hx
  have cx := c i x hi e
  have sx : S x := m.inA (List.mem_append_left _ hx)
  have sz := m.inB hz
  have sb := m.sb
  rw [drop_at eb] at hz sb
  rcases List.mem_cons.mp hz with rfl | hz'
  · exact cx
  · refine o.trans x y z sx (m.inB (by rw [drop_at eb]; exact List.mem_cons_self ..)) sz cx ((List.pairwise_cons.mp sb).1 z hz')
theorem Lo.takeB (o : Ord S LT) (h : Lo S LT a b out ia ib) (hk : ib + k ≤ b.size) (ea : a[ia]? = some x) (c : ∀ i y, i < k → b[ib + i]? = some y → LT y x = true) : Lo S LT a b (out ++ b.extract ib (ib + k)) ia (ib + k) := by
  have m := h.mi
  rw [drop_take b ib k] at m
  refine ⟨?_, by rw [Array.size_append, Array.size_extract, h.sz]; omega, h.ha, hk⟩
  rw [Array.toList_append]
  refine m.takeB fun y hy z hz => ?_
  obtain ⟨i, hi, e⟩ := mem_ext hy
  have sy : S y := m.inB (List.mem_append_left _ hy)
  have sz := m.inA hz
  have sx : S x := m.inA (by rw [drop_at ea]; exact List.mem_cons_self ..)
  have cy := o.asym y x sy sx (c i y hi e)
  have sa := m.sa
  rw [drop_at ea] at hz sa
  rcases List.mem_cons.mp hz with rfl | hz'
  · exact cy
  · exact o.trans y x z sy sx sz cy ((List.pairwise_cons.mp sa).1 z hz')
theorem ext_end {α : Type} (a : Array α) (i : Nat) : (a.extract i a.size).toList = a.toList.drop i := by
  rw [Array.toList_extract, List.extract_eq_take_drop, List.take_of_length_le]
  simp
theorem Lo.endB (h : Lo S LT a b out ia ib) (e : ib = b.size) : Mg LT a b (out ++ a.extract ia a.size ++ b.extract ib b.size) := by
  have m := h.mi
  have e2 : b.toList.drop ib = [] := by rw [e]; simp
  rw [e2] at m
  unfold Mg
  rw [Array.toList_append, Array.toList_append, ext_end, ext_end, e2, List.append_nil]
  exact m.endB
theorem Lo.endA (h : Lo S LT a b out ia ib) (e : ia = a.size) : Mg LT a b (out ++ a.extract ia a.size ++ b.extract ib b.size) := by
  have m := h.mi
  have e2 : a.toList.drop ia = [] := by rw [e]; simp
  rw [e2] at m
  unfold Mg
  rw [Array.toList_append, Array.toList_append, ext_end, ext_end, e2, List.append_nil]
  exact m.endA
theorem Lo.lastA (h : Lo S LT a b out ia ib) (e : ia + 1 = a.size) (hl : ∀ x, a[a.size - 1]? = some x → ∀ y ∈ b.toList, leO LT y x) : Mg LT a b (out ++ b.extract ib b.size ++ a.extract ia a.size) := by
  have m := h.mi
  have hi : ia < a.size := by omega
  have ea : a[ia]? = some a[ia] := Array.getElem?_eq_getElem hi
  have e2 : a.toList.drop ia = [a[ia]] := by rw [drop_at ea, e]; simp
  rw [e2] at m
  unfold Mg
  rw [Array.toList_append, Array.toList_append, ext_end, ext_end, e2]
  refine m.lastA fun y hy => hl _ ?_ y (List.mem_of_mem_drop hy)
  rw [show a.size - 1 = ia by omega]; exact ea
/-- bey ends once in what is in order -/
theorem bey_mono (o : Ord S LT) {left : Bool} {key : Keyed} {arr : Array Keyed} {base n : Nat} (hk : S key) (ha : ∀ (j : Nat) (x : Keyed), arr[j]? = some x → S x) (hn : base + n ≤ arr.size)
    (so : ∀ i j x y, i < j → j < n → arr[base + i]? = some x → arr[base + j]? = some y → leO LT x y) :
    ∀ i j, i ≤ j → j < n → bey LT left key arr base j = true → bey LT left key arr base i = true := by
  intro i j hij hj h
  by_cases e : i = j
  · subst e; exact h
  have ei : arr[base + i]? = some (arr[base + i]'(by omega)) := Array.getElem?_eq_getElem _
  have ej : arr[base + j]? = some (arr[base + j]'(by omega)) := Array.getElem?_eq_getElem _
  have si := ha _ _ ei
  have sj := ha _ _ ej
  have le := so i j _ _ (by omega) hj ei ej
  unfold bey at h ⊢
  rw [ei]
  rw [ej] at h
  dsimp only at h ⊢
  cases left with
  | true =>
    rw [if_pos rfl] at h ⊢
    cases g : LT (arr[base + i]'(by omega)) key with
    | true => rfl
    | false =>
      have := o.trans key _ _ hk si sj g le
      rw [this] at h; cases h
  | false =>
    rw [if_neg (by decide)] at h ⊢
    have h' : LT key (arr[base + j]'(by omega)) = false := by simpa using h
    have := o.trans _ _ key si sj hk le h'
    rw [this]; rfl
theorem bey_f {key x : Keyed} {arr : Array Keyed} {base i : Nat} {v : Bool} (h : bey LT false key arr base i = v) (e : arr[base + i]? = some x) : LT key x = !v := by
  unfold bey at h
  rw [e] at h
  dsimp only at h
  rw [if_neg (by decide)] at h
  rw [← h]; simp
theorem bey_t {key x : Keyed} {arr : Array Keyed} {base i : Nat} {v : Bool} (h : bey LT true key arr base i = v) (e : arr[base + i]? = some x) : LT x key = v := by
  unfold bey at h
  rw [e] at h
  dsimp only at h
  rw [if_pos rfl] at h
  exact h
theorem so_of {arr : Array Keyed} (sa : arr.toList.Pairwise (leO LT)) (base n : Nat) (hn : base + n ≤ arr.size) : ∀ i j x y, i < j → j < n → arr[base + i]? = some x → arr[base + j]? = some y → leO LT x y := by
  intro i j x y hij hj e1 e2
  obtain ⟨h1, rfl⟩ := Array.getElem?_eq_some_iff.mp e1
  obtain ⟨h2, rfl⟩ := Array.getElem?_eq_some_iff.mp e2
  have := List.pairwise_iff_getElem.mp sa (base + i) (base + j) (by simpa using h1) (by simpa using h2) (by omega)
  simpa using this
end
/-- but for minGallop the same -/
structure Sg (st st' : SortSt) : Prop where
  kind : kindOf st' = kindOf st
  arr : arrOf st' = arrOf st
  pend : pendingOf st' = pendingOf st
  failed : failedOf st' = failedOf st
theorem Sg.refl (st : SortSt) : Sg st st := ⟨rfl, rfl, rfl, rfl⟩
theorem Sg.set {st st' : SortSt} (h : Sg st st') (g : Nat) : Sg st (SortSt.mk' (kindOf st') (arrOf st') (pendingOf st') g (failedOf st')) := ⟨h.kind, h.arr, h.pend, h.failed⟩
theorem loEnd {S : Keyed → Prop} {LT : Keyed → Keyed → Bool} {a b out : Array Keyed} {ia ib i j : Nat} (L : Lo S LT a b out ia ib) (h1 : ia + 1 < a.size) (h2 : ib < b.size) (h3 : 1 + i + 1 + (j + 1) ≤ out.size) : ia + 1 < a.size ∧ ib < b.size ∧ 1 + i + 1 + (j + 1) ≤ out.size := ⟨h1, h2, h3⟩
section
variable {prog : Program} {w : World} {A : Around} {E : Value → Shared → Prop} {s : Shared} {κ : SortKind} {LT : Keyed → Keyed → Bool} {S : Keyed → Prop}
theorem wpS_mergeLo (o : Ord S LT) (hl : LtIs prog w A E s κ S LT) {a b : Array Keyed} {st : SortSt} {Q : Array Keyed → SortSt → Prop} (hs : kindOf st = κ) (ha : ∀ x ∈ a.toList, S x) (hb : ∀ x ∈ b.toList, S x) (sa : a.toList.Pairwise (leO LT)) (sb : b.toList.Pairwise (leO LT)) {x0 y0 : Keyed} (ea : a[0]? = some x0) (eb : b[0]? = some y0) (e0 : LT y0 x0 = true)
    (hlast : ∀ x, a[a.size - 1]? = some x → ∀ y ∈ b.toList, leO LT y x) (h : ∀ r st', Sg st st' → Mg LT a b r → Q r st') : wpS (model prog w) A E s (mergeLo' a b) Q st := by
  have hA : ∀ (j : Nat) (x : Keyed), a[j]? = some x → S x := fun j x e => ha x (mem_at e)
  have hB : ∀ (j : Nat) (x : Keyed), b[j]? = some x → S x := fun j x e => hb x (mem_at e)
  have ha0 := (Array.getElem?_eq_some_iff.mp ea).1
  have hb0 := (Array.getElem?_eq_some_iff.mp eb).1
  have at_ : ∀ {c : Array Keyed} {i : Nat}, i < c.size → ∃ x, c[i]? = some x := fun {c i} hi => ⟨c[i], Array.getElem?_eq_getElem hi⟩
  have L0 : Lo S LT a b #[] 0 0 := ⟨⟨by simp, .nil, by simpa using sa, by simpa using sb, fun x hx => by simp at hx, fun x hx => (List.mem_append.mp hx).elim (ha x) (hb x)⟩, rfl, Nat.zero_le _, Nat.zero_le _⟩
  have L1 : Lo S LT a b #[y0] 0 1 := L0.pushB o ea eb e0
  unfold mergeLo'
  k_delta "mergeLo"
  refine wpS_bind (wpS_lift (wpAny_rule ⟨rfl, ?_⟩))
  dsimp only
  refine wpS_bind (wpS_elem eb ?_)
  by_cases hb1 : 1 = b.size
  · rw [if_pos (by simpa using hb1)]
    exact wpS_pure (h _ _ (Sg.refl _) (L1.endB hb1))
  rw [if_neg (by simpa using hb1)]
  by_cases ha1 : 0 + 1 = a.size
  · rw [if_pos (by simpa using ha1)]
    exact wpS_pure (h _ _ (Sg.refl _) (L1.lastA ha1 hlast))
  rw [if_neg (by simpa using ha1)]
  refine wpS_bind (wpS_get ?_)
  refine wpS_bind (wpS_mono (wpS_forRange (I := fun i c st' => Sg st st' ∧ ∃ out ia ib mg, c = (none, out, ia, ib, mg) ∧ Lo S LT a b out ia ib ∧ ia + 1 < a.size ∧ ib < b.size ∧ 1 + i ≤ out.size)
    (Q := fun c st' => Sg st st' ∧ ∃ r z, c = (some r, z) ∧ Mg LT a b r) ?step ?fin ⟨Sg.refl _, _, _, _, _, rfl, L1, by omega, by omega, Nat.le_refl 1⟩) ?post)
  case fin =>
    rintro c st' ⟨g, out, ia, ib, mg, rfl, L, h1, h2, h3⟩
    have := L.sz
    omega
  case post =>
    rintro c st' ⟨g, r, z, rfl, m⟩
    exact wpS_pure (h _ _ g m)
  rintro i c st' _ hi ⟨g, out, ia, ib, mg, rfl, L, h1, h2, h3⟩
  dsimp only
  refine wpS_bind (wpS_mono (wpS_forRange (I := fun j c st'' => st'' = st' ∧ ∃ out ia ib ac bc, c = (none, out, ia, ib, ac, bc) ∧ Lo S LT a b out ia ib ∧ ia + 1 < a.size ∧ ib < b.size ∧ 1 + i + j ≤ out.size)
    (Q := fun c st'' => st'' = st' ∧ ((∃ r z, c = (some r, z) ∧ Mg LT a b r) ∨ ∃ out ia ib ac bc, c = (none, out, ia, ib, ac, bc) ∧ Lo S LT a b out ia ib ∧ ia + 1 < a.size ∧ ib < b.size ∧ 1 + i + 1 ≤ out.size)) ?_ ?_ ⟨rfl, _, _, _, _, _, rfl, L, h1, h2, h3⟩) ?_)
  · rintro j c st'' _ hj ⟨rfl, out, ia, ib, ac, bc, rfl, L, h1, h2, h3⟩
    dsimp only
    obtain ⟨x, ex⟩ := at_ (c := a) (i := ia) (by omega)
    obtain ⟨y, ey⟩ := at_ (c := b) h2
    have hsz := L.sz
    refine wpS_bind (wpS_elem ey (wpS_bind (wpS_elem ex (wpS_bind (hl y x _ _ (hB _ _ ey) (hA _ _ ex) (g.kind.trans hs) ?_)))))
    dsimp only
    cases e : LT y x with
    | true =>
      rw [if_pos rfl]
      refine wpS_bind (wpS_elem ey ?_)
      have L' := L.pushB o ex ey e
      have hs' := L'.sz
      by_cases hq : ib + 1 = b.size
      · rw [if_pos (by simpa using hq)]
        exact wpS_pure ⟨rfl, .inl ⟨_, _, rfl, L'.endB hq⟩⟩
      · rw [if_neg (by simpa using hq)]
        split
        · exact wpS_pure ⟨rfl, .inr ⟨_, _, _, _, _, rfl, L', h1, by omega, by omega⟩⟩
        · exact wpS_pure ⟨rfl, _, _, _, _, _, rfl, L', h1, by omega, by omega⟩
    | false =>
      rw [if_neg (by decide)]
      refine wpS_bind (wpS_elem ex ?_)
      have L' := L.pushA o ex ey e
      have hs' := L'.sz
      by_cases hq : ia + 1 + 1 = a.size
      · rw [if_pos (by simpa using hq)]
        exact wpS_pure ⟨rfl, .inl ⟨_, _, rfl, L'.lastA hq hlast⟩⟩
      · rw [if_neg (by simpa using hq)]
        split
        · exact wpS_pure ⟨rfl, .inr ⟨_, _, _, _, _, rfl, L', by omega, h2, by omega⟩⟩
        · exact wpS_pure ⟨rfl, _, _, _, _, _, rfl, L', by omega, h2, by omega⟩
  · rintro c st'' ⟨rfl, out, ia, ib, ac, bc, rfl, L, h1, h2, h3⟩
    have := L.sz
    omega
  clear L h1 h2 h3
  rintro c st'' ⟨rfl, ⟨r, ⟨z1, z2, z3, z4, z5⟩, rfl, m⟩ | ⟨out, ia, ib, ac, bc, rfl, L, h1, h2, h3⟩⟩
  · exact wpS_pure ⟨g, _, _, rfl, m⟩
  dsimp only
  refine wpS_bind (wpS_lift (wpAny_rule ⟨rfl, ?_⟩))
  refine wpS_bind (wpS_mono (wpS_forRange (I := fun j c st'' => Sg st st'' ∧ ∃ out ia ib mg ac bc, c = (none, out, ia, ib, mg, ac, bc) ∧ Lo S LT a b out ia ib ∧ ia + 1 < a.size ∧ ib < b.size ∧ 1 + i + 1 + j ≤ out.size)
    (Q := fun c st'' => Sg st st'' ∧ ((∃ r z, c = (some r, z) ∧ Mg LT a b r) ∨ ∃ out ia ib mg ac bc, c = (none, out, ia, ib, mg, ac, bc) ∧ Lo S LT a b out ia ib ∧ ia + 1 < a.size ∧ ib < b.size ∧ 1 + i + 1 ≤ out.size)) ?_ ?_ ⟨g, _, _, _, _, _, _, rfl, L, h1, h2, h3⟩) ?_)
  · clear g L h1 h2 h3
    rintro j c st'' _ hj ⟨g, out, ia, ib, mg, ac, bc, rfl, L, h1, h2, h3⟩
    dsimp only
    have hsz := L.sz
    obtain ⟨y, ey⟩ := at_ (c := b) h2
    by_cases hm : mg > 1
    all_goals
      first | rw [if_pos hm] | rw [if_neg hm]
      refine wpS_bind (wpS_modify ?_)
      refine wpS_bind (wpS_elem ey ?_)
      refine wpS_bind (wpS_gallop hl (hB _ _ ey) hA (by omega) (by omega) (g.kind.trans hs) (bey_mono o (hB _ _ ey) hA (by omega) (so_of sa _ _ (by omega))) fun k hk k1 k2 => ?_)
      dsimp only
      have hL : Lo S LT a b (out ++ a.extract ia (ia + k)) (ia + k) ib := L.takeA o (by omega) ey fun i x hi e => bey_f (k1 i hi) e
      by_cases hk0 : k > 0
      · rw [if_pos hk0]
        by_cases hq : ia + k + 1 = a.size
        · rw [if_pos (by simpa using hq)]
          exact wpS_pure ⟨g.set _, .inl ⟨_, _, rfl, hL.lastA hq hlast⟩⟩
        rw [if_neg (by simpa using hq)]
        by_cases hq2 : ia + k = a.size
        · rw [if_pos (by simpa using hq2)]
          exact wpS_pure ⟨g.set _, .inl ⟨_, _, rfl, hL.endA hq2⟩⟩
        rw [if_neg (by simpa using hq2)]
        obtain ⟨x, ex⟩ := at_ (c := a) (i := ia + k) (by omega)
        refine wpS_bind (wpS_elem ey ?_)
        have L2 := hL.pushB o ex ey (bey_f (k2 k (Nat.le_refl _) (by omega)) ex)
        have z2 := L2.sz
        have z1 := hL.sz
        by_cases q2 : ib + 1 = b.size
        · rw [if_pos (by simpa using q2)]
          exact wpS_pure ⟨g.set _, .inl ⟨_, _, rfl, L2.endB q2⟩⟩
        rw [if_neg (by simpa using q2)]
        refine wpS_bind (wpS_elem ex ?_)
        refine wpS_bind (wpS_gallop hl (hA _ _ ex) hB (by omega) (by omega) (g.kind.trans hs) (bey_mono o (hA _ _ ex) hB (by omega) (so_of sb _ _ (by omega))) fun k' hk' k3 k4 => ?_)
        dsimp only
        have L3 := L2.takeB (k := k') o (by omega) ex fun i y hi e => bey_t (k3 i hi) e
        have z3 := L3.sz
        by_cases hk1 : k' > 0
        · rw [if_pos hk1]
          by_cases q3 : ib + 1 + k' = b.size
          · rw [if_pos (by simpa using q3)]
            exact wpS_pure ⟨g.set _, .inl ⟨_, _, rfl, L3.endB q3⟩⟩
          rw [if_neg (by simpa using q3)]
          obtain ⟨y', ey'⟩ := at_ (c := b) (i := ib + 1 + k') (by omega)
          refine wpS_bind (wpS_elem ex ?_)
          have L4 := L3.pushA o ex ey' (bey_t (k4 k' (Nat.le_refl _) (by omega)) ey')
          have z4 := L4.sz
          by_cases q4 : ia + k + 1 + 1 = a.size
          · rw [if_pos (by simpa using q4)]
            exact wpS_pure ⟨g.set _, .inl ⟨_, _, rfl, L4.lastA q4 hlast⟩⟩
          rw [if_neg (by simpa using q4)]
          have en := loEnd (i := i) (j := j) L4 (by omega) (by omega) (by omega)
          by_cases q5 : (decide (k < 7) && decide (k' < 7)) = true
          · rw [if_pos q5]
            exact wpS_pure ⟨g.set _, .inr ⟨_, _, _, _, _, _, rfl, L4, en.1, en.2.1, Nat.le_trans (Nat.le_add_right _ _) en.2.2⟩⟩
          rw [if_neg q5]
          exact wpS_pure ⟨g.set _, _, _, _, _, _, _, rfl, L4, en.1, en.2.1, en.2.2⟩
        · rw [if_neg hk1]
          have k0 : k' = 0 := by omega
          subst k0
          obtain ⟨y', ey'⟩ := at_ (c := b) (i := ib + 1) (by omega)
          refine wpS_bind (wpS_elem ex ?_)
          have L4 := L2.pushA o ex ey' (bey_t (k4 0 (Nat.le_refl _) (by omega)) ey')
          have z4 := L4.sz
          by_cases q4 : ia + k + 1 + 1 = a.size
          · rw [if_pos (by simpa using q4)]
            exact wpS_pure ⟨g.set _, .inl ⟨_, _, rfl, L4.lastA q4 hlast⟩⟩
          rw [if_neg (by simpa using q4)]
          have en := loEnd (i := i) (j := j) L4 (by omega) (by omega) (by omega)
          by_cases q5 : (decide (k < 7) && decide (0 < 7)) = true
          · rw [if_pos q5]
            exact wpS_pure ⟨g.set _, .inr ⟨_, _, _, _, _, _, rfl, L4, en.1, en.2.1, Nat.le_trans (Nat.le_add_right _ _) en.2.2⟩⟩
          rw [if_neg q5]
          exact wpS_pure ⟨g.set _, _, _, _, _, _, _, rfl, L4, en.1, en.2.1, en.2.2⟩
      · rw [if_neg hk0]
        have k0 : k = 0 := by omega
        subst k0
        obtain ⟨x, ex⟩ := at_ (c := a) (i := ia) (by omega)
        refine wpS_bind (wpS_elem ey ?_)
        have L2 := L.pushB o ex ey (bey_f (k2 0 (Nat.le_refl _) (by omega)) ex)
        have z2 := L2.sz
        have z1 := L.sz
        by_cases q2 : ib + 1 = b.size
        · rw [if_pos (by simpa using q2)]
          exact wpS_pure ⟨g.set _, .inl ⟨_, _, rfl, L2.endB q2⟩⟩
        rw [if_neg (by simpa using q2)]
        refine wpS_bind (wpS_elem ex ?_)
        refine wpS_bind (wpS_gallop hl (hA _ _ ex) hB (by omega) (by omega) (g.kind.trans hs) (bey_mono o (hA _ _ ex) hB (by omega) (so_of sb _ _ (by omega))) fun k' hk' k3 k4 => ?_)
        dsimp only
        have L3 := L2.takeB (k := k') o (by omega) ex fun i y hi e => bey_t (k3 i hi) e
        have z3 := L3.sz
        by_cases hk1 : k' > 0
        · rw [if_pos hk1]
          by_cases q3 : ib + 1 + k' = b.size
          · rw [if_pos (by simpa using q3)]
            exact wpS_pure ⟨g.set _, .inl ⟨_, _, rfl, L3.endB q3⟩⟩
          rw [if_neg (by simpa using q3)]
          obtain ⟨y', ey'⟩ := at_ (c := b) (i := ib + 1 + k') (by omega)
          refine wpS_bind (wpS_elem ex ?_)
          have L4 := L3.pushA o ex ey' (bey_t (k4 k' (Nat.le_refl _) (by omega)) ey')
          have z4 := L4.sz
          by_cases q4 : ia + 1 + 1 = a.size
          · rw [if_pos (by simpa using q4)]
            exact wpS_pure ⟨g.set _, .inl ⟨_, _, rfl, L4.lastA q4 hlast⟩⟩
          rw [if_neg (by simpa using q4)]
          have en := loEnd (i := i) (j := j) L4 (by omega) (by omega) (by omega)
          by_cases q5 : (decide (0 < 7) && decide (k' < 7)) = true
          · rw [if_pos q5]
            exact wpS_pure ⟨g.set _, .inr ⟨_, _, _, _, _, _, rfl, L4, en.1, en.2.1, Nat.le_trans (Nat.le_add_right _ _) en.2.2⟩⟩
          rw [if_neg q5]
          exact wpS_pure ⟨g.set _, _, _, _, _, _, _, rfl, L4, en.1, en.2.1, en.2.2⟩
        · rw [if_neg hk1]
          have k0 : k' = 0 := by omega
          subst k0
          obtain ⟨y', ey'⟩ := at_ (c := b) (i := ib + 1) (by omega)
          refine wpS_bind (wpS_elem ex ?_)
          have L4 := L2.pushA o ex ey' (bey_t (k4 0 (Nat.le_refl _) (by omega)) ey')
          have z4 := L4.sz
          by_cases q4 : ia + 1 + 1 = a.size
          · rw [if_pos (by simpa using q4)]
            exact wpS_pure ⟨g.set _, .inl ⟨_, _, rfl, L4.lastA q4 hlast⟩⟩
          rw [if_neg (by simpa using q4)]
          have en := loEnd (i := i) (j := j) L4 (by omega) (by omega) (by omega)
          by_cases q5 : (decide (0 < 7) && decide (0 < 7)) = true
          · rw [if_pos q5]
            exact wpS_pure ⟨g.set _, .inr ⟨_, _, _, _, _, _, rfl, L4, en.1, en.2.1, Nat.le_trans (Nat.le_add_right _ _) en.2.2⟩⟩
          rw [if_neg q5]
          exact wpS_pure ⟨g.set _, _, _, _, _, _, _, rfl, L4, en.1, en.2.1, en.2.2⟩
  · rintro c st'' ⟨g, out, ia, ib, mg, ac, bc, rfl, L, h1, h2, h3⟩
    have := L.sz
    omega
  · rintro c st'' ⟨g, ⟨r, ⟨z1, z2, z3, z4, z5, z6⟩, rfl, m⟩ | ⟨out, ia, ib, mg, ac, bc, rfl, L, h1, h2, h3⟩⟩
    · exact wpS_pure ⟨g, _, _, rfl, m⟩
    · dsimp only
      exact wpS_bind (wpS_modify (wpS_pure ⟨g.set _, _, _, _, _, rfl, L, h1, h2, by omega⟩))
end
end L2

namespace L2
open PySem PySem.Spec PyProof.Rows
/-! ### the merge from above -/
theorem Ord.flip {α : Type} {S : α → Prop} {LT : α → α → Bool} (o : Ord S LT) : Ord S (fun x y => LT y x) :=
  ⟨fun x y hx hy h => o.asym y x hy hx h, fun x y z hx hy hz h1 h2 => o.trans z y x hz hy hx h2 h1⟩
theorem take_at {α : Type} {a : Array α} {n : Nat} {x : α} (h : 1 ≤ n) (e : a[n - 1]? = some x) : (a.toList.take n).reverse = x :: (a.toList.take (n - 1)).reverse := by
  obtain ⟨m, rfl⟩ : ∃ m, n = m + 1 := ⟨n - 1, by omega⟩
  obtain ⟨hm, e⟩ := Array.getElem?_eq_some_iff.mp e
  simp only [Nat.add_sub_cancel] at hm e ⊢
  rw [List.take_succ_eq_append_getElem (by simpa using hm), List.reverse_append]
  simp [e]
structure Hi (S : Keyed → Prop) (LT : Keyed → Keyed → Bool) (a b : Array Keyed) (na nb : Nat) (out : Array Keyed) : Prop where
  mi : MI S (fun x y => LT y x) (a.toList ++ b.toList) out.toList (b.toList.take nb).reverse (a.toList.take na).reverse
  sz : out.size + na + nb = a.size + b.size
  ha : na ≤ a.size
  hb : nb ≤ b.size
section
variable {S : Keyed → Prop} {LT : Keyed → Keyed → Bool} {a b out : Array Keyed} {na nb k : Nat} {x y : Keyed}
theorem Hi.pushA (o : Ord S LT) (h : Hi S LT a b na nb out) (ha1 : 1 ≤ na) (hb1 : 1 ≤ nb) (ea : a[na - 1]? = some x) (eb : b[nb - 1]? = some y) (e : LT y x = true) : Hi S LT a b (na - 1) nb (out.push x) := by
  have m := h.mi
  rw [take_at ha1 ea, take_at hb1 eb] at m
  have m' := m.pushB o.flip e
  refine ⟨?_, by rw [Array.size_push]; have := h.sz; omega, by have := h.ha; omega, h.hb⟩
  rw [Array.toList_push, take_at hb1 eb]
  exact m'
theorem Hi.pushB (o : Ord S LT) (h : Hi S LT a b na nb out) (ha1 : 1 ≤ na) (hb1 : 1 ≤ nb) (ea : a[na - 1]? = some x) (eb : b[nb - 1]? = some y) (e : LT y x = false) : Hi S LT a b na (nb - 1) (out.push y) := by
  have m := h.mi
  rw [take_at ha1 ea, take_at hb1 eb] at m
  have m' := m.pushA o.flip e
  refine ⟨?_, by rw [Array.size_push]; have := h.sz; omega, h.ha, by have := h.hb; omega⟩
  rw [Array.toList_push, take_at ha1 ea]
  exact m'
theorem take_split {α : Type} (a : Array α) {k n : Nat} (h : k ≤ n) : (a.toList.take n).reverse = (a.extract k n).reverse.toList ++ (a.toList.take k).reverse := by
  have e : a.toList.take n = a.toList.take k ++ (a.extract k n).toList := by
    rw [Array.toList_extract, List.extract_eq_take_drop]
    have := List.take_append_drop k (a.toList.take n)
    rw [List.take_take, Nat.min_eq_left h, List.drop_take] at this
    exact this.symm
  rw [e, List.reverse_append, Array.toList_reverse]
theorem mem_ext2 {α : Type} {a : Array α} {k n : Nat} {x : α} (h : x ∈ (a.extract k n).reverse.toList) : ∃ j, k ≤ j ∧ j < n ∧ a[j]? = some x := by
  rw [Array.toList_reverse, List.mem_reverse, Array.mem_toList_iff] at h
  obtain ⟨j, hj, e⟩ := Array.getElem_of_mem h
  rw [Array.size_extract] at hj
  refine ⟨k + j, by omega, by omega, ?_⟩
  rw [← e, Array.getElem_extract]
  exact Array.getElem?_eq_getElem _
theorem Hi.takeA (o : Ord S LT) (h : Hi S LT a b na nb out) (hk : k ≤ na) (hb1 : 1 ≤ nb) (eb : b[nb - 1]? = some y) (c : ∀ i x, k ≤ i → i < na → a[i]? = some x → LT y x = true) : Hi S LT a b k nb (out ++ (a.extract k na).reverse) := by
  have m := h.mi
  rw [take_split a hk] at m
  refine ⟨?_, by rw [Array.size_append, Array.size_reverse, Array.size_extract]; have := h.sz; have := h.ha; omega, by have := h.ha; omega, h.hb⟩
  rw [Array.toList_append]
  refine m.takeB fun x hx z hz => ?_
  obtain ⟨i, i1, i2, e⟩ := mem_ext2 hx
  have sx : S x := m.inB (List.mem_append_left _ hx)
  have sy : S y := m.inA (by rw [take_at hb1 eb]; exact List.mem_cons_self ..)
  have sz := m.inA hz
  have cx := o.asym y x sy sx (c i x i1 i2 e)
  have sb := m.sa
  rw [take_at hb1 eb] at hz sb
  rcases List.mem_cons.mp hz with rfl | hz'
  · exact cx
  · exact o.trans z y x sz sy sx ((List.pairwise_cons.mp sb).1 z hz') cx
theorem Hi.takeB (o : Ord S LT) (h : Hi S LT a b na nb out) (hk : k ≤ nb) (ha1 : 1 ≤ na) (ea : a[na - 1]? = some x) (c : ∀ i y, k ≤ i → i < nb → b[i]? = some y → LT y x = false) : Hi S LT a b na k (out ++ (b.extract k nb).reverse) := by
  have m := h.mi
  rw [take_split b hk] at m
  refine ⟨?_, by rw [Array.size_append, Array.size_reverse, Array.size_extract]; have := h.sz; have := h.hb; omega, h.ha, by have := h.hb; omega⟩
  rw [Array.toList_append]
  refine m.takeA fun y hy z hz => ?_
  obtain ⟨i, i1, i2, e⟩ := mem_ext2 hy
  have sy : S y := m.inA (List.mem_append_left _ hy)
  have sx : S x := m.inB (by rw [take_at ha1 ea]; exact List.mem_cons_self ..)
  have sz := m.inB hz
  have cy := c i y i1 i2 e
  have sa := m.sb
  rw [take_at ha1 ea] at hz sa
  rcases List.mem_cons.mp hz with rfl | hz'
  · exact cy
  · exact o.trans z x y sz sx sy ((List.pairwise_cons.mp sa).1 z hz') cy
theorem ext0 {α : Type} (a : Array α) (n : Nat) : (a.extract 0 n).toList = a.toList.take n := by
  rw [Array.toList_extract, List.extract_eq_take_drop, List.drop_zero, Nat.sub_zero]
theorem mg_rev {l : List Keyed} {r : Array Keyed} (e : r.toList = l.reverse) (p : l.Perm (a.toList ++ b.toList)) (s : l.Pairwise (leO fun x y => LT y x)) : Mg LT a b r := by
  unfold Mg
  rw [e]
  exact ⟨l.reverse_perm.trans p, List.pairwise_reverse.mpr s⟩
theorem Hi.endA (h : Hi S LT a b na nb out) (e : na = 0) : Mg LT a b (a.extract 0 na ++ b.extract 0 nb ++ out.reverse) := by
  have m := h.mi
  subst e
  rw [List.take_zero, List.reverse_nil] at m
  obtain ⟨p, s⟩ := m.endB
  refine mg_rev ?_ p s
  rw [Array.toList_append, Array.toList_append, ext0, ext0, Array.toList_reverse, List.take_zero, List.nil_append, List.reverse_append, List.reverse_reverse]
theorem Hi.endB (h : Hi S LT a b na nb out) (e : nb = 0) : Mg LT a b (a.extract 0 na ++ b.extract 0 nb ++ out.reverse) := by
  have m := h.mi
  subst e
  rw [List.take_zero, List.reverse_nil] at m
  obtain ⟨p, s⟩ := m.endA
  refine mg_rev ?_ p s
  rw [Array.toList_append, Array.toList_append, ext0, ext0, Array.toList_reverse, List.take_zero, List.append_nil, List.reverse_append, List.reverse_reverse]
theorem Hi.firstB (h : Hi S LT a b na nb out) (e : nb = 1) (hl : ∀ y, b[0]? = some y → ∀ x ∈ a.toList, LT x y = false) : Mg LT a b (b.extract 0 nb ++ a.extract 0 na ++ out.reverse) := by
  have m := h.mi
  have hb := h.hb
  subst e
  have eb : b[1 - 1]? = some (b[0]'(by omega)) := Array.getElem?_eq_getElem _
  have eb' : (b.toList.take 1).reverse = [b[0]'(by omega)] := by rw [take_at (Nat.le_refl 1) eb]; simp
  rw [eb'] at m
  obtain ⟨p, s⟩ := m.lastA fun x hx => hl _ eb x (List.mem_of_mem_take (List.mem_reverse.mp hx))
  refine mg_rev ?_ p s
  rw [Array.toList_append, Array.toList_append, ext0, ext0, Array.toList_reverse, List.reverse_append, List.reverse_append, List.reverse_reverse, ← eb', List.reverse_reverse, List.append_assoc]
theorem bey_f0 {key x : Keyed} {arr : Array Keyed} {i : Nat} {v : Bool} (h : bey LT false key arr 0 i = v) (e : arr[i]? = some x) : LT key x = !v := bey_f h (by rw [Nat.zero_add]; exact e)
theorem bey_t0 {key x : Keyed} {arr : Array Keyed} {i : Nat} {v : Bool} (h : bey LT true key arr 0 i = v) (e : arr[i]? = some x) : LT x key = v := bey_t h (by rw [Nat.zero_add]; exact e)
end
theorem hiEnd {S : Keyed → Prop} {LT : Keyed → Keyed → Bool} {a b out : Array Keyed} {na nb i j : Nat} (L : Hi S LT a b na nb out) (h1 : 1 ≤ na) (h2 : 2 ≤ nb) (h3 : 1 + i + 1 + (j + 1) ≤ out.size) : 1 ≤ na ∧ 2 ≤ nb ∧ 1 + i + 1 + (j + 1) ≤ out.size := ⟨h1, h2, h3⟩
section
variable {prog : Program} {w : World} {A : Around} {E : Value → Shared → Prop} {s : Shared} {κ : SortKind} {LT : Keyed → Keyed → Bool} {S : Keyed → Prop}
theorem wpS_mergeHi (o : Ord S LT) (hl : LtIs prog w A E s κ S LT) {a b : Array Keyed} {st : SortSt} {Q : Array Keyed → SortSt → Prop} (hs : kindOf st = κ) (ha : ∀ x ∈ a.toList, S x) (hb : ∀ x ∈ b.toList, S x) (sa : a.toList.Pairwise (leO LT)) (sb : b.toList.Pairwise (leO LT)) {x0 y0 : Keyed} (ea : a[a.size - 1]? = some x0) (eb : b[b.size - 1]? = some y0) (e0 : LT y0 x0 = true)
    (hlast : ∀ y, b[0]? = some y → ∀ x ∈ a.toList, LT x y = false) (h : ∀ r st', Sg st st' → Mg LT a b r → Q r st') : wpS (model prog w) A E s (mergeHi' a b) Q st := by
  have hA : ∀ (j : Nat) (x : Keyed), a[j]? = some x → S x := fun j x e => ha x (mem_at e)
  have hB : ∀ (j : Nat) (x : Keyed), b[j]? = some x → S x := fun j x e => hb x (mem_at e)
  have ha0 := (Array.getElem?_eq_some_iff.mp ea).1
  have hb0 := (Array.getElem?_eq_some_iff.mp eb).1
  have at_ : ∀ {c : Array Keyed} {i : Nat}, i < c.size → ∃ x, c[i]? = some x := fun {c i} hi => ⟨c[i], Array.getElem?_eq_getElem hi⟩
  have L0 : Hi S LT a b a.size b.size #[] := by
    refine ⟨⟨?_, .nil, ?_, ?_, fun x hx => by simp at hx, fun x hx => (List.mem_append.mp hx).elim (ha x) (hb x)⟩, by simp, Nat.le_refl _, Nat.le_refl _⟩
    · have e1 : a.toList.take a.size = a.toList := List.take_of_length_le (by simp)
      have e2 : b.toList.take b.size = b.toList := List.take_of_length_le (by simp)
      rw [e1, e2]
      show ([] ++ (b.toList.reverse ++ a.toList.reverse)).Perm _
      rw [List.nil_append, ← List.reverse_append]
      exact List.reverse_perm _
    · have e2 : b.toList.take b.size = b.toList := List.take_of_length_le (by simp)
      rw [e2]
      exact List.pairwise_reverse.mpr sb
    · have e1 : a.toList.take a.size = a.toList := List.take_of_length_le (by simp)
      rw [e1]
      exact List.pairwise_reverse.mpr sa
  have L1 : Hi S LT a b (a.size - 1) b.size #[x0] := L0.pushA o (by omega) (by omega) ea eb e0
  unfold mergeHi'
  k_delta "mergeHi"
  refine wpS_bind (wpS_lift (wpAny_rule ⟨rfl, ?_⟩))
  dsimp only
  refine wpS_bind (wpS_elem ea ?_)
  by_cases ha1 : a.size - 1 = 0
  · rw [if_pos (by simpa using ha1)]
    exact wpS_pure (h _ _ (Sg.refl _) (L1.endA ha1))
  rw [if_neg (by simpa using ha1)]
  by_cases hb1 : b.size = 1
  · rw [if_pos (by simpa using hb1)]
    exact wpS_pure (h _ _ (Sg.refl _) (L1.firstB hb1 hlast))
  rw [if_neg (by simpa using hb1)]
  refine wpS_bind (wpS_get ?_)
  refine wpS_bind (wpS_mono (wpS_forRange (I := fun i c st' => Sg st st' ∧ ∃ na nb out mg, c = (none, na, nb, out, mg) ∧ Hi S LT a b na nb out ∧ 1 ≤ na ∧ 2 ≤ nb ∧ 1 + i ≤ out.size)
    (Q := fun c st' => Sg st st' ∧ ∃ r z, c = (some r, z) ∧ Mg LT a b r) ?step ?fin ⟨Sg.refl _, _, _, _, _, rfl, L1, by omega, by omega, Nat.le_refl 1⟩) ?post)
  case fin =>
    rintro c st' ⟨g, na, nb, out, mg, rfl, L, h1, h2, h3⟩
    have := L.sz
    omega
  case post =>
    rintro c st' ⟨g, r, z, rfl, m⟩
    exact wpS_pure (h _ _ g m)
  rintro i c st' _ hi ⟨g, na, nb, out, mg, rfl, L, h1, h2, h3⟩
  dsimp only
  refine wpS_bind (wpS_mono (wpS_forRange (I := fun j c st'' => st'' = st' ∧ ∃ na nb out ac bc, c = (none, na, nb, out, ac, bc) ∧ Hi S LT a b na nb out ∧ 1 ≤ na ∧ 2 ≤ nb ∧ 1 + i + j ≤ out.size)
    (Q := fun c st'' => st'' = st' ∧ ((∃ r z, c = (some r, z) ∧ Mg LT a b r) ∨ ∃ na nb out ac bc, c = (none, na, nb, out, ac, bc) ∧ Hi S LT a b na nb out ∧ 1 ≤ na ∧ 2 ≤ nb ∧ 1 + i + 1 ≤ out.size)) ?_ ?_ ⟨rfl, _, _, _, _, _, rfl, L, h1, h2, h3⟩) ?_)
  · rintro j c st'' _ hj ⟨rfl, na, nb, out, ac, bc, rfl, L, h1, h2, h3⟩
    dsimp only
    have hna := L.ha
    have hnb := L.hb
    obtain ⟨x, ex⟩ := at_ (c := a) (i := na - 1) (by omega)
    obtain ⟨y, ey⟩ := at_ (c := b) (i := nb - 1) (by omega)
    have hsz := L.sz
    refine wpS_bind (wpS_elem ey (wpS_bind (wpS_elem ex (wpS_bind (hl y x _ _ (hB _ _ ey) (hA _ _ ex) (g.kind.trans hs) ?_)))))
    dsimp only
    cases e : LT y x with
    | true =>
      rw [if_pos rfl]
      refine wpS_bind (wpS_elem ex ?_)
      have L' := L.pushA o h1 (by omega) ex ey e
      have hs' := L'.sz
      by_cases hq : na - 1 = 0
      · rw [if_pos (by simpa using hq)]
        exact wpS_pure ⟨rfl, .inl ⟨_, _, rfl, L'.endA hq⟩⟩
      · rw [if_neg (by simpa using hq)]
        split
        · exact wpS_pure ⟨rfl, .inr ⟨_, _, _, _, _, rfl, L', by omega, h2, by omega⟩⟩
        · exact wpS_pure ⟨rfl, _, _, _, _, _, rfl, L', by omega, h2, by omega⟩
    | false =>
      rw [if_neg (by decide)]
      refine wpS_bind (wpS_elem ey ?_)
      have L' := L.pushB o h1 (by omega) ex ey e
      have hs' := L'.sz
      by_cases hq : nb - 1 = 1
      · rw [if_pos (by simpa using hq)]
        exact wpS_pure ⟨rfl, .inl ⟨_, _, rfl, L'.firstB hq hlast⟩⟩
      · rw [if_neg (by simpa using hq)]
        split
        · exact wpS_pure ⟨rfl, .inr ⟨_, _, _, _, _, rfl, L', h1, by omega, by omega⟩⟩
        · exact wpS_pure ⟨rfl, _, _, _, _, _, rfl, L', h1, by omega, by omega⟩
  · rintro c st'' ⟨rfl, na, nb, out, ac, bc, rfl, L, h1, h2, h3⟩
    have := L.sz
    omega
  clear L h1 h2 h3 ha1 hb1 ha0 hb0
  rintro c st'' ⟨rfl, ⟨r, ⟨z1, z2, z3, z4, z5⟩, rfl, m⟩ | ⟨na, nb, out, ac, bc, rfl, L, h1, h2, h3⟩⟩
  · exact wpS_pure ⟨g, _, _, rfl, m⟩
  dsimp only
  refine wpS_bind (wpS_lift (wpAny_rule ⟨rfl, ?_⟩))
  refine wpS_bind (wpS_mono (wpS_forRange (I := fun j c st'' => Sg st st'' ∧ ∃ na nb out mg ac bc, c = (none, na, nb, out, mg, ac, bc) ∧ Hi S LT a b na nb out ∧ 1 ≤ na ∧ 2 ≤ nb ∧ 1 + i + 1 + j ≤ out.size)
    (Q := fun c st'' => Sg st st'' ∧ ((∃ r z, c = (some r, z) ∧ Mg LT a b r) ∨ ∃ na nb out mg ac bc, c = (none, na, nb, out, mg, ac, bc) ∧ Hi S LT a b na nb out ∧ 1 ≤ na ∧ 2 ≤ nb ∧ 1 + i + 1 ≤ out.size)) ?_ ?_ ⟨g, _, _, _, _, _, _, rfl, L, h1, h2, h3⟩) ?_)
  · clear g L h1 h2 h3
    rintro j c st'' _ hj ⟨g, na, nb, out, mg, ac, bc, rfl, L, h1, h2, h3⟩
    dsimp only
    have hsz := L.sz
    have hna := L.ha
    have hnb := L.hb
    obtain ⟨y, ey⟩ := at_ (c := b) (i := nb - 1) (by omega)
    by_cases hm : mg > 1
    all_goals
      first | rw [if_pos hm] | rw [if_neg hm]
      refine wpS_bind (wpS_modify ?_)
      refine wpS_bind (wpS_elem ey ?_)
      refine wpS_bind (wpS_gallop hl (hB _ _ ey) hA (by omega) (by omega) (g.kind.trans hs) (bey_mono o (hB _ _ ey) hA (by omega) (so_of sa _ _ (by omega))) fun k hk k1 k2 => ?_)
      dsimp only
      have hL : Hi S LT a b k nb (out ++ (a.extract k na).reverse) := L.takeA o hk (by omega) ey fun i x i1 i2 e => bey_f0 (k2 i i1 i2) e
      by_cases hk0 : na - k > 0
      · rw [if_pos hk0]
        by_cases hq : k = 0
        · rw [if_pos (by simpa using hq)]
          exact wpS_pure ⟨g.set _, .inl ⟨_, _, rfl, hL.endA hq⟩⟩
        rw [if_neg (by simpa using hq)]
        obtain ⟨x, ex⟩ := at_ (c := a) (i := k - 1) (by omega)
        refine wpS_bind (wpS_elem ey ?_)
        have L2 := hL.pushB o (by omega) (by omega) ex ey (bey_f0 (k1 (k - 1) (by omega)) ex)
        have z2 := L2.sz
        have z1 := hL.sz
        by_cases q2 : nb - 1 = 1
        · rw [if_pos (by simpa using q2)]
          exact wpS_pure ⟨g.set _, .inl ⟨_, _, rfl, L2.firstB q2 hlast⟩⟩
        rw [if_neg (by simpa using q2)]
        refine wpS_bind (wpS_elem ex ?_)
        refine wpS_bind (wpS_gallop hl (hA _ _ ex) hB (by omega) (by omega) (g.kind.trans hs) (bey_mono o (hA _ _ ex) hB (by omega) (so_of sb _ _ (by omega))) fun k' hk' k3 k4 => ?_)
        dsimp only
        have L3 := L2.takeB (k := k') o hk' (by omega) ex fun i y i1 i2 e => bey_t0 (k4 i i1 i2) e
        have z3 := L3.sz
        by_cases hk1 : nb - 1 - k' > 0
        · rw [if_pos hk1]
          by_cases q3 : k' = 1
          · rw [if_pos (by simpa using q3)]
            exact wpS_pure ⟨g.set _, .inl ⟨_, _, rfl, L3.firstB q3 hlast⟩⟩
          rw [if_neg (by simpa using q3)]
          by_cases q6 : k' = 0
          · rw [if_pos (by simpa using q6)]
            exact wpS_pure ⟨g.set _, .inl ⟨_, _, rfl, L3.endB q6⟩⟩
          rw [if_neg (by simpa using q6)]
          obtain ⟨y', ey'⟩ := at_ (c := b) (i := k' - 1) (by omega)
          refine wpS_bind (wpS_elem ex ?_)
          have L4 := L3.pushA o (by omega) (by omega) ex ey' (bey_t0 (k3 (k' - 1) (by omega)) ey')
          have z4 := L4.sz
          by_cases q4 : k - 1 = 0
          · rw [if_pos (by simpa using q4)]
            exact wpS_pure ⟨g.set _, .inl ⟨_, _, rfl, L4.endA q4⟩⟩
          rw [if_neg (by simpa using q4)]
          have en := hiEnd (i := i) (j := j) L4 (by omega) (by omega) (by omega)
          by_cases q5 : (decide (na - k < 7) && decide (nb - 1 - k' < 7)) = true
          · rw [if_pos q5]
            exact wpS_pure ⟨g.set _, .inr ⟨_, _, _, _, _, _, rfl, L4, en.1, en.2.1, Nat.le_trans (Nat.le_add_right _ _) en.2.2⟩⟩
          rw [if_neg q5]
          exact wpS_pure ⟨g.set _, _, _, _, _, _, _, rfl, L4, en.1, en.2.1, en.2.2⟩
        · rw [if_neg hk1]
          obtain ⟨y', ey'⟩ := at_ (c := b) (i := nb - 1 - 1) (by omega)
          refine wpS_bind (wpS_elem ex ?_)
          have L4 := L2.pushA o (by omega) (by omega) ex ey' (bey_t0 (k3 (nb - 1 - 1) (by omega)) ey')
          have z4 := L4.sz
          by_cases q4 : k - 1 = 0
          · rw [if_pos (by simpa using q4)]
            exact wpS_pure ⟨g.set _, .inl ⟨_, _, rfl, L4.endA q4⟩⟩
          rw [if_neg (by simpa using q4)]
          have en := hiEnd (i := i) (j := j) L4 (by omega) (by omega) (by omega)
          by_cases q5 : (decide (na - k < 7) && decide (nb - 1 - k' < 7)) = true
          · rw [if_pos q5]
            exact wpS_pure ⟨g.set _, .inr ⟨_, _, _, _, _, _, rfl, L4, en.1, en.2.1, Nat.le_trans (Nat.le_add_right _ _) en.2.2⟩⟩
          rw [if_neg q5]
          exact wpS_pure ⟨g.set _, _, _, _, _, _, _, rfl, L4, en.1, en.2.1, en.2.2⟩
      · rw [if_neg hk0]
        have k0 : k = na := by omega
        subst k0
        obtain ⟨x, ex⟩ := at_ (c := a) (i := k - 1) (by omega)
        refine wpS_bind (wpS_elem ey ?_)
        have L2 := L.pushB o (by omega) (by omega) ex ey (bey_f0 (k1 (k - 1) (by omega)) ex)
        have z2 := L2.sz
        have z1 := L.sz
        by_cases q2 : nb - 1 = 1
        · rw [if_pos (by simpa using q2)]
          exact wpS_pure ⟨g.set _, .inl ⟨_, _, rfl, L2.firstB q2 hlast⟩⟩
        rw [if_neg (by simpa using q2)]
        refine wpS_bind (wpS_elem ex ?_)
        refine wpS_bind (wpS_gallop hl (hA _ _ ex) hB (by omega) (by omega) (g.kind.trans hs) (bey_mono o (hA _ _ ex) hB (by omega) (so_of sb _ _ (by omega))) fun k' hk' k3 k4 => ?_)
        dsimp only
        have L3 := L2.takeB (k := k') o hk' (by omega) ex fun i y i1 i2 e => bey_t0 (k4 i i1 i2) e
        have z3 := L3.sz
        by_cases hk1 : nb - 1 - k' > 0
        · rw [if_pos hk1]
          by_cases q3 : k' = 1
          · rw [if_pos (by simpa using q3)]
            exact wpS_pure ⟨g.set _, .inl ⟨_, _, rfl, L3.firstB q3 hlast⟩⟩
          rw [if_neg (by simpa using q3)]
          by_cases q6 : k' = 0
          · rw [if_pos (by simpa using q6)]
            exact wpS_pure ⟨g.set _, .inl ⟨_, _, rfl, L3.endB q6⟩⟩
          rw [if_neg (by simpa using q6)]
          obtain ⟨y', ey'⟩ := at_ (c := b) (i := k' - 1) (by omega)
          refine wpS_bind (wpS_elem ex ?_)
          have L4 := L3.pushA o (by omega) (by omega) ex ey' (bey_t0 (k3 (k' - 1) (by omega)) ey')
          have z4 := L4.sz
          by_cases q4 : k - 1 = 0
          · rw [if_pos (by simpa using q4)]
            exact wpS_pure ⟨g.set _, .inl ⟨_, _, rfl, L4.endA q4⟩⟩
          rw [if_neg (by simpa using q4)]
          have en := hiEnd (i := i) (j := j) L4 (by omega) (by omega) (by omega)
          by_cases q5 : (decide (k - k < 7) && decide (nb - 1 - k' < 7)) = true
          · rw [if_pos q5]
            exact wpS_pure ⟨g.set _, .inr ⟨_, _, _, _, _, _, rfl, L4, en.1, en.2.1, Nat.le_trans (Nat.le_add_right _ _) en.2.2⟩⟩
          rw [if_neg q5]
          exact wpS_pure ⟨g.set _, _, _, _, _, _, _, rfl, L4, en.1, en.2.1, en.2.2⟩
        · rw [if_neg hk1]
          obtain ⟨y', ey'⟩ := at_ (c := b) (i := nb - 1 - 1) (by omega)
          refine wpS_bind (wpS_elem ex ?_)
          have L4 := L2.pushA o (by omega) (by omega) ex ey' (bey_t0 (k3 (nb - 1 - 1) (by omega)) ey')
          have z4 := L4.sz
          by_cases q4 : k - 1 = 0
          · rw [if_pos (by simpa using q4)]
            exact wpS_pure ⟨g.set _, .inl ⟨_, _, rfl, L4.endA q4⟩⟩
          rw [if_neg (by simpa using q4)]
          have en := hiEnd (i := i) (j := j) L4 (by omega) (by omega) (by omega)
          by_cases q5 : (decide (k - k < 7) && decide (nb - 1 - k' < 7)) = true
          · rw [if_pos q5]
            exact wpS_pure ⟨g.set _, .inr ⟨_, _, _, _, _, _, rfl, L4, en.1, en.2.1, Nat.le_trans (Nat.le_add_right _ _) en.2.2⟩⟩
          rw [if_neg q5]
          exact wpS_pure ⟨g.set _, _, _, _, _, _, _, rfl, L4, en.1, en.2.1, en.2.2⟩
  · rintro c st'' ⟨g, na, nb, out, mg, ac, bc, rfl, L, h1, h2, h3⟩
    have := L.sz
    omega
  · rintro c st'' ⟨g, ⟨r, ⟨z1, z2, z3, z4, z5, z6⟩, rfl, m⟩ | ⟨na, nb, out, mg, ac, bc, rfl, L, h1, h2, h3⟩⟩
    · exact wpS_pure ⟨g, _, _, rfl, m⟩
    · dsimp only
      exact wpS_bind (wpS_modify (wpS_pure ⟨g.set _, _, _, _, _, rfl, L, h1, h2, by omega⟩))
end
end L2

namespace L2
open PySem PySem.Spec PyProof.Rows
/-! ### two runs side by side, merged in their place -/
def SR (LT : Keyed → Keyed → Bool) (arr : Array Keyed) (lo hi : Nat) : Prop := ∀ i j x y, lo ≤ i → i < j → j < hi → arr[i]? = some x → arr[j]? = some y → leO LT x y
structure Mid (LT : Keyed → Keyed → Bool) (arr arr' : Array Keyed) (lo hi : Nat) : Prop where
  perm : arr'.toList.Perm arr.toList
  out : ∀ i, i < lo ∨ hi ≤ i → arr'[i]? = arr[i]?
  so : SR LT arr' lo hi
def putAll (arr : Array Keyed) (off : Nat) (l : List (Keyed × Nat)) : Array Keyed := l.foldl (fun a (p, j) => a.setIfInBounds (off + j) p) arr
theorem putAll_at : ∀ (m : List Keyed) (k off : Nat) (arr : Array Keyed) (i : Nat), off + k + m.length ≤ arr.size → (putAll arr off (m.zipIdx k))[i]? = if off + k ≤ i ∧ i < off + k + m.length then m[i - (off + k)]? else arr[i]?
  | [], k, off, arr, i, _ => by
    rw [List.zipIdx_nil]
    show arr[i]? = _
    rw [if_neg (by rw [List.length_nil]; omega)]
  | x :: m, k, off, arr, i, h => by
    rw [List.zipIdx_cons]
    show (putAll (arr.setIfInBounds (off + k) x) off (m.zipIdx (k + 1)))[i]? = _
    rw [List.length_cons] at h ⊢
    rw [putAll_at m (k + 1) off _ i (by rw [Array.size_setIfInBounds]; omega), Array.getElem?_setIfInBounds]
    by_cases h1 : off + k = i
    · rw [if_neg (by omega), if_pos h1, if_pos (by omega), if_pos (by omega), show i - (off + k) = 0 by omega]
      rfl
    · rw [if_neg h1]
      by_cases h2 : off + (k + 1) ≤ i ∧ i < off + (k + 1) + m.length
      · rw [if_pos h2, if_pos (by omega), show i - (off + k) = (i - (off + (k + 1))) + 1 by omega, List.getElem?_cons_succ]
      · rw [if_neg h2, if_neg (by omega)]
theorem putAll_list {arr : Array Keyed} {off n : Nat} {m : List Keyed} (hm : m.length = n - off) (h1 : off ≤ n) (h2 : n ≤ arr.size) : (putAll arr off (m.zipIdx)).toList = arr.toList.take off ++ m ++ arr.toList.drop n := by
  apply List.ext_getElem?
  intro i
  rw [Array.getElem?_toList, putAll_at m 0 off arr i (by omega)]
  have l1 : (arr.toList.take off).length = off := by simp; omega
  by_cases h : off + 0 ≤ i ∧ i < off + 0 + m.length
  · rw [if_pos h, List.append_assoc, List.getElem?_append_right (by omega), List.getElem?_append_left (by omega), l1]
    rfl
  · rw [if_neg h]
    by_cases h3 : i < off
    · rw [List.append_assoc, List.getElem?_append_left (by omega), List.getElem?_take, if_pos h3, Array.getElem?_toList]
    · rw [List.append_assoc, List.getElem?_append_right (by omega), List.getElem?_append_right (by omega), List.getElem?_drop, l1, Array.getElem?_toList]
      congr 1
      omega
theorem split3 {α : Type} (arr : Array α) {p q r : Nat} (h1 : p ≤ q) (h2 : q ≤ r) : arr.toList = arr.toList.take p ++ ((arr.extract p q).toList ++ (arr.extract q r).toList) ++ arr.toList.drop r := by
  rw [Array.toList_extract, Array.toList_extract, List.extract_eq_take_drop, List.extract_eq_take_drop]
  have e1 : arr.toList.drop p = (arr.toList.drop p).take (q - p) ++ arr.toList.drop q := by
    have := List.take_append_drop (q - p) (arr.toList.drop p)
    rw [List.drop_drop, show p + (q - p) = q by omega] at this
    exact this.symm
  have e2 : arr.toList.drop q = (arr.toList.drop q).take (r - q) ++ arr.toList.drop r := by
    have := List.take_append_drop (r - q) (arr.toList.drop q)
    rw [List.drop_drop, show q + (r - q) = r by omega] at this
    exact this.symm
  have e0 := (List.take_append_drop p arr.toList).symm
  rw [e1, e2] at e0
  simpa [List.append_assoc] using e0
theorem ext_at {α : Type} {arr : Array α} {p q i : Nat} {x : α} (h : (arr.extract p q)[i]? = some x) : arr[p + i]? = some x ∧ p + i < q := by
  obtain ⟨h1, e⟩ := Array.getElem?_eq_some_iff.mp h
  rw [Array.size_extract] at h1
  rw [Array.getElem_extract] at e
  exact ⟨by rw [← e]; exact Array.getElem?_eq_getElem _, by omega⟩
theorem ext_mem {α : Type} {arr : Array α} {p q : Nat} {x : α} (h : x ∈ (arr.extract p q).toList) : ∃ i, p ≤ i ∧ i < q ∧ arr[i]? = some x := by
  rw [Array.mem_toList_iff] at h
  obtain ⟨i, hi, e⟩ := Array.getElem_of_mem h
  obtain ⟨e1, e2⟩ := ext_at (p := p) (q := q) (arr := arr) (i := i) (x := x) (by rw [Array.getElem?_eq_getElem hi, e])
  exact ⟨p + i, by omega, e2, e1⟩
theorem ext_get {α : Type} {arr : Array α} {p q i : Nat} (h : p + i < q) (hq : q ≤ arr.size) : (arr.extract p q)[i]? = arr[p + i]? := by
  have hs : i < (arr.extract p q).size := by rw [Array.size_extract]; omega
  rw [Array.getElem?_eq_getElem hs, Array.getElem_extract]
  exact (Array.getElem?_eq_getElem _).symm
theorem SR.pw {LT : Keyed → Keyed → Bool} {arr : Array Keyed} {lo hi p q : Nat} (h : SR LT arr lo hi) (h1 : lo ≤ p) (h2 : q ≤ hi) : (arr.extract p q).toList.Pairwise (leO LT) := by
  rw [List.pairwise_iff_getElem]
  intro i j hi hj hij
  have e1 : (arr.extract p q)[i]? = some (arr.extract p q).toList[i] := by rw [← Array.getElem?_toList]; exact List.getElem?_eq_getElem hi
  have e2 : (arr.extract p q)[j]? = some (arr.extract p q).toList[j] := by rw [← Array.getElem?_toList]; exact List.getElem?_eq_getElem hj
  obtain ⟨g1, g2⟩ := ext_at e1
  obtain ⟨g3, g4⟩ := ext_at e2
  exact h _ _ _ _ (by omega) (show p + i < p + j by omega) (by omega) g1 g3
section
variable {S : Keyed → Prop} {LT : Keyed → Keyed → Bool}
/-- what a merge leaves in its place -/
theorem mid_of (o : Ord S LT) {arr r : Array Keyed} {sa sb k nb n : Nat} {b0 al : Keyed} (hall : ∀ (j : Nat) (x : Keyed), arr[j]? = some x → S x) (h1 : sa + k < sb) (h2 : nb ≤ n) (h3 : 1 ≤ nb) (h4 : sb + n ≤ arr.size) (s1 : SR LT arr sa sb) (s2 : SR LT arr sb (sb + n)) (eb : arr[sb]? = some b0) (ea : arr[sb - 1]? = some al)
    (k1 : ∀ i x, i < k → arr[sa + i]? = some x → LT b0 x = false) (k2 : ∀ i x, nb ≤ i → i < n → arr[sb + i]? = some x → LT x al = false) (m : Mg LT (arr.extract (sa + k) sb) (arr.extract sb (sb + nb)) r) : Mid LT arr (putAll arr (sa + k) r.toList.zipIdx) sa (sb + n) := by
  have sp := split3 arr (p := sa + k) (q := sb) (r := sb + nb) (by omega) (by omega)
  have hlen : r.toList.length = sb + nb - (sa + k) := by
    rw [m.1.length_eq, List.length_append, Array.length_toList, Array.length_toList, Array.size_extract, Array.size_extract]; omega
  have pl := putAll_list (arr := arr) (off := sa + k) (n := sb + nb) hlen (by omega) (by omega)
  have at' : ∀ i, (putAll arr (sa + k) r.toList.zipIdx)[i]? = if sa + k ≤ i ∧ i < sb + nb then r.toList[i - (sa + k)]? else arr[i]? := fun i => by
    rw [putAll_at r.toList 0 (sa + k) arr i (by omega), Nat.add_zero, hlen, show sa + k + (sb + nb - (sa + k)) = sb + nb by omega]
  have rf : ∀ x, S x → LT x x = false := fun x hx => by
    cases e : LT x x with
    | false => rfl
    | true => rw [o.asym x x hx hx e] at e; cases e
  refine ⟨?_, fun i hi => by rw [at' i, if_neg (by omega)], ?_⟩
  · rw [pl]
    refine List.Perm.trans ?_ (List.Perm.of_eq sp.symm)
    exact List.Perm.append_right _ (List.Perm.append_left _ m.1)
  · -- where a merged one comes from
    have from_ : ∀ i x, sa + k ≤ i → i < sb + nb → r.toList[i - (sa + k)]? = some x → ∃ i', sa + k ≤ i' ∧ i' < sb + nb ∧ arr[i']? = some x := fun i x h1 h2 e => by
      rcases List.mem_append.mp (m.1.mem_iff.mp (List.mem_of_getElem? e)) with hx | hx
      · obtain ⟨j, j1, j2, j3⟩ := ext_mem hx
        exact ⟨j, j1, by omega, j3⟩
      · obtain ⟨j, j1, j2, j3⟩ := ext_mem hx
        exact ⟨j, by omega, j2, j3⟩
    -- below b0: below all that is later; above al: above all that is earlier
    have low : ∀ i x j y, sa ≤ i → i < sa + k → arr[i]? = some x → sa + k ≤ j → j < sb + n → arr[j]? = some y → leO LT x y := fun i x j y i1 i2 ex j1 j2 ey => by
      by_cases hj : j < sb
      · exact s1 i j x y i1 (by omega) hj ex ey
      · have c := k1 (i - sa) x (by omega) (by rw [show sa + (i - sa) = i by omega]; exact ex)
        by_cases hj' : j = sb
        · subst hj'
          rw [eb] at ey; cases ey
          exact c
        · exact o.trans x b0 y (hall _ _ ex) (hall _ _ eb) (hall _ _ ey) c (s2 sb j b0 y (Nat.le_refl _) (by omega) j2 eb ey)
    have high : ∀ i x j y, sa ≤ i → i < sb + nb → arr[i]? = some x → sb + nb ≤ j → j < sb + n → arr[j]? = some y → leO LT x y := fun i x j y i1 i2 ex j1 j2 ey => by
      by_cases hi : sb ≤ i
      · exact s2 i j x y hi (by omega) j2 ex ey
      · have c := k2 (j - sb) y (by omega) (by omega) (by rw [show sb + (j - sb) = j by omega]; exact ey)
        by_cases hi' : i = sb - 1
        · subst hi'
          rw [ea] at ex; cases ex
          exact c
        · exact o.trans x al y (hall _ _ ex) (hall _ _ ea) (hall _ _ ey) (s1 i (sb - 1) x al i1 (by omega) (by omega) ex ea) c
    intro i j x y hi hij hj ex ey
    rw [at' i] at ex
    rw [at' j] at ey
    by_cases ci : sa + k ≤ i ∧ i < sb + nb
    · rw [if_pos ci] at ex
      by_cases cj : sa + k ≤ j ∧ j < sb + nb
      · rw [if_pos cj] at ey
        obtain ⟨g1, rfl⟩ := List.getElem?_eq_some_iff.mp ex
        obtain ⟨g2, rfl⟩ := List.getElem?_eq_some_iff.mp ey
        exact List.pairwise_iff_getElem.mp m.2 _ _ g1 g2 (by omega)
      · rw [if_neg cj] at ey
        obtain ⟨i', i1, i2, e⟩ := from_ i x ci.1 ci.2 ex
        exact high i' x j y (by omega) i2 e (by omega) hj ey
    · rw [if_neg ci] at ex
      by_cases hlow : i < sa + k
      · by_cases cj : sa + k ≤ j ∧ j < sb + nb
        · rw [if_pos cj] at ey
          obtain ⟨j', j1, j2, e⟩ := from_ j y cj.1 cj.2 ey
          exact low i x j' y hi hlow ex j1 (by omega) e
        · rw [if_neg cj] at ey
          by_cases hj2 : j < sa + k
          · exact s1 i j x y hi hij (by omega) ex ey
          · exact low i x j y hi hlow ex (by omega) hj ey
      · rw [if_neg (by omega)] at ey
        exact s2 i j x y (by omega) hij hj ex ey
/-- all of the first run is not above the second's first, or all of the second is not below the first's last -/
theorem mid_low (o : Ord S LT) {arr : Array Keyed} {sa sb n : Nat} {b0 : Keyed} (hall : ∀ (j : Nat) (x : Keyed), arr[j]? = some x → S x) (s1 : SR LT arr sa sb) (s2 : SR LT arr sb (sb + n)) (eb : arr[sb]? = some b0)
    (k1 : ∀ i x, sa ≤ i → i < sb → arr[i]? = some x → LT b0 x = false) : Mid LT arr arr sa (sb + n) := by
  refine ⟨.refl _, fun _ _ => rfl, fun i j x y hi hij hj ex ey => ?_⟩
  by_cases h1 : j < sb
  · exact s1 i j x y hi hij h1 ex ey
  · by_cases h2 : sb ≤ i
    · exact s2 i j x y h2 hij hj ex ey
    · have c := k1 i x hi (by omega) ex
      by_cases hj' : j = sb
      · subst hj'
        rw [eb] at ey; cases ey
        exact c
      · exact o.trans x b0 y (hall _ _ ex) (hall _ _ eb) (hall _ _ ey) c (s2 sb j b0 y (Nat.le_refl _) (by omega) hj eb ey)
end
section
variable {prog : Program} {w : World} {A : Around} {E : Value → Shared → Prop} {s : Shared} {κ : SortKind} {LT : Keyed → Keyed → Bool} {S : Keyed → Prop}
theorem wpS_set {σ : Type} {M : Model} {x : σ} {Q : PUnit → σ → Prop} {st : σ} (h : Q ⟨⟩ x) : wpS M A E s (set x : StateT σ Sem PUnit) Q st := by
  unfold wpS
  rw [StateT.run_set]
  exact wpAny_pure ⟨rfl, h⟩
abbrev pendAt (p : Array (Nat × Nat × Nat)) (i sa n pw : Nat) : Array (Nat × Nat × Nat) := (p.setIfInBounds i (sa, n, pw)).eraseIdxIfInBounds (i + 1)
theorem wpS_mergeAt (o : Ord S LT) (hl : LtIs prog w A E s κ S LT) {i sa na nb pw pw' : Nat} {st : SortSt} {Q : Bool → SortSt → Prop} (hs : kindOf st = κ) (hf : failedOf st = none) (hall : ∀ (j : Nat) (x : Keyed), (arrOf st)[j]? = some x → S x)
    (e1 : (pendingOf st)[i]? = some (sa, na, pw)) (e2 : (pendingOf st)[i + 1]? = some (sa + na, nb, pw')) (h1 : 1 ≤ na) (h2 : 1 ≤ nb) (h3 : sa + na + nb ≤ (arrOf st).size) (s1 : SR LT (arrOf st) sa (sa + na)) (s2 : SR LT (arrOf st) (sa + na) (sa + na + nb))
    (h : ∀ st', kindOf st' = κ → failedOf st' = none → pendingOf st' = pendAt (pendingOf st) i sa (na + nb) pw → Mid LT (arrOf st) (arrOf st') sa (sa + na + nb) → Q true st') : wpS (model prog w) A E s (mergeAt' i) Q st := by
  unfold mergeAt'
  k_delta "mergeAt"
  refine wpS_bind (wpS_get ?_)
  rw [e1, e2]
  dsimp only
  have at_ : ∀ {c : Array Keyed} {i : Nat}, i < c.size → ∃ x, c[i]? = some x := fun {c i} hi => ⟨c[i], Array.getElem?_eq_getElem hi⟩
  refine wpS_bind (wpS_set ?_)
  obtain ⟨b0, eb⟩ := at_ (c := arrOf st) (i := sa + na) (by omega)
  refine wpS_bind (wpS_elem eb ?_)
  refine wpS_bind (wpS_gallop (arr := arrOf st) hl (hall _ _ eb) hall (by omega) (by omega) hs (bey_mono (arr := arrOf st) o (hall _ _ eb) hall (by omega) fun i j x y h1 h2 ex ey => s1 _ _ x y (by omega) (show sa + i < sa + j by omega) (by omega) ex ey) fun k hk k1 k2 => ?_)
  dsimp only
  by_cases hq : na - k = 0
  · rw [if_pos (by simpa using hq)]
    refine wpS_pure (h _ hs hf rfl (mid_low o hall s1 s2 eb fun i x i1 i2 ex => bey_f (k1 (i - sa) (by omega)) (by rw [show sa + (i - sa) = i by omega]; exact ex)))
  rw [if_neg (by simpa using hq)]
  obtain ⟨al, ea⟩ := at_ (c := arrOf st) (i := sa + na - 1) (by omega)
  have ea' : (arrOf st)[sa + k + (na - k) - 1]? = some al := by rw [show sa + k + (na - k) - 1 = sa + na - 1 by omega]; exact ea
  refine wpS_bind (wpS_elem ea' ?_)
  refine wpS_bind (wpS_gallop (arr := arrOf st) hl (hall _ _ ea) hall (by omega) (by omega) hs (bey_mono (arr := arrOf st) o (hall _ _ ea) hall (by omega) fun i j x y h1 h2 ex ey => s2 _ _ x y (by omega) (show sa + na + i < sa + na + j by omega) (by omega) ex ey) fun n hn n1 n2 => ?_)
  dsimp only
  obtain ⟨x0, ex0⟩ := at_ (c := arrOf st) (i := sa + k) (by omega)
  have lt0 : LT b0 x0 = true := bey_f (k2 k (Nat.le_refl _) (by omega)) ex0
  by_cases hq2 : n = 0
  · rw [if_pos (by simpa using hq2)]
    exfalso
    subst hq2
    have c1 : LT b0 al = false := bey_t (n2 0 (Nat.le_refl _) (by omega)) eb
    by_cases e : k + 1 = na
    · rw [show sa + na - 1 = sa + k by omega, ex0] at ea
      cases ea
      rw [lt0] at c1; cases c1
    · have c2 := s1 (sa + k) (sa + na - 1) x0 al (by omega) (by omega) (by omega) ex0 ea
      have c3 := o.trans x0 al b0 (hall _ _ ex0) (hall _ _ ea) (hall _ _ eb) c2 c1
      rw [lt0] at c3; cases c3
  rw [if_neg (by simpa using hq2)]
  have X := s1.pw (p := sa + k) (q := sa + na) (by omega) (Nat.le_refl _)
  have Y := s2.pw (p := sa + na) (q := sa + na + n) (Nat.le_refl _) (by omega)
  have SX : ∀ x ∈ ((arrOf st).extract (sa + k) (sa + na)).toList, S x := fun x hx => by obtain ⟨i, _, _, e⟩ := ext_mem hx; exact hall _ _ e
  have SY : ∀ x ∈ ((arrOf st).extract (sa + na) (sa + na + n)).toList, S x := fun x hx => by obtain ⟨i, _, _, e⟩ := ext_mem hx; exact hall _ _ e
  have zX : ((arrOf st).extract (sa + k) (sa + na)).size = na - k := by rw [Array.size_extract]; omega
  have zY : ((arrOf st).extract (sa + na) (sa + na + n)).size = n := by rw [Array.size_extract]; omega
  have X0 : ((arrOf st).extract (sa + k) (sa + na))[0]? = some x0 := by rw [ext_get (by omega) (by omega)]; exact ex0
  have Y0 : ((arrOf st).extract (sa + na) (sa + na + n))[0]? = some b0 := by rw [ext_get (by omega) (by omega)]; exact eb
  have XL : ((arrOf st).extract (sa + k) (sa + na))[((arrOf st).extract (sa + k) (sa + na)).size - 1]? = some al := by rw [zX, ext_get (by omega) (by omega), show sa + k + (na - k - 1) = sa + na - 1 by omega]; exact ea
  obtain ⟨bl, ebl⟩ := at_ (c := arrOf st) (i := sa + na + (n - 1)) (by omega)
  have YL : ((arrOf st).extract (sa + na) (sa + na + n))[((arrOf st).extract (sa + na) (sa + na + n)).size - 1]? = some bl := by rw [zY, ext_get (by omega) (by omega)]; exact ebl
  have lastA : ∀ x, ((arrOf st).extract (sa + k) (sa + na))[((arrOf st).extract (sa + k) (sa + na)).size - 1]? = some x → ∀ y ∈ ((arrOf st).extract (sa + na) (sa + na + n)).toList, leO LT y x := fun x ex y hy => by
    rw [XL] at ex; cases ex
    obtain ⟨j, j1, j2, e⟩ := ext_mem hy
    exact o.asym _ _ (hall _ _ e) (hall _ _ ea) (bey_t (n1 (j - (sa + na)) (by omega)) (by rw [show sa + na + (j - (sa + na)) = j by omega]; exact e))
  have firstB : ∀ y, ((arrOf st).extract (sa + na) (sa + na + n))[0]? = some y → ∀ x ∈ ((arrOf st).extract (sa + k) (sa + na)).toList, LT x y = false := fun y ey x hx => by
    rw [Y0] at ey; cases ey
    obtain ⟨j, j1, j2, e⟩ := ext_mem hx
    exact o.asym _ _ (hall _ _ eb) (hall _ _ e) (bey_f (k2 (j - sa) (by omega) (by omega)) (by rw [show sa + (j - sa) = j by omega]; exact e))
  have ltl : LT bl al = true := bey_t (n1 (n - 1) (by omega)) ebl
  have fin : ∀ r st', Sg (SortSt.mk' (kindOf st) (arrOf st) (pendAt (pendingOf st) i sa (na + nb) pw) (gallopOf st) (failedOf st)) st' → Mg LT ((arrOf st).extract (sa + k) (sa + na)) ((arrOf st).extract (sa + na) (sa + na + n)) r →
      Q (failedOf st').isNone (SortSt.mk' (kindOf st') (putAll (arrOf st') (sa + k) r.toList.zipIdx) (pendingOf st') (gallopOf st') (failedOf st')) := fun r st' g m => by
    have gf : failedOf st' = none := g.failed.trans hf
    have ga : arrOf st' = arrOf st := g.arr
    rw [gf, ga]
    refine h _ (g.kind.trans hs) rfl g.pend ?_
    exact mid_of o hall (by omega) hn (by omega) (by omega) s1 s2 eb ea (fun i x i1 e => bey_f (k1 i i1) e) (fun i x i1 i2 e => bey_t (n2 i i1 i2) e) m
  by_cases hle : na - k ≤ n
  · rw [if_pos hle]
    refine wpS_bind (wpS_mergeLo o hl hs SX SY X Y X0 Y0 lt0 lastA fun r st' g m => ?_)
    exact wpS_bind (wpS_modify (wpS_bind (wpS_get (wpS_pure (fin r st' g m)))))
  · rw [if_neg hle]
    refine wpS_bind (wpS_mergeHi o hl hs SX SY X Y XL YL ltl firstB fun r st' g m => ?_)
    exact wpS_bind (wpS_modify (wpS_bind (wpS_get (wpS_pure (fin r st' g m)))))
end
end L2

namespace L2
open PySem PySem.Spec PyProof.Rows
/-! ### a run, counted and put in order from any place -/
structure Rn (a0 a : Array Keyed) (lo hi : Nat) : Prop where
  perm : a.toList.Perm a0.toList
  out : ∀ i, i < lo ∨ hi ≤ i → a[i]? = a0[i]?
theorem Rn.refl (a : Array Keyed) (lo hi : Nat) : Rn a a lo hi := ⟨.refl _, fun _ _ => rfl⟩
theorem Rn.size {a0 a : Array Keyed} {lo hi : Nat} (h : Rn a0 a lo hi) : a.size = a0.size := by have := h.perm.length_eq; simpa using this
theorem Rn.all {a0 a : Array Keyed} {lo hi : Nat} {S : Keyed → Prop} (h : Rn a0 a lo hi) (hall : ∀ (j : Nat) (x : Keyed), a0[j]? = some x → S x) : ∀ (j : Nat) (x : Keyed), a[j]? = some x → S x := fun j x e => by
  have := h.perm.mem_iff.mp (mem_at e)
  rw [Array.mem_toList_iff] at this
  obtain ⟨i, hi, e⟩ := Array.getElem_of_mem this
  exact hall i x (by rw [Array.getElem?_eq_getElem hi, e])
theorem Rn.mirror {a0 a : Array Keyed} {lo hi i j : Nat} (h : Rn a0 a lo hi) (h1 : lo ≤ i) (h2 : j ≤ hi) (h3 : j ≤ a.size) : Rn a0 (mirror a i j ((j - i) / 2)) lo hi := by
  refine ⟨(Array.perm_iff_toList_perm.mp (mirror_perm _ _ _ _)).trans h.perm, fun k hk => ?_⟩
  rw [getElem?_mirror_all h3, if_neg (by omega)]
  exact h.out k hk
theorem Rn.bubble {a0 a : Array Keyed} {lo hi src d : Nat} (h : Rn a0 a lo hi) (h1 : lo + d ≤ src) (h2 : src < hi) (h3 : src < a.size) : Rn a0 (bubble a src d) lo hi := by
  refine ⟨(Array.perm_iff_toList_perm.mp (bubble_perm _ _ _)).trans h.perm, fun k hk => ?_⟩
  rw [getElem?_bubble h3 d (by omega), if_neg (by omega), if_neg (by omega)]
  exact h.out k hk
/-- in order from above -/
def ND (LT : Keyed → Keyed → Bool) (arr : Array Keyed) (lo hi : Nat) : Prop := ∀ i j x y, lo ≤ i → i < j → j < hi → arr[i]? = some x → arr[j]? = some y → leO LT y x
/-- all alike -/
def AL (LT : Keyed → Keyed → Bool) (arr : Array Keyed) (lo hi : Nat) : Prop := ∀ i j x y, lo ≤ i → i < hi → lo ≤ j → j < hi → arr[i]? = some x → arr[j]? = some y → leO LT x y
section
variable {S : Keyed → Prop} {LT : Keyed → Keyed → Bool} {arr : Array Keyed} {lo hi n m : Nat}
theorem Ord.irr (o : Ord S LT) {x : Keyed} (hx : S x) : LT x x = false := by
  cases e : LT x x with
  | false => rfl
  | true => rw [o.asym x x hx hx e] at e; cases e
theorem SR.one : SR LT arr lo (lo + 1) := fun i j x y h1 h2 h3 => by omega
theorem SR.grow (o : Ord S LT) (hall : ∀ (j : Nat) (x : Keyed), arr[j]? = some x → S x) {x y : Keyed} (h : SR LT arr lo (lo + n)) (h1 : 1 ≤ n) (ex : arr[lo + n]? = some x) (ey : arr[lo + n - 1]? = some y) (e : LT x y = false) : SR LT arr lo (lo + n + 1) := by
  intro i j u v hi hij hj eu ev
  by_cases c : j < lo + n
  · exact h i j u v hi hij c eu ev
  · have : j = lo + n := by omega
    subst this
    rw [ex] at ev; cases ev
    by_cases c2 : i = lo + n - 1
    · subst c2
      rw [ey] at eu; cases eu
      exact e
    · exact o.trans u y x (hall _ _ eu) (hall _ _ ey) (hall _ _ ex) (h i (lo + n - 1) u y hi (by omega) (by omega) eu ey) e
theorem ND.grow (o : Ord S LT) (hall : ∀ (j : Nat) (x : Keyed), arr[j]? = some x → S x) {x y : Keyed} (h : ND LT arr lo (lo + n)) (h1 : 1 ≤ n) (ex : arr[lo + n]? = some x) (ey : arr[lo + n - 1]? = some y) (e : LT y x = false) : ND LT arr lo (lo + n + 1) := by
  intro i j u v hi hij hj eu ev
  by_cases c : j < lo + n
  · exact h i j u v hi hij c eu ev
  · have : j = lo + n := by omega
    subst this
    rw [ex] at ev; cases ev
    by_cases c2 : i = lo + n - 1
    · subst c2
      rw [ey] at eu; cases eu
      exact e
    · exact o.trans x y u (hall _ _ ex) (hall _ _ ey) (hall _ _ eu) e (h i (lo + n - 1) u y hi (by omega) (by omega) eu ey)
theorem ND.turn (h : ND LT arr lo hi) (hz : hi ≤ arr.size) : SR LT (PyProof.Rows.mirror arr lo hi ((hi - lo) / 2)) lo hi := by
  intro i j x y h1 h2 h3 ex ey
  rw [getElem?_mirror_all hz, if_pos (by omega)] at ex ey
  exact h (lo + hi - 1 - j) (lo + hi - 1 - i) y x (by omega) (by omega) (by omega) ey ex
theorem ND.alike (h : ND LT arr lo hi) (ha : AL LT arr n hi) (hn : lo ≤ n) (hz : hi ≤ arr.size) : ND LT (PyProof.Rows.mirror arr n hi ((hi - n) / 2)) lo hi := by
  intro i j x y h1 h2 h3 ex ey
  rw [getElem?_mirror_all hz] at ex ey
  by_cases ci : n ≤ i ∧ i < hi
  · rw [if_pos ci] at ex
    rw [if_pos (by omega)] at ey
    exact ha _ _ y x (by omega) (by omega) (by omega) (by omega) ey ex
  · rw [if_neg ci] at ex
    by_cases cj : n ≤ j ∧ j < hi
    · rw [if_pos cj] at ey
      exact h i _ x y h1 (by omega) (by omega) ex ey
    · rw [if_neg cj] at ey
      exact h i j x y h1 h2 h3 ex ey
theorem AL.one (o : Ord S LT) (hall : ∀ (j : Nat) (x : Keyed), arr[j]? = some x → S x) : AL LT arr n (n + 1) := fun i j x y h1 h2 h3 h4 ex ey => by
  have : i = j := by omega
  subst this
  rw [ex] at ey; cases ey
  exact o.irr (hall _ _ ex)
theorem AL.grow (o : Ord S LT) (hall : ∀ (j : Nat) (x : Keyed), arr[j]? = some x → S x) {x y : Keyed} (h : AL LT arr n hi) (h1 : n < hi) (ex : arr[hi]? = some x) (ey : arr[hi - 1]? = some y) (e1 : LT x y = false) (e2 : LT y x = false) : AL LT arr n (hi + 1) := by
  intro i j u v i1 i2 j1 j2 eu ev
  by_cases ci : i < hi
  · by_cases cj : j < hi
    · exact h i j u v i1 ci j1 cj eu ev
    · have : j = hi := by omega
      subst this
      rw [ex] at ev; cases ev
      exact o.trans u y x (hall _ _ eu) (hall _ _ ey) (hall _ _ ex) (h i (j - 1) u y i1 ci (by omega) (by omega) eu ey) e1
  · have : i = hi := by omega
    subst this
    rw [ex] at eu; cases eu
    by_cases cj : j < i
    · exact o.trans x y v (hall _ _ ex) (hall _ _ ey) (hall _ _ ev) e2 (h (i - 1) j y v (by omega) (by omega) j1 cj ey ev)
    · have : j = i := by omega
      subst this
      rw [ex] at ev; cases ev
      exact o.irr (hall _ _ ex)
end
section
variable {prog : Program} {w : World} {A : Around} {E : Value → Shared → Prop} {s : Shared} {κ : SortKind} {LT : Keyed → Keyed → Bool} {S : Keyed → Prop}
theorem wpS_ltG (hl : LtIs prog w A E s κ S LT) {st : SortSt} {i j : Nat} {x y : Keyed} {Q : Option Bool → SortSt → Prop} (hs : kindOf st = κ) (ex : (arrOf st)[i]? = some x) (ey : (arrOf st)[j]? = some y) (sx : S x) (sy : S y) (h : Q (some (LT x y)) st) : wpS (model prog w) A E s (ltAt' i j) Q st := by
  rw [ltAt'_eq]
  refine wpS_bind (wpS_get ?_)
  exact wpS_bind (wpS_elem ex (wpS_bind (wpS_elem ey (hl x y st Q sx sy hs h))))
theorem wpS_asc (o : Ord S LT) {arr : Array Keyed} {lo a nrem : Nat} {st : SortSt} {Q : Option (Option Nat) × Nat → SortSt → Prop} {F : Nat → Option (Option Nat) × Nat → StateT SortSt Sem (ForInStep (Option (Option Nat) × Nat))} (hall : ∀ (j : Nat) (x : Keyed), arr[j]? = some x → S x)
    (hF : ∀ (i n : Nat) (x y : Keyed) (Q' : ForInStep (Option (Option Nat) × Nat) → SortSt → Prop), arr[lo + n]? = some x → arr[lo + n - 1]? = some y → (LT x y = true → Q' (.done (none, n)) st) → (LT x y = false → Q' (.yield (none, n + 1)) st) → wpS (model prog w) A E s (F i (none, n)) Q' st)
    (h1 : 1 ≤ a) (h2 : a ≤ nrem) (hz : lo + nrem ≤ arr.size) (sr : SR LT arr lo (lo + a))
    (h : ∀ n, a ≤ n → n ≤ nrem → SR LT arr lo (lo + n) → (n = nrem ∨ ∃ x y, arr[lo + n]? = some x ∧ arr[lo + n - 1]? = some y ∧ LT x y = true) → Q (none, n) st) : wpS (model prog w) A E s (forIn [a:nrem] (none, a) F) Q st := by
  refine wpS_forRange (I := fun n c st' => st' = st ∧ c = (none, n) ∧ SR LT arr lo (lo + n)) ?_ ?_ ⟨rfl, rfl, sr⟩
  · rintro n c st' hn1 hn2 ⟨rfl, rfl, sr⟩
    have ex : arr[lo + n]? = some (arr[lo + n]'(by omega)) := Array.getElem?_eq_getElem _
    have ey : arr[lo + n - 1]? = some (arr[lo + n - 1]'(by omega)) := Array.getElem?_eq_getElem _
    exact hF n n _ _ _ ex ey (fun e => h n hn1 (by omega) sr (.inr ⟨_, _, ex, ey, e⟩)) fun e => ⟨rfl, rfl, sr.grow o hall (by omega) ex ey e⟩
  · rintro c st' ⟨rfl, rfl, sr⟩
    have e : max a nrem = nrem := by omega
    rw [e] at sr ⊢
    exact h nrem h2 (Nat.le_refl _) sr (.inl rfl)
theorem wpS_desc (o : Ord S LT) {lo n0 nrem : Nat} {st : SortSt} {a0 : Array Keyed} {Q : Option (Option Nat) × Nat × Nat → SortSt → Prop} {F : Nat → Option (Option Nat) × Nat × Nat → StateT SortSt Sem (ForInStep (Option (Option Nat) × Nat × Nat))} (hall : ∀ (j : Nat) (x : Keyed), (arrOf st)[j]? = some x → S x)
    (hF : ∀ (i n q : Nat) (a : Array Keyed) (x y : Keyed) (Q' : ForInStep (Option (Option Nat) × Nat × Nat) → SortSt → Prop), a[lo + n]? = some x → a[lo + n - 1]? = some y → S x → S y →
      (LT x y = true → q > 0 → Q' (.yield (none, n + 1, 0)) (setArr st (PyProof.Rows.mirror a (lo + n - (q + 1)) (lo + n) ((lo + n - (lo + n - (q + 1))) / 2)))) → (LT x y = true → ¬ q > 0 → Q' (.yield (none, n + 1, 0)) (setArr st a)) →
      (LT x y = false → LT y x = true → Q' (.done (none, n, q)) (setArr st a)) → (LT x y = false → LT y x = false → Q' (.yield (none, n + 1, q + 1)) (setArr st a)) → wpS (model prog w) A E s (F i (none, n, q)) Q' (setArr st a))
    (h1 : 1 ≤ n0) (h2 : n0 ≤ nrem) (hz : lo + nrem ≤ (arrOf st).size) (rn : Rn (arrOf st) a0 lo (lo + nrem)) (nd : ND LT a0 lo (lo + n0))
    (h : ∀ n q a, Rn (arrOf st) a lo (lo + nrem) → n0 ≤ n → n ≤ nrem → ND LT a lo (lo + n) → q + 1 ≤ n → AL LT a (lo + n - (q + 1)) (lo + n) → Q (none, n, q) (setArr st a)) : wpS (model prog w) A E s (forIn [n0:nrem] (none, n0, 0) F) Q (setArr st a0) := by
  refine wpS_forRange (I := fun n c st' => ∃ q a, st' = setArr st a ∧ c = (none, n, q) ∧ Rn (arrOf st) a lo (lo + nrem) ∧ ND LT a lo (lo + n) ∧ q + 1 ≤ n ∧ AL LT a (lo + n - (q + 1)) (lo + n)) ?_ ?_ ⟨0, a0, rfl, rfl, rn, nd, h1, by
    rw [show lo + n0 = lo + n0 - (0 + 1) + 1 by omega, show lo + n0 - (0 + 1) + 1 - (0 + 1) = lo + n0 - (0 + 1) by omega]
    exact AL.one o (rn.all hall)⟩
  · rintro n c st' hn1 hn2 ⟨q, a, rfl, rfl, rn, nd, hq, al⟩
    have hsz := rn.size
    have ex : a[lo + n]? = some (a[lo + n]'(by omega)) := Array.getElem?_eq_getElem _
    have ey : a[lo + n - 1]? = some (a[lo + n - 1]'(by omega)) := Array.getElem?_eq_getElem _
    have ha := rn.all hall
    have al1 : ∀ b : Array Keyed, (∀ (j : Nat) (x : Keyed), b[j]? = some x → S x) → AL LT b (lo + (n + 1) - (0 + 1)) (lo + (n + 1)) := fun b hb => by
      rw [show lo + (n + 1) - (0 + 1) = lo + n by omega]
      exact AL.one o hb
    refine hF n n q a _ _ _ ex ey (ha _ _ ex) (ha _ _ ey) (fun e hq0 => ?_) (fun e hq0 => ?_) (fun e1 e2 => h n q a rn hn1 (by omega) nd hq al) fun e1 e2 => ?_
    · have rn2 := rn.mirror (i := lo + n - (q + 1)) (j := lo + n) (by omega) (by omega) (by omega)
      refine ⟨0, _, rfl, rfl, rn2, ?_, by omega, al1 _ (rn2.all hall)⟩
      have e0 := o.asym _ _ (ha _ _ ex) (ha _ _ ey) e
      have ey' : a[lo + n - (q + 1)]? = some (a[lo + n - (q + 1)]'(by omega)) := Array.getElem?_eq_getElem _
      refine (nd.alike al (by omega) (by omega)).grow o (rn2.all hall) (by omega) (x := a[lo + n]'(by omega)) (y := a[lo + n - (q + 1)]'(by omega)) ?_ ?_ ?_
      · rw [getElem?_mirror_all (by omega), if_neg (by omega)]; exact ex
      · rw [getElem?_mirror_all (by omega), if_pos (by omega), show lo + n - (q + 1) + (lo + n) - 1 - (lo + n - 1) = lo + n - (q + 1) by omega]; exact ey'
      · exact o.trans _ _ _ (ha _ _ ex) (ha _ _ ey) (ha _ _ ey') e0 (al _ _ _ _ (by omega) (by omega) (by omega) (by omega) ey ey')
    · exact ⟨0, a, rfl, rfl, rn, nd.grow o ha (by omega) ex ey (o.asym _ _ (ha _ _ ex) (ha _ _ ey) e), by omega, al1 _ ha⟩
    · refine ⟨q + 1, a, rfl, rfl, rn, nd.grow o ha (by omega) ex ey e2, by omega, ?_⟩
      have g := al.grow o ha (by omega) ex ey e1 e2
      rw [show lo + (n + 1) - (q + 1 + 1) = lo + n - (q + 1) by omega]
      exact g
  · rintro c st' ⟨q, a, rfl, rfl, rn, nd, hq, al⟩
    have e : max n0 nrem = nrem := by omega
    rw [e] at nd hq al ⊢
    exact h nrem q a rn h2 (Nat.le_refl _) nd hq al
theorem wpS_countRunG (o : Ord S LT) (hl : LtIs prog w A E s κ S LT) {lo nrem : Nat} {st : SortSt} {Q : Option Nat → SortSt → Prop} (hs : kindOf st = κ) (hall : ∀ (j : Nat) (x : Keyed), (arrOf st)[j]? = some x → S x) (h1 : 1 ≤ nrem) (hz : lo + nrem ≤ (arrOf st).size)
    (h : ∀ m a, Rn (arrOf st) a lo (lo + nrem) → 1 ≤ m → m ≤ nrem → SR LT a lo (lo + m) → Q (some m) (setArr st a)) : wpS (model prog w) A E s (countRun' lo nrem) Q st := by
  unfold countRun'
  k_delta "countRun"
  refine wpS_bind (wpS_asc o hall (fun i n x y Q' ex ey q1 q2 => ?_) (Nat.le_refl 1) h1 hz SR.one fun n hn1 hn2 sr hor => ?_)
  · dsimp only
    refine wpS_bind (wpS_ltG hl hs ex ey (hall _ _ ex) (hall _ _ ey) ?_)
    dsimp only
    cases e : LT x y with
    | true => exact wpS_pure (q1 e)
    | false => exact wpS_pure (q2 e)
  dsimp only
  by_cases hnn : n = nrem
  · rw [if_pos (by simpa using hnn)]
    exact wpS_pure (h n _ (Rn.refl _ _ _) hn1 hn2 sr)
  rw [if_neg (by simpa using hnn)]
  obtain ⟨x, y, ex, ey, e⟩ := hor.resolve_left hnn
  have ex1 := o.asym _ _ (hall _ _ ex) (hall _ _ ey) e
  by_cases hgt : n > 1
  · rw [if_pos hgt]
    have ea : (arrOf st)[lo]? = some ((arrOf st)[lo]'(by omega)) := Array.getElem?_eq_getElem _
    refine wpS_bind (wpS_ltG hl hs ea ey (hall _ _ ea) (hall _ _ ey) ?_)
    dsimp only
    cases er : LT ((arrOf st)[lo]'(by omega)) y with
    | true =>
      rw [if_pos rfl]
      exact wpS_pure (h n _ (Rn.refl _ _ _) hn1 hn2 sr)
    | false =>
      rw [if_neg (by decide)]
      have rf : ∀ {x}, S x → LT x x = false := fun hx => o.irr hx
      have al0 : AL LT (arrOf st) lo (lo + n) := fun i j u v i1 i2 j1 j2 eu ev => by
        have c1 : leO LT u y := by
          by_cases c : i = lo + n - 1
          · subst c; rw [ey] at eu; cases eu; exact rf (hall _ _ ey)
          · exact sr i (lo + n - 1) u y i1 (by omega) (by omega) eu ey
        have c2 : leO LT ((arrOf st)[lo]'(by omega)) v := by
          by_cases c : j = lo
          · subst c; rw [ea] at ev; cases ev; exact rf (hall _ _ ea)
          · exact sr lo j _ v (Nat.le_refl _) (by omega) j2 ea ev
        exact o.trans u _ v (hall _ _ eu) (hall _ _ ea) (hall _ _ ev) (o.trans u y _ (hall _ _ eu) (hall _ _ ey) (hall _ _ ea) c1 er) c2
      have nd0 : ND LT (arrOf st) lo (lo + n) := fun i j u v i1 i2 j2 eu ev => al0 j i v u (by omega) j2 i1 (by omega) ev eu
      have rn0 := (Rn.refl (arrOf st) lo (lo + nrem)).mirror (i := lo) (j := lo + n) (by omega) (by omega) (by omega)
      have nd1 : ND LT (PyProof.Rows.mirror (arrOf st) lo (lo + n) ((lo + n - lo) / 2)) lo (lo + n + 1) := by
        refine (nd0.alike al0 (Nat.le_refl _) (by omega)).grow o (rn0.all hall) hn1 (x := x) (y := (arrOf st)[lo]'(by omega)) ?_ ?_ ?_
        · rw [getElem?_mirror_all (by omega), if_neg (by omega)]; exact ex
        · rw [getElem?_mirror_all (by omega), if_pos (by omega), show lo + (lo + n) - 1 - (lo + n - 1) = lo by omega]; exact ea
        · exact o.trans x y _ (hall _ _ ex) (hall _ _ ey) (hall _ _ ea) ex1 er
      refine wpS_bind (wpS_reverse ?_)
      refine wpS_bind (wpS_lift (wpAny_rule ⟨rfl, ?_⟩))
      refine wpS_bind (wpS_desc (st := st) o hall (fun i n q a x y Q' ex ey sx sy q1 q2 q3 q4 => ?_) (by omega) (by omega) hz rn0 nd1 fun m q a rn hm1 hm2 nd hq al => ?_)
      · dsimp only
        refine wpS_bind (wpS_ltG (st := setArr st a) hl hs ex ey sx sy ?_)
        dsimp only
        cases e : LT x y with
        | true =>
          rw [if_pos rfl]
          by_cases hq : q > 0
          · rw [if_pos hq]
            exact wpS_bind (wpS_reverse (wpS_pure (q1 e hq)))
          · rw [if_neg hq]
            exact wpS_pure (q2 e hq)
        | false =>
          rw [if_neg (by decide)]
          refine wpS_bind (wpS_ltG (st := setArr st a) hl hs ey ex sy sx ?_)
          dsimp only
          cases e' : LT y x with
          | true => exact wpS_pure (q3 e e')
          | false => exact wpS_pure (q4 e e')
      dsimp only
      have hsz := rn.size
      by_cases hq0 : q > 0
      · rw [if_pos hq0]
        have rn2 := rn.mirror (i := lo + m - (q + 1)) (j := lo + m) (by omega) (by omega) (by omega)
        have nd2 := nd.alike al (by omega) (by omega)
        have z2 := rn2.size
        have rn3 := rn2.mirror (i := lo) (j := lo + m) (by omega) (by omega) (by omega)
        refine wpS_bind (wpS_reverse ?_)
        refine wpS_bind (wpS_reverse ?_)
        refine wpS_bind (wpS_asc (st := setArr st (PyProof.Rows.mirror (PyProof.Rows.mirror a (lo + m - (q + 1)) (lo + m) ((lo + m - (lo + m - (q + 1))) / 2)) lo (lo + m) ((lo + m - lo) / 2))) (arr := (PyProof.Rows.mirror (PyProof.Rows.mirror a (lo + m - (q + 1)) (lo + m) ((lo + m - (lo + m - (q + 1))) / 2)) lo (lo + m) ((lo + m - lo) / 2))) o (rn3.all hall) (fun i n x y Q' ex ey q1 q2 => ?_) (by omega) hm2 (by rw [rn3.size]; omega) (nd2.turn (by omega)) fun n hn1 hn2 sr hor => wpS_pure (h _ _ rn3 (by omega) hn2 sr))
        dsimp only
        refine wpS_bind (wpS_ltG hl hs ex ey (rn3.all hall _ _ ex) (rn3.all hall _ _ ey) ?_)
        dsimp only
        cases e : LT x y with
        | true => exact wpS_pure (q1 e)
        | false => exact wpS_pure (q2 e)
      · rw [if_neg hq0]
        have rn3 := rn.mirror (i := lo) (j := lo + m) (by omega) (by omega) (by omega)
        refine wpS_bind (wpS_reverse ?_)
        refine wpS_bind (wpS_asc (st := setArr st (PyProof.Rows.mirror a lo (lo + m) ((lo + m - lo) / 2))) (arr := (PyProof.Rows.mirror a lo (lo + m) ((lo + m - lo) / 2))) o (rn3.all hall) (fun i n x y Q' ex ey q1 q2 => ?_) (by omega) hm2 (by rw [rn3.size]; omega) (nd.turn (by omega)) fun n hn1 hn2 sr hor => wpS_pure (h _ _ rn3 (by omega) hn2 sr))
        dsimp only
        refine wpS_bind (wpS_ltG hl hs ex ey (rn3.all hall _ _ ex) (rn3.all hall _ _ ey) ?_)
        dsimp only
        cases e : LT x y with
        | true => exact wpS_pure (q1 e)
        | false => exact wpS_pure (q2 e)
  · rw [if_neg hgt]
    have n1 : n = 1 := by omega
    subst n1
    have nd1 : ND LT (arrOf st) lo (lo + 1 + 1) := ND.grow o hall (fun i j u v h1 h2 h3 => by omega) (Nat.le_refl 1) ex ey ex1
    show wpS (model prog w) A E s _ Q (setArr st (arrOf st))
    refine wpS_bind (wpS_lift (wpAny_rule ⟨rfl, ?_⟩))
    refine wpS_bind (wpS_desc (st := st) o hall (fun i n q a x y Q' ex ey sx sy q1 q2 q3 q4 => ?_) (by omega) (by omega) hz (Rn.refl _ _ _) nd1 fun m q a rn hm1 hm2 nd hq al => ?_)
    · dsimp only
      refine wpS_bind (wpS_ltG (st := setArr st a) hl hs ex ey sx sy ?_)
      dsimp only
      cases e : LT x y with
      | true =>
        rw [if_pos rfl]
        by_cases hq : q > 0
        · rw [if_pos hq]
          exact wpS_bind (wpS_reverse (wpS_pure (q1 e hq)))
        · rw [if_neg hq]
          exact wpS_pure (q2 e hq)
      | false =>
        rw [if_neg (by decide)]
        refine wpS_bind (wpS_ltG (st := setArr st a) hl hs ey ex sy sx ?_)
        dsimp only
        cases e' : LT y x with
        | true => exact wpS_pure (q3 e e')
        | false => exact wpS_pure (q4 e e')
    dsimp only
    have hsz := rn.size
    by_cases hq0 : q > 0
    · rw [if_pos hq0]
      have rn2 := rn.mirror (i := lo + m - (q + 1)) (j := lo + m) (by omega) (by omega) (by omega)
      have nd2 := nd.alike al (by omega) (by omega)
      have z2 := rn2.size
      have rn3 := rn2.mirror (i := lo) (j := lo + m) (by omega) (by omega) (by omega)
      refine wpS_bind (wpS_reverse ?_)
      refine wpS_bind (wpS_reverse ?_)
      refine wpS_bind (wpS_asc (st := setArr st (PyProof.Rows.mirror (PyProof.Rows.mirror a (lo + m - (q + 1)) (lo + m) ((lo + m - (lo + m - (q + 1))) / 2)) lo (lo + m) ((lo + m - lo) / 2))) (arr := (PyProof.Rows.mirror (PyProof.Rows.mirror a (lo + m - (q + 1)) (lo + m) ((lo + m - (lo + m - (q + 1))) / 2)) lo (lo + m) ((lo + m - lo) / 2))) o (rn3.all hall) (fun i n x y Q' ex ey q1 q2 => ?_) (by omega) hm2 (by rw [rn3.size]; omega) (nd2.turn (by omega)) fun n hn1 hn2 sr hor => wpS_pure (h _ _ rn3 (by omega) hn2 sr))
      dsimp only
      refine wpS_bind (wpS_ltG hl hs ex ey (rn3.all hall _ _ ex) (rn3.all hall _ _ ey) ?_)
      dsimp only
      cases e : LT x y with
      | true => exact wpS_pure (q1 e)
      | false => exact wpS_pure (q2 e)
    · rw [if_neg hq0]
      have rn3 := rn.mirror (i := lo) (j := lo + m) (by omega) (by omega) (by omega)
      refine wpS_bind (wpS_reverse ?_)
      refine wpS_bind (wpS_asc (st := setArr st (PyProof.Rows.mirror a lo (lo + m) ((lo + m - lo) / 2))) (arr := (PyProof.Rows.mirror a lo (lo + m) ((lo + m - lo) / 2))) o (rn3.all hall) (fun i n x y Q' ex ey q1 q2 => ?_) (by omega) hm2 (by rw [rn3.size]; omega) (nd.turn (by omega)) fun n hn1 hn2 sr hor => wpS_pure (h _ _ rn3 (by omega) hn2 sr))
      dsimp only
      refine wpS_bind (wpS_ltG hl hs ex ey (rn3.all hall _ _ ex) (rn3.all hall _ _ ey) ?_)
      dsimp only
      cases e : LT x y with
      | true => exact wpS_pure (q1 e)
      | false => exact wpS_pure (q2 e)
end
end L2

namespace L2
open PySem PySem.Spec PyProof.Rows
section
variable {prog : Program} {w : World} {A : Around} {E : Value → Shared → Prop} {s : Shared} {κ : SortKind} {LT : Keyed → Keyed → Bool} {S : Keyed → Prop}
theorem wpS_binarySortG (o : Ord S LT) (hl : LtIs prog w A E s κ S LT) {lo n ok : Nat} {st : SortSt} {Q : Bool → SortSt → Prop} (hs : kindOf st = κ) (hall : ∀ (j : Nat) (x : Keyed), (arrOf st)[j]? = some x → S x) (hn : lo + n ≤ (arrOf st).size) (hok1 : 1 ≤ ok) (hok : ok ≤ n) (sr : SR LT (arrOf st) lo (lo + ok))
    (h : ∀ a, Rn (arrOf st) a lo (lo + n) → SR LT a lo (lo + n) → Q true (setArr st a)) : wpS (model prog w) A E s (binarySort' lo n ok) Q st := by
  unfold binarySort'
  k_delta "binarySort"
  refine wpS_bind (wpS_mono (wpS_forRange (I := fun k c st' => c = (none, ()) ∧ ∃ a, st' = setArr st a ∧ Rn (arrOf st) a lo (lo + n) ∧ SR LT a lo (lo + k))
    (Q := fun c st' => c = (none, ()) ∧ ∃ a, st' = setArr st a ∧ Rn (arrOf st) a lo (lo + n) ∧ SR LT a lo (lo + n)) ?step ?fin ⟨rfl, arrOf st, rfl, Rn.refl _ _ _, by rw [show max ok 1 = ok by omega]; exact sr⟩) ?post)
  case post =>
    rintro c st' ⟨rfl, a, rfl, rn, sr⟩
    exact wpS_pure (h a rn sr)
  case fin =>
    rintro c st' ⟨rfl, a, rfl, rn, sr⟩
    rw [show max (max ok 1) n = n by omega] at sr
    exact ⟨rfl, a, rfl, rn, sr⟩
  rintro k c st' hk1 hk2 ⟨rfl, a, rfl, rn, sr⟩
  dsimp only
  have hsz := rn.size
  have ha := rn.all hall
  have ek : a[lo + k]? = some (a[lo + k]'(by omega)) := Array.getElem?_eq_getElem _
  refine wpS_bind (wpS_mono (wpS_forRange (I := fun x c st'' => st'' = setArr st a ∧ ∃ l r, c = (none, l, r) ∧ l ≤ r ∧ r ≤ k ∧ r - l ≤ k - x ∧
        (∀ i u, i < l → a[lo + i]? = some u → leO LT u (a[lo + k]'(by omega))) ∧ (∀ i u, r ≤ i → i < k → a[lo + i]? = some u → LT (a[lo + k]'(by omega)) u = true))
      (Q := fun c st'' => st'' = setArr st a ∧ ∃ l, c = (none, l, l) ∧ l ≤ k ∧
        (∀ i u, i < l → a[lo + i]? = some u → leO LT u (a[lo + k]'(by omega))) ∧ (∀ i u, l ≤ i → i < k → a[lo + i]? = some u → LT (a[lo + k]'(by omega)) u = true)) ?_ ?_ ⟨rfl, 0, k, rfl, by omega, by omega, by omega, fun i u hi => by omega, fun i u h1 h2 => by omega⟩) ?_)
  · rintro x c st'' _ hx ⟨rfl, l, r, rfl, hlr, hrk, hm, hlo, hhi⟩
    dsimp only
    by_cases hge : l ≥ r
    · rw [if_pos hge]
      have : l = r := by omega
      subst this
      exact wpS_pure ⟨rfl, l, rfl, hrk, hlo, hhi⟩
    · rw [if_neg hge]
      have em : a[lo + (l + r) / 2]? = some (a[lo + (l + r) / 2]'(by omega)) := Array.getElem?_eq_getElem _
      refine wpS_bind (wpS_ltG (st := setArr st a) hl hs ek em (ha _ _ ek) (ha _ _ em) ?_)
      dsimp only
      cases e : LT (a[lo + k]'(by omega)) (a[lo + (l + r) / 2]'(by omega)) with
      | true =>
        rw [if_pos rfl]
        refine wpS_pure ⟨rfl, l, (l + r) / 2, rfl, by omega, by omega, by omega, hlo, fun i u h1 h2 eu => ?_⟩
        by_cases c : i = (l + r) / 2
        · subst c; rw [em] at eu; cases eu; exact e
        · have le := sr (lo + (l + r) / 2) (lo + i) _ u (by omega) (by omega) (by omega) em eu
          cases g : LT (a[lo + k]'(by omega)) u with
          | true => rfl
          | false =>
            have := o.trans _ _ _ (ha _ _ em) (ha _ _ eu) (ha _ _ ek) le g
            rw [e] at this; cases this
      | false =>
        rw [if_neg (by decide)]
        refine wpS_pure ⟨rfl, (l + r) / 2 + 1, r, rfl, by omega, by omega, by omega, fun i u h1 eu => ?_, hhi⟩
        by_cases c : i = (l + r) / 2
        · subst c; rw [em] at eu; cases eu; exact e
        · exact o.trans u _ _ (ha _ _ eu) (ha _ _ em) (ha _ _ ek) (sr (lo + i) (lo + (l + r) / 2) u _ (by omega) (by omega) (by omega) eu em) e
  · rintro c st'' ⟨rfl, l, r, rfl, hlr, hrk, hm, hlo, hhi⟩
    have : l = r := by omega
    subst this
    exact ⟨rfl, l, rfl, hrk, hlo, hhi⟩
  · rintro c st'' ⟨rfl, l, rfl, hlk, hlo, hhi⟩
    dsimp only
    refine wpS_bind (wpS_modify (wpS_pure ⟨rfl, bubble a (lo + k) (lo + k - (lo + l)), rfl, rn.bubble (by omega) (by omega) (by omega), ?_⟩))
    intro i j u v h1 h2 h3 eu ev
    rw [getElem?_bubble (by omega) _ (by omega), show lo + k - (lo + k - (lo + l)) = lo + l by omega] at eu ev
    by_cases c1 : i = lo + l
    · rw [if_pos c1] at eu
      rw [if_neg (by omega), if_pos (by omega)] at ev
      rw [ek] at eu; cases eu
      refine o.asym _ _ (ha _ _ ek) (ha _ _ ev) (hhi (j - 1 - lo) v (by omega) (by omega) (by rw [show lo + (j - 1 - lo) = j - 1 by omega]; exact ev))
    · rw [if_neg c1] at eu
      by_cases c2 : lo + l < i ∧ i ≤ lo + k
      · rw [if_pos c2] at eu
        rw [if_neg (by omega), if_pos (by omega)] at ev
        exact sr _ _ u v (by omega) (by omega) (by omega) eu ev
      · rw [if_neg c2] at eu
        by_cases c3 : j = lo + l
        · rw [if_pos c3] at ev
          rw [ek] at ev; cases ev
          exact hlo (i - lo) u (by omega) (by rw [show lo + (i - lo) = i by omega]; exact eu)
        · rw [if_neg c3] at ev
          by_cases c4 : lo + l < j ∧ j ≤ lo + k
          · rw [if_pos c4] at ev
            exact sr _ _ u v (by omega) (by omega) (by omega) eu ev
          · rw [if_neg c4] at ev
            exact sr _ _ u v (by omega) (by omega) (by omega) eu ev
end
/-! ### the runs that wait -/
abbrev Run3 : Type := Nat × Nat × Nat
def Runs (LT : Keyed → Keyed → Bool) (arr : Array Keyed) : List Run3 → Nat → Nat → Prop
  | [], lo, hi => lo = hi
  | (s, n, _) :: r, lo, hi => s = lo ∧ 1 ≤ n ∧ SR LT arr lo (lo + n) ∧ Runs LT arr r (lo + n) hi
section
variable {LT : Keyed → Keyed → Bool} {arr arr' : Array Keyed}
theorem Runs.le : ∀ {l : List Run3} {lo hi : Nat}, Runs LT arr l lo hi → lo + l.length ≤ hi
  | [], lo, hi, h => by have : lo = hi := h; simp [this]
  | (s, n, p) :: r, lo, hi, h => by have := Runs.le h.2.2.2; have := h.2.1; rw [List.length_cons]; omega
theorem SR.keep {lo hi : Nat} (h : SR LT arr lo hi) (e : ∀ i, lo ≤ i → i < hi → arr'[i]? = arr[i]?) : SR LT arr' lo hi := fun i j x y h1 h2 h3 ex ey => h i j x y h1 h2 h3 (by rw [← e i h1 (by omega)]; exact ex) (by rw [← e j (by omega) h3]; exact ey)
theorem Runs.keep : ∀ {l : List Run3} {lo hi : Nat}, Runs LT arr l lo hi → (∀ i, lo ≤ i → i < hi → arr'[i]? = arr[i]?) → Runs LT arr' l lo hi
  | [], lo, hi, h, _ => h
  | (s, n, p) :: r, lo, hi, h, e => by
    have := h.2.2.2.le
    exact ⟨h.1, h.2.1, h.2.2.1.keep fun i h1 h2 => e i h1 (by omega), h.2.2.2.keep fun i h1 h2 => e i (by omega) h2⟩
theorem Runs.append : ∀ {l m : List Run3} {lo mid hi : Nat}, Runs LT arr l lo mid → Runs LT arr m mid hi → Runs LT arr (l ++ m) lo hi
  | [], m, lo, mid, hi, h, h' => by have : lo = mid := h; subst this; exact h'
  | (s, n, p) :: r, m, lo, mid, hi, h, h' => ⟨h.1, h.2.1, h.2.2.1, h.2.2.2.append h'⟩
theorem Runs.split : ∀ {l m : List Run3} {lo hi : Nat}, Runs LT arr (l ++ m) lo hi → ∃ mid, Runs LT arr l lo mid ∧ Runs LT arr m mid hi
  | [], m, lo, hi, h => ⟨lo, rfl, h⟩
  | (s, n, p) :: r, m, lo, hi, h => by
    obtain ⟨mid, h1, h2⟩ := Runs.split (l := r) (m := m) h.2.2.2
    exact ⟨mid, ⟨h.1, h.2.1, h.2.2.1, h1⟩, h2⟩
theorem Runs.congr : ∀ {l m : List Run3} {lo hi : Nat}, l.map (fun p => (p.1, p.2.1)) = m.map (fun p => (p.1, p.2.1)) → Runs LT arr l lo hi → Runs LT arr m lo hi
  | [], [], _, _, _, h => h
  | [], _ :: _, _, _, e, _ => by simp at e
  | _ :: _, [], _, _, e, _ => by simp at e
  | (s, n, p) :: r, (s', n', p') :: r', lo, hi, e, h => by
    simp only [List.map_cons, List.cons.injEq, Prod.mk.injEq] at e
    obtain ⟨⟨rfl, rfl⟩, e⟩ := e
    exact ⟨h.1, h.2.1, h.2.2.1, Runs.congr e h.2.2.2⟩
theorem two_at {l : List Run3} {i : Nat} (h : i + 1 < l.length) : l = l.take i ++ l[i] :: l[i + 1] :: l.drop (i + 2) := by
  have e1 := (List.take_append_drop i l).symm
  rw [List.drop_eq_getElem_cons (by omega), List.drop_eq_getElem_cons h] at e1
  exact e1
theorem erase_two {l : List Run3} {i : Nat} {v : Run3} (h : i + 1 < l.length) : (l.set i v).eraseIdx (i + 1) = l.take i ++ v :: l.drop (i + 2) := by
  apply List.ext_getElem?
  intro j
  have lt : (l.take i).length = i := by simp; omega
  rw [List.getElem?_eraseIdx]
  by_cases c1 : j < i
  · rw [if_pos (by omega), List.getElem?_set_ne (by omega), List.getElem?_append_left (by omega), List.getElem?_take, if_pos c1]
  · by_cases c2 : j = i
    · subst c2
      rw [if_pos (by omega), List.getElem?_set_self (by omega), List.getElem?_append_right (by omega), lt, Nat.sub_self]
      rfl
    · obtain ⟨d, rfl⟩ : ∃ d, j = i + 1 + d := ⟨j - i - 1, by omega⟩
      rw [if_neg (by omega), List.getElem?_set_ne (by omega), List.getElem?_append_right (by omega), lt, show i + 1 + d - i = d + 1 by omega, List.getElem?_cons_succ, List.getElem?_drop]
      congr 1
      omega
theorem pendAt_list {p : Array Run3} {i sa n pw : Nat} (h : i + 1 < p.size) : (pendAt p i sa n pw).toList = p.toList.take i ++ (sa, n, pw) :: p.toList.drop (i + 2) := by
  have hs : i + 1 < (p.setIfInBounds i (sa, n, pw)).size := by rw [Array.size_setIfInBounds]; exact h
  unfold pendAt
  rw [Array.eraseIdxIfInBounds, dif_pos hs, Array.toList_eraseIdx, Array.toList_setIfInBounds]
  exact erase_two (by simpa using h)
end
end L2

namespace L2
open PySem PySem.Spec PyProof.Rows
section
variable {prog : Program} {w : World} {A : Around} {E : Value → Shared → Prop} {s : Shared} {κ : SortKind} {LT : Keyed → Keyed → Bool} {S : Keyed → Prop} {a0 : Array Keyed}
/-- the sort under way: a rearrangement, nothing failed, the runs up to lo -/
structure Sw (κ : SortKind) (LT : Keyed → Keyed → Bool) (a0 : Array Keyed) (lo : Nat) (st : SortSt) : Prop where
  perm : (arrOf st).toList.Perm a0.toList
  kind : kindOf st = κ
  failed : failedOf st = none
  runs : Runs LT (arrOf st) (pendingOf st).toList 0 lo
theorem Sw.size {lo : Nat} {st : SortSt} (h : Sw κ LT a0 lo st) : (arrOf st).size = a0.size := by have := h.perm.length_eq; simpa using this
theorem Sw.all {lo : Nat} {st : SortSt} (h : Sw κ LT a0 lo st) (hall : ∀ (j : Nat) (x : Keyed), a0[j]? = some x → S x) : ∀ (j : Nat) (x : Keyed), (arrOf st)[j]? = some x → S x := Rn.all (lo := 0) (hi := a0.size) ⟨h.perm, fun i hi => by
  have := h.size
  rw [Array.getElem?_eq_none (by omega), Array.getElem?_eq_none (by omega)]⟩ hall
theorem wpS_mergeAtR (o : Ord S LT) (hl : LtIs prog w A E s κ S LT) {i lo : Nat} {st : SortSt} {Q : Bool → SortSt → Prop} (hall : ∀ (j : Nat) (x : Keyed), a0[j]? = some x → S x) (sw : Sw κ LT a0 lo st) (hlo : lo ≤ a0.size) (hi : i + 1 < (pendingOf st).size)
    (h : ∀ st', Sw κ LT a0 lo st' → (pendingOf st').size + 1 = (pendingOf st).size → (∀ j, lo ≤ j → (arrOf st')[j]? = (arrOf st)[j]?) → Q true st') : wpS (model prog w) A E s (mergeAt' i) Q st := by
  have hi' : i + 1 < (pendingOf st).toList.length := by simpa using hi
  have e := two_at hi'
  have hz := sw.size
  have rr := sw.runs
  rw [e] at rr
  obtain ⟨sa, r1, r2⟩ := rr.split
  generalize ev : (pendingOf st).toList[i] = v at r2 e
  generalize ev' : (pendingOf st).toList[i + 1] = v' at r2 e
  obtain ⟨s1, na, pw⟩ := v
  obtain ⟨s2, nb, pw'⟩ := v'
  obtain ⟨rfl, g1, g2, rfl, g3, g4, g5⟩ := r2
  have g6 := g5.le
  have e1 : (pendingOf st)[i]? = some (s1, na, pw) := by rw [← Array.getElem?_toList, List.getElem?_eq_getElem (by omega), ev]
  have e2 : (pendingOf st)[i + 1]? = some (s1 + na, nb, pw') := by rw [← Array.getElem?_toList, List.getElem?_eq_getElem hi', ev']
  refine wpS_mergeAt o hl sw.kind sw.failed (sw.all hall) e1 e2 g1 g3 (by omega) g2 g4 fun st' k f p m => h st' ⟨m.perm.trans sw.perm, k, f, ?_⟩ ?_ fun j hj => m.out j (.inr (by omega))
  · rw [p, pendAt_list hi]
    refine (r1.keep fun j h1 h2 => m.out j (.inl h2)).append ⟨rfl, by omega, ?_, ?_⟩
    · rw [← Nat.add_assoc]; exact m.so
    · rw [← Nat.add_assoc]
      exact g5.keep fun j h1 h2 => m.out j (.inr h1)
  · have z : (pendingOf st').toList.length = i + (1 + ((pendingOf st).toList.length - (i + 2))) := by
      rw [p, pendAt_list hi, List.length_append, List.length_take, List.length_cons, List.length_drop]; omega
    simp only [Array.length_toList] at z
    omega
theorem mod_last {p : Array Run3} {pw : Nat} : (p.modify (p.size - 1) fun (st, len, _) => (st, len, pw)).toList.map (fun p => (p.1, p.2.1)) = p.toList.map (fun p => (p.1, p.2.1)) := by
  apply List.ext_getElem?
  intro j
  rw [List.getElem?_map, List.getElem?_map, Array.getElem?_toList, Array.getElem?_toList, Array.getElem?_modify]
  split
  · cases p[j]? <;> rfl
  · rfl
theorem Sw.push {lo n : Nat} {st : SortSt} (sw : Sw κ LT a0 lo st) (sr : SR LT (arrOf st) lo (lo + n)) (hn : 1 ≤ n) : Sw κ LT a0 (lo + n) (setPending st ((pendingOf st).push (lo, n, 0))) := by
  refine ⟨sw.perm, sw.kind, sw.failed, ?_⟩
  show Runs LT (arrOf st) ((pendingOf st).push (lo, n, 0)).toList 0 (lo + n)
  rw [Array.toList_push]
  exact sw.runs.append ⟨rfl, hn, sr, rfl⟩
theorem Sw.mod {lo : Nat} {st : SortSt} (sw : Sw κ LT a0 lo st) (pw : Nat) : Sw κ LT a0 lo (setPending st ((pendingOf st).modify ((pendingOf st).size - 1) fun x => (x.1, x.2.1, pw))) :=
  ⟨sw.perm, sw.kind, sw.failed, Runs.congr mod_last.symm sw.runs⟩
theorem wpS_sortRunsG (o : Ord S LT) (hl : LtIs prog w A E s κ S LT) {st : SortSt} {Q : Unit → SortSt → Prop} (hs : kindOf st = κ) (hf : failedOf st = none) (hp : pendingOf st = #[]) (hall : ∀ (j : Nat) (x : Keyed), (arrOf st)[j]? = some x → S x)
    (h : ∀ st', (arrOf st').toList.Perm (arrOf st).toList → failedOf st' = none → (arrOf st').toList.Pairwise (leO LT) → Q () st') : wpS (model prog w) A E s sortRuns' Q st := by
  generalize ea : arrOf st = a0 at hall h
  rw [sortRuns'_eq]
  refine wpS_bind (wpS_get ?_)
  dsimp only
  rw [ea]
  generalize minRun' a0.size a0.size 0 = mr
  have sw0 : Sw κ LT a0 0 st := ⟨by rw [ea], hs, hf, by rw [hp]; rfl⟩
  refine wpS_bind (wpS_mono (wpS_forRange (I := fun i c st' => ∃ lo, c = (none, lo) ∧ i ≤ lo ∧ lo ≤ a0.size ∧ Sw κ LT a0 lo st') (Q := fun c st' => ∃ lo, c = (none, lo) ∧ Sw κ LT a0 a0.size st') ?step ?fin ⟨0, rfl, Nat.le_refl _, Nat.zero_le _, sw0⟩) ?post)
  case fin =>
    rintro c st' ⟨lo, rfl, h1, h2, sw⟩
    have : lo = a0.size := by omega
    subst this
    exact ⟨_, rfl, sw⟩
  case step =>
    rintro i c st' _ hi ⟨lo, rfl, h1, h2, sw⟩
    dsimp only
    by_cases hge : lo ≥ a0.size
    · rw [if_pos hge]
      have : lo = a0.size := by omega
      subst this
      exact wpS_pure ⟨_, rfl, sw⟩
    rw [if_neg hge]
    have hz := sw.size
    refine wpS_bind (wpS_countRunG o hl sw.kind (sw.all hall) (by omega) (by omega) fun m a rn hm1 hm2 sr => ?_)
    dsimp only
    have sw1 : Sw κ LT a0 lo (setArr st' a) := ⟨rn.perm.trans sw.perm, sw.kind, sw.failed, sw.runs.keep fun j j1 j2 => rn.out j (.inl j2)⟩
    by_cases hlt : m < mr
    · rw [if_pos hlt]
      refine wpS_bind (wpS_lift (wpAny_rule ⟨rfl, ?_⟩))
      have z1 := sw1.size
      refine wpS_bind (wpS_binarySortG o hl sw1.kind (sw1.all hall) (by omega) hm1 (by omega) sr fun b rn2 sr2 => ?_)
      rw [if_neg (by decide)]
      have sw2 : Sw κ LT a0 lo (setArr (setArr st' a) b) := ⟨rn2.perm.trans sw1.perm, sw1.kind, sw1.failed, sw1.runs.keep fun j j1 j2 => rn2.out j (.inl j2)⟩
      replace sr2 : SR LT (arrOf (setArr (setArr st' a) b)) lo (lo + min (a0.size - lo) mr) := sr2
      have hn1 : 1 ≤ min (a0.size - lo) mr := by omega
      have hn2 : lo + min (a0.size - lo) mr ≤ a0.size := by omega
      generalize min (a0.size - lo) mr = n at sr2 hn1 hn2 ⊢
      generalize setArr (setArr st' a) b = st1 at sw2 sr2 ⊢
      refine wpS_bind (wpS_get ?_)
      cases eb : (pendingOf st1).back? with
      | none =>
        dsimp only
        exact wpS_bind (wpS_modify (wpS_pure ⟨_, rfl, by omega, by omega, sw2.push sr2 hn1⟩))
      | some v =>
        obtain ⟨s1, n1, p1⟩ := v
        dsimp only
        refine wpS_bind (wpS_mono (wpS_forRange (I := fun j c st2 => c = (none, ()) ∧ Sw κ LT a0 lo st2 ∧ SR LT (arrOf st2) lo (lo + n)) (Q := fun c st2 => c = (none, ()) ∧ Sw κ LT a0 lo st2 ∧ SR LT (arrOf st2) lo (lo + n)) ?_ (fun _ _ hh => hh) ⟨rfl, sw2, sr2⟩) ?_)
        · rintro j c st2 _ _ ⟨rfl, sw3, sr3⟩
          refine wpS_bind (wpS_get ?_)
          by_cases hsz : (pendingOf st2).size > 1
          · rw [if_pos hsz]
            obtain ⟨v, ev⟩ : ∃ v, (pendingOf st2)[(pendingOf st2).size - 2]? = some v := ⟨_, Array.getElem?_eq_getElem (by omega)⟩
            obtain ⟨u1, u2, u3⟩ := v
            rw [ev]
            dsimp only
            by_cases hold : u3 ≤ power' a0.size (2 * s1 + n1) (2 * s1 + n1 + n1 + n) a0.size
            · rw [if_pos hold]
              exact wpS_pure ⟨rfl, sw3, sr3⟩
            · rw [if_neg hold]
              refine wpS_bind (wpS_mergeAtR o hl hall sw3 h2 (by omega) fun st3 sw4 _ out => ?_)
              rw [if_neg (by decide)]
              exact wpS_pure ⟨rfl, sw4, sr3.keep fun j j1 _ => out j j1⟩
          · rw [if_neg hsz]
            exact wpS_pure ⟨rfl, sw3, sr3⟩
        · rintro c st2 ⟨rfl, sw3, sr3⟩
          dsimp only
          exact wpS_bind (wpS_modify (wpS_bind (wpS_modify (wpS_pure ⟨_, rfl, by omega, by omega, (sw3.mod _).push sr3 hn1⟩))))
    · rw [if_neg hlt]
      have sw2 := sw1
      have sr2 : SR LT (arrOf (setArr st' a)) lo (lo + m) := sr
      have hn1 := hm1
      have hn2 : lo + m ≤ a0.size := by omega
      generalize setArr st' a = st1 at sw2 sr2 ⊢
      generalize m = n at sr2 hn1 hn2 ⊢
      refine wpS_bind (wpS_get ?_)
      cases eb : (pendingOf st1).back? with
      | none =>
        dsimp only
        exact wpS_bind (wpS_modify (wpS_pure ⟨_, rfl, by omega, by omega, sw2.push sr2 hn1⟩))
      | some v =>
        obtain ⟨s1, n1, p1⟩ := v
        dsimp only
        refine wpS_bind (wpS_mono (wpS_forRange (I := fun j c st2 => c = (none, ()) ∧ Sw κ LT a0 lo st2 ∧ SR LT (arrOf st2) lo (lo + n)) (Q := fun c st2 => c = (none, ()) ∧ Sw κ LT a0 lo st2 ∧ SR LT (arrOf st2) lo (lo + n)) ?_ (fun _ _ hh => hh) ⟨rfl, sw2, sr2⟩) ?_)
        · rintro j c st2 _ _ ⟨rfl, sw3, sr3⟩
          refine wpS_bind (wpS_get ?_)
          by_cases hsz : (pendingOf st2).size > 1
          · rw [if_pos hsz]
            obtain ⟨v, ev⟩ : ∃ v, (pendingOf st2)[(pendingOf st2).size - 2]? = some v := ⟨_, Array.getElem?_eq_getElem (by omega)⟩
            obtain ⟨u1, u2, u3⟩ := v
            rw [ev]
            dsimp only
            by_cases hold : u3 ≤ power' a0.size (2 * s1 + n1) (2 * s1 + n1 + n1 + n) a0.size
            · rw [if_pos hold]
              exact wpS_pure ⟨rfl, sw3, sr3⟩
            · rw [if_neg hold]
              refine wpS_bind (wpS_mergeAtR o hl hall sw3 h2 (by omega) fun st3 sw4 _ out => ?_)
              rw [if_neg (by decide)]
              exact wpS_pure ⟨rfl, sw4, sr3.keep fun j j1 _ => out j j1⟩
          · rw [if_neg hsz]
            exact wpS_pure ⟨rfl, sw3, sr3⟩
        · rintro c st2 ⟨rfl, sw3, sr3⟩
          dsimp only
          exact wpS_bind (wpS_modify (wpS_bind (wpS_modify (wpS_pure ⟨_, rfl, by omega, by omega, (sw3.mod _).push sr3 hn1⟩))))
  case post =>
    rintro c st' ⟨lo, rfl, sw⟩
    dsimp only
    have hle : (pendingOf st').size ≤ a0.size := by have := sw.runs.le; simpa using this
    refine wpS_bind (wpS_mono (wpS_forRange (I := fun j c st2 => c = (none, ()) ∧ Sw κ LT a0 a0.size st2 ∧ (pendingOf st2).size + j ≤ a0.size) (Q := fun c st2 => c = (none, ()) ∧ Sw κ LT a0 a0.size st2 ∧ (pendingOf st2).size ≤ 1) ?_ ?_ ⟨rfl, sw, hle⟩) ?_)
    · rintro j c st2 _ hj ⟨rfl, sw3, hz⟩
      refine wpS_bind (wpS_get ?_)
      by_cases hsz : (pendingOf st2).size ≤ 1
      · rw [if_pos hsz]
        exact wpS_pure ⟨rfl, sw3, hsz⟩
      rw [if_neg hsz]
      refine wpS_bind (wpS_mergeAtR o hl hall sw3 (Nat.le_refl _) ?_ fun st3 sw4 hz4 out => ?_)
      · generalize Option.any _ _ = b
        cases b with
        | true => rw [if_pos rfl]; omega
        | false => rw [if_neg (by decide)]; omega
      · rw [if_neg (by decide)]
        exact wpS_pure ⟨rfl, sw4, by omega⟩
    · rintro c st2 ⟨rfl, sw3, hz⟩
      exact ⟨rfl, sw3, by omega⟩
    · rintro c st2 ⟨rfl, sw3, hz⟩
      refine wpS_pure (h st2 sw3.perm sw3.failed ?_)
      have rr := sw3.runs
      have z := sw3.size
      have hz' : (pendingOf st2).toList.length ≤ 1 := by simpa using hz
      have so : SR LT (arrOf st2) 0 a0.size := by
        generalize (pendingOf st2).toList = l at rr hz'
        match l, rr, hz' with
        | [], rr, _ =>
          have : 0 = a0.size := rr
          intro i j x y h1 h2 h3
          omega
        | [(s, n, p)], rr, _ =>
          obtain ⟨_, _, g, e⟩ := rr
          have e : 0 + n = a0.size := e
          rw [← e]; exact g
      rw [List.pairwise_iff_getElem]
      intro i j hi hj hij
      have hi' : i < (arrOf st2).size := by simpa using hi
      have hj' : j < (arrOf st2).size := by simpa using hj
      exact so i j _ _ (Nat.zero_le _) hij (by omega) (by rw [← Array.getElem?_toList]; exact List.getElem?_eq_getElem hi) (by rw [← Array.getElem?_toList]; exact List.getElem?_eq_getElem hj)
end
end L2

namespace L2
open PySem PySem.Spec PyProof.Rows
/-! ### sorted, of any length -/
section
variable {prog : Program} {w : World} {A : Around} {E : Value → Shared → Prop} {s : Shared} {κ : SortKind}
theorem ltIs_of {S : Value → Prop} {LT : Value → Value → Bool} (h : ∀ u v (C : Bool → Shared → Prop), S u → S v → C (LT u v) s → wpAny (model prog w) A (keyLt' κ u v) C (fun _ _ => False) s) :
    LtIs prog w A E s κ (fun p => S p.1) (fun p q => LT p.1 q.1) := by
  intro x y st Q sx sy hk q
  rw [lt'_eq]
  refine wpS_bind (wpS_get ?_)
  rw [hk]
  refine wpS_bind (wpS_lift (wpAny_attempt (wpAny_mono (h x.1 y.1 (fun b s' => s' = s ∧ b = LT x.1 y.1) sx sy ⟨rfl, rfl⟩) (fun b s' hb => ?_) fun _ _ hF => hF.elim)))
  obtain ⟨rfl, rfl⟩ := hb
  exact ⟨rfl, wpS_pure q⟩
end
section
variable {prog : Program} {w : World} {A : Around} {E : Value → Shared → Prop} {s : Shared} {a : Addr} {vs : List Value} {LT : Value → Value → Bool}
theorem sort_gen {n : Nat} {P : PySem.Fin → Shared → Prop} (ho : s.heap.get? a = some (seqObj "list" vs.toArray n)) (hz : vs.length ≤ 1000000) (o : Ord (· ∈ vs) LT)
    (hk : 2 ≤ vs.length → ∀ h', (∀ b o, b ≠ a → s.heap.get? b = some o → h'.get? b = some o) → ∃ κ : SortKind,
      (∀ Q : SortKind → Shared → Prop, Q κ { s with heap := h' } → wpAny (model prog w) A (keyKind' vs.toArray) Q E { s with heap := h' }) ∧
      ∀ u v (C : Bool → Shared → Prop), u ∈ vs → v ∈ vs → C (LT u v) { s with heap := h' } → wpAny (model prog w) A (keyLt' κ u v) C (fun _ _ => False) { s with heap := h' })
    (h : ∀ out : List Value, out.Perm vs → out.Pairwise (leO LT) → P (.done (.ret .none)) { s with heap := sortedHeap s.heap a vs out.toArray }) : wpAny (model prog w) A (Builtin.«list.sort» ⟨[.ref a], []⟩) P E s := by
  have ha : a < s.heap.objs.size := Heap.lt_size ho
  have hsl : sizeLine = 16777216 := sizeLine_eq
  rw [list_sort_plain]
  refine wpAny_bind (listItems_at ho rfl ?_)
  refine wpAny_bind (listUpdate_at ho rfl ?_ (by rw [List.size_toArray]; omega) (Nat.zero_le _))
  obtain ⟨e1, ho1⟩ : ∃ e1, (s.heap.update a (Obj.mapSeq fun _ => (#[] : Array Value))).get? a = some (seqObj "list" #[] e1) := ⟨_, get?_update_seq ho (fun _ => #[])⟩
  refine wpAny_bind (seqEpoch_at ho1 rfl ?_)
  refine wpAny_bind (wpAny_newTuple ?_ (by show vs.length ≤ _; omega))
  refine wpAny_bind (wpAny_newList ?_ (Nat.zero_le _))
  refine wpAny_holding ?_
  have ho6 : (((s.heap.update a (Obj.mapSeq fun _ => (#[] : Array Value))).push (seqObj "tuple" vs.toArray 0)).push (seqObj "list" #[] 0)).get? a = some (seqObj "list" #[] e1) := by
    rw [Heap.get?_push_ne _ _ _ (by rw [size_push', Heap.size_update]; exact Nat.ne_of_lt (Nat.lt_succ_of_lt ha)), Heap.get?_push_ne _ _ _ (by rw [Heap.size_update]; exact Nat.ne_of_lt ha)]
    exact ho1
  have kp : ∀ b o, b ≠ a → s.heap.get? b = some o → (((s.heap.update a (Obj.mapSeq fun _ => (#[] : Array Value))).push (seqObj "tuple" vs.toArray 0)).push (seqObj "list" #[] 0)).get? b = some o := fun b o hb e => by
    have hlt := Heap.lt_size e
    rw [Heap.get?_push_ne _ _ _ (by rw [size_push', Heap.size_update]; exact Nat.ne_of_lt (Nat.lt_succ_of_lt hlt)), Heap.get?_push_ne _ _ _ (by rw [Heap.size_update]; exact Nat.ne_of_lt hlt), Heap.get?_update_ne _ _ _ _ hb]
    exact e
  show wpAny (model prog w) A _ P E { s with heap := ((s.heap.update a (Obj.mapSeq fun _ => (#[] : Array Value))).push (seqObj "tuple" vs.toArray 0)).push (seqObj "list" #[] 0) }
  dsimp only
  by_cases h2 : vs.toArray.size < 2
  · rw [if_pos h2, if_pos h2]
    refine wpAny_bind (wpAny_pure ?_)
    rw [StateT.run_pure]
    refine wpAny_bind (wpAny_pure ?_)
    dsimp only
    refine wpAny_bind (seqEpoch_at ho6 rfl ?_)
    have e2 : (arrOf (SortSt.mk' general' (vs.toArray.zip vs.toArray) #[] 7 none)).map (·.2) = vs.toArray := pairs_snd vs
    rw [e2]
    refine wpAny_bind (listUpdate_at ho6 rfl ?_ (Nat.zero_le _) (hsz2 := by rw [List.size_toArray]; omega))
    simp only [bne_self_eq_false, Bool.false_eq_true, if_false]
    refine wpAny_pure (h vs (.refl _) ?_)
    rw [List.size_toArray] at h2
    match vs, h2 with
    | [], _ => exact .nil
    | [_], _ => exact List.pairwise_singleton ..
  · rw [if_neg h2, if_neg h2]
    have h2' : 2 ≤ vs.length := by rw [List.size_toArray] at h2; omega
    obtain ⟨κ, hkk, hcc⟩ := hk h2' _ kp
    refine wpAny_bind (hkk _ ?_)
    have mem : ∀ p ∈ (pairsOf vs).toList, p.1 = p.2 ∧ p.1 ∈ vs := fun p hp => by rw [pairsOf_toList] at hp; exact mem_zip_self hp
    have run := wpS_sortRunsG (E := E) (κ := κ) (S := fun p => p.1 ∈ vs) (LT := fun p q => LT p.1 q.1) (st := SortSt.mk' κ (pairsOf vs) #[] 7 none) (Q := fun _ st' => (arrOf st').toList.Perm (pairsOf vs).toList ∧ failedOf st' = none ∧ (arrOf st').toList.Pairwise (leO fun p q => LT p.1 q.1))
      ⟨fun x y hx hy => o.asym _ _ hx hy, fun x y z hx hy hz => o.trans _ _ _ hx hy hz⟩ (ltIs_of hcc) rfl rfl rfl (fun j x e => (mem x (mem_at e)).2) fun st' e1 e2 e3 => ⟨e1, e2, e3⟩
    refine wpAny_bind (wpAny_mono run ?_ fun _ _ e => e)
    rintro ⟨⟨⟩, st'⟩ s' ⟨rfl, hp, hf, hso⟩
    dsimp only at hp hf hso ⊢
    refine wpAny_bind (seqEpoch_at ho6 rfl ?_)
    have out : (arrOf st').map (·.2) = ((arrOf st').toList.map (·.1)).toArray := by
      apply Array.toList_inj.mp
      rw [Array.toList_map, List.toList_toArray]
      exact List.map_congr_left fun p hp' => (mem p (hp.mem_iff.mp hp')).1.symm
    have pm : ((arrOf st').toList.map (·.1)).Perm vs := by
      have := hp.map (·.1)
      rw [pairsOf_toList, List.map_fst_zip (Nat.le_refl _)] at this
      exact this
    rw [out]
    refine wpAny_bind (listUpdate_at ho6 rfl ?_ (Nat.zero_le _) (hsz2 := by rw [List.size_toArray, pm.length_eq]; omega))
    rw [hf]
    simp only [bne_self_eq_false, Bool.false_eq_true, if_false]
    refine wpAny_pure (h _ pm ?_)
    exact List.pairwise_map.mpr hso
end
end L2

namespace L2
open PySem PySem.Spec PyProof.Rows
theorem Paired.flip {α β : Type} {F : α → β → Prop} : ∀ {l : List α} {m : List β}, Paired F l m → Paired (fun b a => F a b) m l
  | _, _, .nil => .nil
  | _, _, .cons r t => .cons r (Paired.flip t)
theorem Paired.memR {α β : Type} {F : α → β → Prop} : ∀ {l : List α} {m : List β} {y : β}, Paired F l m → y ∈ m → ∃ x, x ∈ l ∧ F x y
  | _, _, y, .cons (a := a) r t, h => by
    rcases List.mem_cons.mp h with rfl | h
    · exact ⟨a, List.mem_cons_self .., r⟩
    · obtain ⟨x, h1, h2⟩ := Paired.memR t h
      exact ⟨x, List.mem_cons_of_mem _ h1, h2⟩
theorem Paired.memL {α β : Type} {F : α → β → Prop} {l : List α} {m : List β} {x : α} (p : Paired F l m) (h : x ∈ l) : ∃ y, y ∈ m ∧ F x y := Paired.memR (Paired.flip p) h
/-- how a kind of values is coded for the sort -/
structure SCode (X : Cx) (VC : Hp → V → List Int → Prop) (HC : Heap → Value → List Int → Prop) : Prop where
  down : ∀ {pins : List (Addr × Obj)} {σ : St} {H : Hp} {s : Shared} {v : V} {u : Value} {c : List Int}, Inv X pins σ H s → VC H v c → RelV v u → HC s.heap u c
  uniq : ∀ {h : Heap} {u : Value} {c c' : List Int}, HC h u c → HC h u c' → c = c'
  keep : ∀ {h h' : Heap} {u : Value} {c : List Int}, (∀ b o, h.get? b = some o → h'.get? b = some o) → HC h u c → HC h' u c
  asks : ∀ {s : Shared} {vs : List Value}, (∀ v ∈ vs, ∃ c, HC s.heap v c) → 2 ≤ vs.length → ∃ κ : SortKind, (∀ Q : SortKind → Shared → Prop, Q κ s → wpAny (model X.prog X.w) X.A.in1.in1 (keyKind' vs.toArray) Q (fun _ _ => False) s) ∧
    ∀ u v c c' (C : Bool → Shared → Prop), HC s.heap u c → HC s.heap v c' → C (HT.lexLt c c') s → wpAny (model X.prog X.w) X.A.in1.in1 (keyLt' κ u v) C (fun _ _ => False) s
/-! ints -/
def VI (_ : Hp) (v : V) (c : List Int) : Prop := ∃ i, v = .int i ∧ c = [i]
def CI (_ : Heap) (u : Value) (c : List Int) : Prop := ∃ i t, u = Value.int i t ∧ c = [i]
theorem lex1 (i j : Int) : HT.lexLt [i] [j] = decide (i < j) := by
  rw [HT.lexLt_cons, HT.lexLt_nil_nil]
  split
  · next e => subst e; simp
  · rfl
theorem scI (X : Cx) : SCode X VI CI where
  down := fun _ h r => by
    obtain ⟨i, rfl, rfl⟩ := h
    obtain ⟨t, rfl⟩ := int_of r
    exact ⟨i, t, rfl, rfl⟩
  uniq := fun h h' => by
    obtain ⟨i, t, rfl, rfl⟩ := h
    obtain ⟨j, t', e, rfl⟩ := h'
    cases e; rfl
  keep := fun _ h => h
  asks := fun {s vs} hv h2 => by
    have hi : IntsAre vs (vs.map numOf) := intsAre_map vs fun v hv' => by
      obtain ⟨c, i, t, rfl, _⟩ := hv v hv'
      exact ⟨i, t, rfl⟩
    refine ⟨oneType', fun Q q => ?_, fun u v c c' C hu hv hC => ?_⟩
    · match vs, h2, hi with
      | v₁ :: v₂ :: rest, _, hi =>
        rw [keyKind_ints hi]
        exact wpAny_pure q
    · obtain ⟨i, t, rfl, rfl⟩ := hu
      obtain ⟨j, t', rfl, rfl⟩ := hv
      rw [keyLt'_oneType]
      rw [lex1] at hC
      exact oneLt_int hC
/-! pairs of ints -/
def CP (h : Heap) (u : Value) (c : List Int) : Prop := ∃ p a b t1 t2, u = Value.ref p ∧ IsTup h p #[.int a t1, .int b t2] ∧ c = [a, b]
theorem isTup_keep {h h' : Heap} {p : Addr} {its : Array Value} (k : ∀ b o, h.get? b = some o → h'.get? b = some o) (x : IsTup h p its) : IsTup h' p its := by
  obtain ⟨o, e, r⟩ := x
  exact ⟨o, k _ _ e, r⟩
/-! (n, (a, b)) -/
end L2

namespace L2
open PySem PySem.Spec PyProof.Rows
theorem SCode.of {X : Cx} {VC VC' : Hp → V → List Int → Prop} {HC : Heap → Value → List Int → Prop} (sc : SCode X VC HC) (h : ∀ H v c, VC' H v c → VC H v c) : SCode X VC' HC :=
  ⟨fun I c r => sc.down I (h _ _ _ c) r, sc.uniq, sc.keep, sc.asks⟩
theorem Paired.atR {α β : Type} {F : α → β → Prop} {l : List α} {m : List β} {i : Nat} {y : β} (h : Paired F l m) (e : m[i]? = some y) : ∃ x, l[i]? = some x ∧ F x y := by
  obtain ⟨x, h1, h2⟩ := Paired.at' (Paired.flip h) e
  exact ⟨x, h1, h2⟩
/-! ### isinstance of an exception, or of None -/
end L2

namespace L2
open PySem PySem.Spec PyProof.Rows
/-! ### for k in d: the keys of a dict that is not written any more -/
/-! ### list(range(n)) -/
end L2

namespace L2
open PySem PySem.Spec PyProof.Rows
/-! ### a lambda: its function, its code, the table of the def that makes it -/
/-- one promise of many -/
theorem FnOk.ex {P : Program} {w : World} {K : PySem.W.Frag} {mg : Str → Option Value} {base : Heap} {CX : CXT} {k : Nat} {f : Addr} {fd : FuncData} {ps : List Str} {ι : Type} {sp : ι → Sp} (F : ∀ i, FnOk P w K mg base CX k f fd ps (sp i)) : FnOk P w K mg base CX k f fd ps (fun vs H Q E => ∃ i, sp i vs H Q E) :=
  ⟨fun vs H Q E ⟨i, h⟩ => (F i).len vs H Q E h, fun A outer s H args us vs Q E hr e0 hb r ⟨i, h⟩ => (F i).run A outer s H args us vs Q E hr e0 hb r h⟩
end L2

namespace L2
open PySem PySem.Spec PyProof.Rows
section
variable {X : Cx} {c P : Addr} {params : Arguments} {body : Expr} {scope : Scope} {pos : Pos}
end
end L2

namespace L2
open PySem PySem.Spec PyProof.Rows
/-! ### a def that makes a lambda: its code is known -/
structure FunC (K : PySem.W.Frag) (x qual : Str) (st : Stmt) (f : Addr) (fd : FuncData) (c P : Addr) : Prop where
  ex : ∃ (oc : Value) (od : Option Addr) (kV doc pm : Value) (an : Option Addr) (ct : Value) (osl : Array (Option Value)),
    fd = PySem.W.fnOf x qual (defArgs st) (defBody st) (defScope st) .none kV doc pm an (.ref c) ct ∧ K.lookup f = some ⟨oc, od, .func fd, osl⟩ ∧ PySem.W.codeIn K (.ref c) qual = true
  kp : PySem.W.keepIn K (.ref f) = true
  hd : PySem.W.codeHdIn K c P = true
theorem FunC.ok {P0 : Program} {w : World} {K : PySem.W.Frag} {mg : Str → Option Value} {base : Heap} {x qual : Str} {st : Stmt} {f : Addr} {fd : FuncData} {c P : Addr} {N ps : List Str} {k : Nat} {sp : Sp} (F : FunC K x qual st f fd c P) (S : FnScope N ps (defScope st)) (len : ∀ vs H Q E, sp vs H Q E → vs.length = ps.length)
    (hbody : ∀ (A : Around) (outer : List Env) (s : Shared) (H : Hp) (vs : List V) (Q : VK) (E : XK), Room k (A.deeper (envOfC qual (defScope st) s.heap.objs.size f (.ref c))) → sp vs H Q E →
      ∃ t, PSs (cxOf CX0 P0 w K mg base N qual (defScope st) f (.ref c) A outer s H E).nox (defBody st) t ∧ t { nx := fun _ H' => Q .non H', rt := Q } (start N vs) H) : FnOk P0 w K mg base CX0 (k + 1) f fd ps sp := by
  obtain ⟨oc, od, kV, doc, pm, an, ct, osl, rfl, lk, hcd⟩ := F.ex
  refine fn_of lk hcd S len fun A outer s H vs Q E hr hsp => ?_
  obtain ⟨t, h, q⟩ := hbody A outer s H vs Q E hr hsp
  exact ⟨t, h.nox, q⟩
/-! ### the law's call where tables are tracked -/
end L2

namespace L2
open PySem PySem.Spec PyProof.Rows
/-! ### texts: join, split, removeprefix, int(text), all, any, the walk of a text -/
section
variable {X : Cx}
/-! ### for sign in text -/
end
end L2

namespace L2
open PySem PySem.Spec PyProof.Rows
/-! ### the signs of a number, of a row -/
/-! ### words joined by a blank, and split again -/
end L2

namespace L2
open PySem PySem.Spec PyProof.Rows
section
variable {X : Cx}
end
end L2

namespace L2
open PySem PySem.Spec PyProof.Rows
section
variable {X : Cx}
end
end L2

namespace PySem
open Builtin
end PySem

namespace PySem
open Builtin PySem.AutoSeq1
end PySem
namespace L2
open PySem PySem.Spec PyProof.Rows
end L2

namespace L2
open PySem PySem.Spec PyProof.Rows
/-! ### sorted(xs, key=f) -/
section
variable {X : Cx} {pins : List (Addr × Obj)} {σ : St} {H0 : Hp} {f a kS : Addr} {xs : List V} {cs : List (List Int)} {VC : Hp → V → List Int → Prop} {HC : Heap → Value → List Int → Prop} {e1 : Nat} {E : Value → Shared → Prop}
end
end L2

namespace L2
open PySem PySem.Spec PyProof.Rows
section
variable {X : Cx} {pins : List (Addr × Obj)} {σ : St} {H0 : Hp} {f a kS : Addr} {xs : List V} {cs : List (List Int)} {VC : Hp → V → List Int → Prop} {HC : Heap → Value → List Int → Prop} {e1 : Nat} {E : Value → Shared → Prop}
end
end L2

namespace L2
open PySem PySem.Spec PyProof.Rows
/-! ### a lambda that keeps names of the frame that made it, called from that frame -/
section
variable {X : Cx} {A : Around} {y : Str} {Nc : List Str} {cap : List (Option Nat)} {qual : Str} {scope : Scope} {cl : List (Str × Addr)} {f c : Addr} {s : Shared} {H : Hp} {pins : List (Addr × Obj)} {σ : St}
end
end L2

namespace L2
open PySem PySem.Spec PyProof.Rows
/-! ### a built-in function with keywords, where the names of the frame count -/
section
variable {X : Cx} {K : PySem.W.Frag} {x : Str} {p pos : Pos} {e : Expr} {es : List Expr} {kws : List Keyword} {t tk : TA} {id : String} {ks : List Str}
end
/-! ### what may be sorted: a list, a range -/
end L2

namespace L2
open PySem PySem.Spec PyProof.Rows
/-! ### min, max by keys that lie on the heap -/
def KeptH (xs : List V) (KV : Hp → Nat → V → Prop) (H : Hp) (jb : Option Nat) (its : Array Value) : Prop := match jb with
  | none => its = #[]
  | some j => ∃ x y u v, xs[j]? = some x ∧ RelV x u ∧ KV H j y ∧ RelV y v ∧ its = #[u, v]
theorem KeptH.mono {xs : List V} {KV : Hp → Nat → V → Prop} (km : ∀ H H' i y, Same H H' → KV H i y → KV H' i y) {H H' : Hp} {jb : Option Nat} {its : Array Value} (s : Same H H') (h : KeptH xs KV H jb its) : KeptH xs KV H' jb its := by
  cases jb with
  | none => exact h
  | some j =>
    obtain ⟨x, y, u, v, h1, h2, h3, h4, h5⟩ := h
    exact ⟨x, y, u, v, h1, h2, km _ _ _ _ s h3, h4, h5⟩
section
variable {X : Cx} {pins : List (Addr × Obj)} {σ : St} {H0 : Hp} {a I S : Addr} {xs : List V} {KV : Hp → Nat → V → Prop} {bt : Nat → Nat → Bool} {key : Value} {kw : List (Str × Value)} {R : Result → Shared → Prop}
end
section
variable {X : Cx} {pins : List (Addr × Obj)} {σ : St} {H : Hp} {s : Shared} {a : Addr} {xs : List V} {KV : Hp → Nat → V → Prop} {bt : Nat → Nat → Bool} {Q : VK}
end
end L2

namespace L2
open PySem PySem.Spec PyProof.Rows
/-! ### values that are compared as their codes are -/
section
variable {A : Around} {s : Shared} {a b : Addr} {u1 u2 u3 v1 v2 v3 : Value} {i j : Int} {c c' : List Int}
end
/-! ### the shapes: (a, b); (n, (a, b)); (d, (n, (a, b))) -/
theorem two_of {X : Cx} {pins : List (Addr × Obj)} {σ : St} {H : Hp} {s : Shared} {p : Addr} {x y : V} (I : Inv X pins σ H s) (h : H p = some (.tup [x, y])) : ∃ u v, RelV x u ∧ RelV y v ∧ IsTup s.heap p #[u, v] := by
  obtain ⟨its, rv, it, _⟩ := I.tuple (SqT.of (K := X.K) h)
  cases rv with
  | cons r1 r2 =>
    cases r2 with
    | cons r3 r4 =>
      cases r4
      exact ⟨_, _, r1, r3, it⟩
/-! ### min, max of coded values; by a lambda -/
end L2

namespace L2
open PySem PySem.Spec PyProof.Rows
/-! ### len(d), d a dict with tuples as keys -/
end L2

namespace L2
open PySem PySem.Spec PyProof.Rows
/-! ### list(zip(a, b)): the pairs are kept -/
section
variable {P : Program} {w : World} {A : Around} {E : Value → Shared → Prop} {s : Shared}
abbrev IsZ2 (h : Heap) (z TI TO : Addr) (ad : Addr) (f : Bool) : Prop :=
  h.get? z = some { cls := .type "zip", dict := none, data := .fields #[rawInt ad, .bool f, .bool false, .ref TI, .ref TO], slots := #[] }
/-- the state of a zip whose first pair is held by another -/
structure ZOut (b1 b2 : Bool) (z TI TO i1 i2 l1 l2 ad : Addr) (k : Nat) (h : Heap) : Prop where
  zz : ∃ f : Bool, IsZ2 h z TI TO ad f
  ti : IsPair h TI (.ref i1) (.ref i2)
  al : ∃ o, h.get? ad = some o
  h1 : ZI b1 h i1 l1 k
  h2 : ZI b2 h i2 l2 k
  n1 : ad ≠ z
  n2 : ad ≠ i1
  n3 : ad ≠ i2
/-- the state of a zip, its pairs held or not yet made -/
def ZAny (b1 b2 : Bool) (z TI TO i1 i2 l1 l2 S : Addr) (k : Nat) (h : Heap) : Prop := ZSt b1 b2 z TI TO i1 i2 l1 l2 .none k h ∨ ∃ ad, ZOut b1 b2 z TI TO i1 i2 l1 l2 ad k h ∧ ad ≠ S
theorem ZAny.keep {b1 b2 : Bool} {z TI TO i1 i2 l1 l2 S : Addr} {k : Nat} {h h' : Heap} (Z : ZAny b1 b2 z TI TO i1 i2 l1 l2 S k h) (hS : S ∉ [z, TI, TO, i1, i2]) (e : ∀ b o, b ≠ S → h.get? b = some o → h'.get? b = some o) : ZAny b1 b2 z TI TO i1 i2 l1 l2 S k h' := by
  simp only [List.mem_cons, List.not_mem_nil, or_false, not_or] at hS
  obtain ⟨s1, s2, s3, s4, s5⟩ := hS
  rcases Z with ⟨z1, z2, ⟨a, c, z3⟩, y1, y2⟩ | ⟨ad, ⟨⟨f, z1⟩, z2, ⟨o, z3⟩, y1, y2, n1, n2, n3⟩, ne⟩
  · exact .inl ⟨e _ _ (Ne.symm s1) z1, e _ _ (Ne.symm s2) z2, ⟨a, c, e _ _ (Ne.symm s3) z3⟩, y1.at fun o q => e _ _ (Ne.symm s4) q, y2.at fun o q => e _ _ (Ne.symm s5) q⟩
  · exact .inr ⟨ad, ⟨⟨f, e _ _ (Ne.symm s1) z1⟩, e _ _ (Ne.symm s2) z2, ⟨o, e _ _ ne z3⟩, y1.at fun o q => e _ _ (Ne.symm s4) q, y2.at fun o q => e _ _ (Ne.symm s5) q, n1, n2, n3⟩, ne⟩
theorem ZAny.type {b1 b2 : Bool} {z TI TO i1 i2 l1 l2 S : Addr} {k : Nat} (Z : ZAny b1 b2 z TI TO i1 i2 l1 l2 S k s.heap) : s.TypeIs (.ref z) "zip" := by
  rcases Z with Z | ⟨ad, ⟨⟨f, z1⟩, _⟩, _⟩
  · exact ⟨_, Z.zz, rfl⟩
  · exact ⟨_, z1, rfl⟩
end
section
variable {X : Cx} {pins : List (Addr × Obj)} {σ : St} {A : Around} {R : Result → Shared → Prop} {b1 b2 : Bool} {z TI TO i1 i2 l1 l2 S : Addr} {xs ys : List V} {n : Nat}
end
theorem SqB.same {K : PySem.W.Frag} {H H' : Hp} {b : Bool} {l : Addr} {us : List V} (S : Same H H') (h : SqB K b H l us) : SqB K b H' l us := by
  have rd : ∀ o, Rd H l o → Rd H' l o := fun o r => by
    rcases r with r | ⟨ob, r⟩
    · exact .inl (S _ _ r)
    · exact .inr ⟨ob, S _ _ r⟩
  cases b with
  | true =>
    rcases (show SqT K H l us from h) with r | r
    · exact Or.inl (rd _ r)
    · exact Or.inr r
  | false =>
    rcases (show SqL K H l us from h) with r | r
    · exact Or.inl (rd _ r)
    · exact Or.inr r
section
variable {X : Cx}
end
end L2

namespace L2
open PySem PySem.Spec PyProof.Rows
/-! ### the places of a set's table rise -/
def Rise (xs : Array Nat) : Prop := xs.toList.Pairwise (· < ·)
theorem below_go {xs : Array Nat} {j : Nat} (hr : Rise xs) : ∀ (fuel lo hi : Nat), hi - lo ≤ fuel → lo ≤ hi → hi ≤ xs.size → (∀ i x, i < lo → xs[i]? = some x → x < j) → (∀ i x, hi ≤ i → xs[i]? = some x → j ≤ x) →
    (∀ i x, i < SetTable.below.go xs j fuel lo hi → xs[i]? = some x → x < j) ∧ (∀ i x, SetTable.below.go xs j fuel lo hi ≤ i → xs[i]? = some x → j ≤ x) ∧ SetTable.below.go xs j fuel lo hi ≤ xs.size
  | 0, lo, hi, hf, hl, hs, h1, h2 => by
    unfold SetTable.below.go
    have : lo = hi := by omega
    subst this
    exact ⟨h1, h2, hs⟩
  | fuel + 1, lo, hi, hf, hl, hs, h1, h2 => by
    unfold SetTable.below.go
    by_cases hlt : lo < hi
    · rw [if_pos hlt]
      have hm : (lo + hi) / 2 < xs.size := by omega
      have hg : xs[(lo + hi) / 2]? = some xs[(lo + hi) / 2] := Array.getElem?_eq_getElem hm
      have hd : xs.getD ((lo + hi) / 2) j = xs[(lo + hi) / 2] := by simp [Array.getD, hm]
      have pw := List.pairwise_iff_getElem.mp hr
      have mono : ∀ a b x y, a < b → xs[a]? = some x → xs[b]? = some y → x < y := fun a b x y hab ha hb => by
        obtain ⟨ha', ea⟩ := Array.getElem?_eq_some_iff.mp ha
        obtain ⟨hb', eb⟩ := Array.getElem?_eq_some_iff.mp hb
        have := pw a b (by simpa using ha') (by simpa using hb') hab
        simp only [Array.getElem_toList] at this
        rw [ea, eb] at this
        exact this
      simp only [hd]
      by_cases hx : xs[(lo + hi) / 2] < j
      · rw [if_pos hx]
        refine below_go hr fuel _ _ (by omega) (by omega) hs (fun i x hi' e => ?_) h2
        rcases Nat.lt_or_ge i ((lo + hi) / 2) with q | q
        · exact Nat.lt_trans (mono _ _ _ _ q e hg) hx
        · have : i = (lo + hi) / 2 := by omega
          subst this
          rw [hg] at e; cases e; exact hx
      · rw [if_neg hx]
        refine below_go hr fuel _ _ (by omega) (by omega) (by omega) h1 (fun i x hi' e => ?_)
        rcases Nat.lt_or_ge ((lo + hi) / 2) i with q | q
        · have := mono _ _ _ _ q hg e; omega
        · have : i = (lo + hi) / 2 := by omega
          subst this
          rw [hg] at e; cases e; omega
    · rw [if_neg hlt]
      have : lo = hi := by omega
      subst this
      exact ⟨h1, h2, hs⟩
theorem below_spec {xs : Array Nat} (hr : Rise xs) (j : Nat) : (∀ i x, i < SetTable.below xs j → xs[i]? = some x → x < j) ∧ (∀ i x, SetTable.below xs j ≤ i → xs[i]? = some x → j ≤ x) ∧ SetTable.below xs j ≤ xs.size := by
  unfold SetTable.below
  exact below_go hr _ _ _ (by omega) (Nat.zero_le _) (Nat.le_refl _) (fun i x h _ => by omega) (fun i x h e => by have := (Array.getElem?_eq_some_iff.mp e).1; omega)
theorem rise_insert {xs : Array Nat} (hr : Rise xs) {j : Nat} (hn : xs[SetTable.below xs j]? ≠ some j) : Rise (SetTable.insertAt xs (SetTable.below xs j) j) := by
  obtain ⟨h1, h2, h3⟩ := below_spec hr j
  unfold Rise
  rw [SetTable.toList_insertAt]
  generalize SetTable.below xs j = r at *
  have pw : xs.toList.Pairwise (· < ·) := hr
  rw [List.pairwise_append, List.pairwise_cons]
  have ge : ∀ b ∈ xs.toList.drop r, j < b := fun b hb => by
    obtain ⟨k, hk⟩ := List.mem_iff_getElem?.mp hb
    rw [List.getElem?_drop] at hk
    have hk' : xs[r + k]? = some b := by simpa using hk
    have hle := h2 (r + k) b (by omega) hk'
    rcases Nat.lt_or_eq_of_le hle with q | q
    · exact q
    · exfalso
      subst q
      rcases Nat.eq_zero_or_pos k with z | z
      · subst z; exact hn hk'
      · obtain ⟨hb', eb⟩ := Array.getElem?_eq_some_iff.mp hk'
        have hr' : xs[r]? = some xs[r] := Array.getElem?_eq_getElem (by omega)
        have := h2 r _ (Nat.le_refl _) hr'
        have := List.pairwise_iff_getElem.mp pw r (r + k) (by simp; omega) (by simpa using hb') (by omega)
        simp only [Array.getElem_toList] at this
        omega
  refine ⟨pw.sublist (List.take_sublist ..), ⟨ge, pw.sublist (List.drop_sublist ..)⟩, fun a ha b hb => ?_⟩
  have ha' : a < j := by
    obtain ⟨k, hk⟩ := List.mem_iff_getElem?.mp ha
    rw [List.getElem?_take] at hk
    split at hk
    · exact h1 k a (by assumption) (by simpa using hk)
    · cases hk
  rcases List.mem_cons.mp hb with rfl | hb
  · exact ha'
  · exact Nat.lt_trans ha' (ge b hb)
/-- what is kept of a table -/
structure TabOk (b : Bool) (t : SetTable) : Prop where
  led : t.led = b
  rise : Rise t.place
  dum : t.dummies = #[]
theorem has_empty (j : Nat) : SetTable.has #[] j = false := rfl
theorem laid_ok {b : Bool} {mask finger moves : Nat} {plain : Bool} {hs : Array Int} {t' : SetTable} {ord : Array Nat} (e : SetTable.laid mask finger moves b plain hs = some (t', ord)) : TabOk b t' := by
  unfold SetTable.laid at e
  cases hl : SetTable.layClean mask hs with
  | none => rw [hl] at e; cases e
  | some owner =>
    rw [hl] at e
    cases e
    refine ⟨rfl, ?_, rfl⟩
    unfold Rise
    simp only
    have : ((List.range (mask + 1)).filterMap fun j => (owner.getD j none).map (j, ·)).Pairwise (fun p q => p.1 < q.1) := by
      refine List.Pairwise.filterMap _ ?_ (List.pairwise_lt_range (n := mask + 1))
      intro a a' hlt p hp q hq
      obtain ⟨y, _, rfl⟩ := Option.map_eq_some_iff.mp hp
      obtain ⟨z, _, rfl⟩ := Option.map_eq_some_iff.mp hq
      exact hlt
    simpa [List.pairwise_map] using this
theorem TabOk.fresh (b : Bool) : TabOk b (.fresh 0 0 b) := ⟨rfl, List.Pairwise.nil, rfl⟩
end L2

namespace L2
open PySem PySem.Spec PyProof.Rows
def kOf (e : Int × Value) : Int := match e.2 with | .int k _ => k | _ => 0
/-- the entries of a set of ints: what was put in, each once -/
structure EsOk (es : List (Int × Value)) (ns : List Int) : Prop where
  el : ∀ e ∈ es, (∃ t, e.2 = .int (kOf e) t) ∧ e.1 = hashInt (kOf e)
  nd : (es.map kOf).Nodup
  mem : ∀ k, k ∈ es.map kOf ↔ k ∈ ns
theorem EsOk.len {es : List (Int × Value)} {ns : List Int} (h : EsOk es ns) : es.length ≤ ns.length := by
  have := List.Nodup.length_le_of_subset h.nd fun k hk => (h.mem k).mp hk
  rw [List.length_map] at this
  exact this
/-- a set of ints on the heap -/
def ISet (h : Heap) (a : Addr) (b : Bool) (ns : List Int) : Prop := ∃ o es ep t, h.get? a = some o ∧ o.ExactSet ∧ o.data = .set es ep t ∧ EsOk es.toList ns ∧ t.fits es.size = true ∧ TabOk b t
theorem ISet.at {h h' : Heap} {a : Addr} {b : Bool} {ns : List Int} (x : ISet h a b ns) (k : ∀ o, h.get? a = some o → h'.get? a = some o) : ISet h' a b ns := let ⟨o, es, ep, t, ho, r⟩ := x; ⟨o, es, ep, t, k o ho, r⟩
section
variable {P : Program} {w : World} {A : Around} {E : Value → Shared → Prop} {s : Shared}
theorem store_iset {h : Heap} {a : Addr} {o : Obj} {es : Array (Int × Value)} {ep : Nat} {t : SetTable} (ho : h.get? a = some o) (hex : o.ExactSet) (hd : o.data = .set es ep t) {es' : Array (Int × Value)} {t' : SetTable} :
    (h.update a (Obj.putSet es' t')).get? a = some { o with data := .set es' (ep + 1) t' } := by
  have := Heap.get?_update_self (Obj.putSet es' t') ho (by rw [putSet_of es' t' hd]; rfl)
  rw [putSet_of es' t' hd] at this; exact this
end
end L2

namespace L2
open PySem PySem.Spec PyProof.Rows
/-! ### going through a set -/
section
variable {P : Program} {w : World} {A : Around} {E : Value → Shared → Prop} {s : Shared}
def byT (w : World) : Bool := w.params.followText "set-order"
section
variable {it a : Addr} {o : Obj} {es : Array (Int × Value)} {ep : Nat} {t : SetTable}
end
end
end L2

namespace L2
open PySem PySem.Spec PyProof.Rows
section
variable {P : Program} {w : World} {A : Around} {E : Value → Shared → Prop} {s : Shared}
end
end L2

namespace L2
open PySem PySem.Spec PyProof.Rows
theorem filterMap_perm {α β : Type} (es : Array α) (f : α → β) {ps : List Nat} (p : ps.Perm (List.range es.size)) : (ps.filterMap fun i => (es[i]?).map f).Perm (es.toList.map f) := by
  refine (p.filterMap _).trans ?_
  have : (List.range es.size).filterMap (fun i => (es[i]?).map f) = es.toList.map f := by
    rw [← filterMap_getElem?_range es, List.map_filterMap]
  rw [this]
section
variable {P : Program} {w : World} {A : Around} {E : Value → Shared → Prop} {s : Shared}
end
end L2

namespace L2
open PySem PySem.Spec PyProof.Rows
section
variable {P : Program} {w : World} {A : Around} {E : Value → Shared → Prop} {s : Shared}
end
end L2

namespace L2
open PySem PySem.Spec PyProof.Rows
section
variable {P : Program} {w : World} {A : Around} {E : Value → Shared → Prop} {s : Shared} {R : Result → Shared → Prop}
theorem newSet_led (a : Value) {Q₁ : Value → Shared → Prop}
    (h : Q₁ (.ref s.heap.objs.size) { s with heap := s.heap.push { cls := .type "set", dict := none, data := .set #[] 0 (.fresh 0 0 (!byT w)) } }) :
    codeAny (model P w) A (.call (.builtin "set.__new__") ⟨[.type "set", a], []⟩) (wants Q₁ E) s := by
  refine codeAny_of_tree ?_
  show wpAny _ A.in1 (do checkBuiltinCall "set.__new__" ⟨[.type "set", a], []⟩; again (.builtin "set.__new__" ⟨[.type "set", a], []⟩)) _ _ s
  refine wpAny_bind (wpAny_of_eq (PySem.F.newCall_set_1 a) (wpAny_pure ⟨plainId_quiet PySem.F.plain_set_new _, codeAny_builtin PySem.F.entry_set_new ?_⟩))
  rw [Around.under_plainId PySem.F.plain_set_new _]
  unfold Builtin.«set.__new__» Builtin.Frozenset.newClass
  have hsub := sub_set_self
  obtain ⟨hp, g, d, tk, os⟩ := s
  dsimp only
  wp_walk
  refine wpAny_askSetting (wpAny_pure ?_)
  dsimp only
  simp only [newObj]
  refine wpAny_bind (wpAny_alloc (wpAny_pure ?_))
  exact wpAny_pure h
end
end L2

namespace L2
open PySem PySem.Spec PyProof.Rows
def intOf (v : Value) : Int := match v with | .int k _ => k | _ => 0
theorem ints_map {vs : List Value} {ks : List Int} (h : IntsAre vs ks) : vs.map intOf = ks := by
  induction h with
  | nil => rfl
  | cons n t _ ih => rw [List.map_cons, ih]; rfl
theorem ints_self : ∀ {vs : List Value}, (∀ v ∈ vs, ∃ i t, v = Value.int i t) → Vals ((vs.map intOf).map V.int) vs
  | [], _ => .nil
  | v :: r, h => by
    obtain ⟨i, t, rfl⟩ := h v (List.mem_cons_self ..)
    exact .cons ⟨t, rfl⟩ (ints_self fun x hx => h x (List.mem_cons_of_mem _ hx))
def ltI (u v : Value) : Bool := match u, v with | .int i _, .int j _ => decide (i < j) | _, _ => false
end L2

namespace L2
open PySem PySem.Spec PyProof.Rows
/-! ### sum(lists, []) -/
section
variable {X : Cx} {pins : List (Addr × Obj)} {σ : St} {A : Around} {R : Result → Shared → Prop} {it l S : Addr} {as : List Addr} {xss : List (List V)}
/-- lists at as -/
def ListsAt (H : Hp) (as : List Addr) (xss : List (List V)) : Prop := Paired (fun a xs => H a = some (.lst xs)) as xss
theorem ListsAt.same {H H' : Hp} (S : Same H H') (h : ListsAt H as xss) : ListsAt H' as xss := Paired.imp' (fun a xs e => S _ _ e) h
end
end L2

namespace L2
open PySem PySem.Spec PyProof.Rows
/-! ### sorted of a list of tuples of pairs, the first of which is empty -/
theorem CP.uniq {h : Heap} {u : Value} {c c' : List Int} (a : CP h u c) (b : CP h u c') : c = c' := by
  obtain ⟨p, a, b, t1, t2, rfl, hp, rfl⟩ := a
  obtain ⟨p', a', b', t1', t2', e, hp', rfl⟩ := b
  cases e
  have e := isTup_inj hp hp'
  simp only [Array.mk.injEq, List.cons.injEq, Value.int.injEq] at e
  rw [e.1.1, e.2.1.1]
theorem CP.keep {h h' : Heap} {u : Value} {c : List Int} (k : ∀ b o, h.get? b = some o → h'.get? b = some o) (a : CP h u c) : CP h' u c := by
  obtain ⟨p, a, b, t1, t2, rfl, hp, rfl⟩ := a
  exact ⟨p, a, b, t1, t2, rfl, isTup_keep k hp, rfl⟩
end L2

namespace L2
open PySem PySem.Spec PyProof.Rows
/-! ### a comprehension whose own names an inner one takes hold of -/
section
variable {X : Cx} {N : List Str} {scope : Scope} {C : Addr} {s3 : Shared} {H3 : Hp} {fp : List Addr} {pins : List (Addr × Obj)} {σ : St}
end
section
variable {X : Cx} {elt tg iter : Expr} {ifs : List Expr} {rest : List Comprehension} {scope : Scope} {pos : Pos} {N : List Str} {wi : TI} {g : TG} {t : TT} {b : Addr → TB}
end
end L2

namespace L2
open PySem PySem.Spec PyProof.Rows
/-! ### C(text), an exception that is made and not raised -/
section
variable {X : Cx}
end
end L2

namespace L2
open PySem PySem.Spec PyProof.Rows
/-! ### a display of texts that are constants -/
end L2

namespace L2
open PySem PySem.Spec PyProof.Rows
/-! ### the places that a set's search goes through -/
theorem five_pow : ∀ k : Nat, ∃ u, 5 ^ (2 ^ k) = 1 + 2 ^ (k + 2) * u ∧ u % 2 = 1
  | 0 => ⟨1, by decide, by decide⟩
  | k + 1 => by
    obtain ⟨u, h1, h2⟩ := five_pow k
    refine ⟨u + 2 ^ (k + 1) * (u * u), ?_, ?_⟩
    · have e : 2 ^ (k + 1) = 2 ^ k + 2 ^ k := by rw [Nat.pow_succ]; omega
      rw [e, Nat.pow_add, h1]
      have e2 : 2 ^ (k + 1 + 2) = 2 * 2 ^ (k + 2) := by rw [show k + 1 + 2 = (k + 2) + 1 by omega, Nat.pow_succ]; omega
      have e3 : 2 ^ (k + 2) = 2 * (2 ^ k + 2 ^ k) := by rw [show k + 2 = (k + 1) + 1 by omega, Nat.pow_succ, e]; omega
      rw [e2, e3]
      generalize 2 ^ k + 2 ^ k = M
      simp only [Nat.add_mul, Nat.mul_add, Nat.mul_one, Nat.one_mul]
      have a1 : 2 * M * u * (2 * M * u) = 2 * (2 * M) * (M * (u * u)) := by
        simp only [Nat.mul_assoc, Nat.mul_comm, Nat.mul_left_comm]
      have a2 : 2 * (2 * M) * u = 2 * M * u + 2 * M * u := by
        rw [Nat.mul_assoc 2 (2 * M) u]; omega
      omega
    · rw [Nat.pow_succ, Nat.mul_comm (2 ^ k) 2, Nat.mul_assoc]
      omega
theorem mod_two (M a r : Nat) (hr : r < M) : (M * a + r) % (2 * M) = M * (a % 2) + r := by
  have e : M * a + r = (M * (a % 2) + r) + 2 * M * (a / 2) := by
    have : M * a = M * (a % 2) + M * (2 * (a / 2)) := by rw [← Nat.mul_add]; congr 1; omega
    rw [this, Nat.mul_comm 2 M, Nat.mul_assoc]
    omega
  rw [e, Nat.add_mul_mod_self_left]
  refine Nat.mod_eq_of_lt ?_
  have : a % 2 = 0 ∨ a % 2 = 1 := by omega
  rcases this with q | q <;> rw [q] <;> omega
theorem five_hits : ∀ (k y z : Nat), y % 4 = 1 → z % 4 = 1 → ∃ n, n < 2 ^ k ∧ (5 ^ n * y) % 2 ^ (k + 2) = z % 2 ^ (k + 2)
  | 0, y, z, hy, hz => ⟨0, by decide, by show (5 ^ 0 * y) % 4 = z % 4; rw [Nat.pow_zero, Nat.one_mul, hy, hz]⟩
  | k + 1, y, z, hy, hz => by
    obtain ⟨n, hn, h⟩ := five_hits k y z hy hz
    have eM : 2 ^ (k + 1 + 2) = 2 * 2 ^ (k + 2) := by rw [show k + 1 + 2 = (k + 2) + 1 by omega, Nat.pow_succ]; omega
    have e4 : 2 ^ (k + 2) = 4 * 2 ^ k := by rw [Nat.pow_add]; show _ * 4 = _; omega
    have ek : 2 ^ (k + 1) = 2 ^ k + 2 ^ k := by rw [Nat.pow_succ]; omega
    have hpos : 0 < 2 ^ (k + 2) := Nat.pow_pos (by decide)
    obtain ⟨u, hu1, hu2⟩ := five_pow k
    have hodd : (5 ^ n * y) % 2 = 1 := by
      have h1 : (5 ^ n * y) % 2 ^ (k + 2) % 2 = z % 2 ^ (k + 2) % 2 := by rw [h]
      rw [e4, Nat.mod_mod_of_dvd _ ⟨2 * 2 ^ k, by omega⟩, Nat.mod_mod_of_dvd _ ⟨2 * 2 ^ k, by omega⟩] at h1
      omega
    generalize hA : 5 ^ n * y = A at h hodd
    rw [eM]
    generalize hMM : 2 ^ (k + 2) = M at h hu1 hpos
    have eA : A = M * (A / M) + A % M := (Nat.div_add_mod A M).symm
    have eZ : z = M * (z / M) + A % M := by rw [h]; exact (Nat.div_add_mod z M).symm
    have hr : A % M < M := Nat.mod_lt _ hpos
    by_cases hp : A / M % 2 = z / M % 2
    · refine ⟨n, by omega, ?_⟩
      rw [hA, eA, mod_two _ _ _ hr]
      conv => rhs; rw [eZ]
      rw [mod_two _ _ _ hr, hp]
    · refine ⟨n + 2 ^ k, by omega, ?_⟩
      have e5 : 5 ^ (n + 2 ^ k) * y = M * (A / M + u * A) + A % M := by
        rw [Nat.pow_add, hu1]
        have : 5 ^ n * (1 + M * u) * y = A + M * (u * A) := by
          rw [← hA]
          simp only [Nat.mul_add, Nat.add_mul, Nat.mul_one, Nat.one_mul, Nat.mul_assoc, Nat.mul_comm, Nat.mul_left_comm]
        rw [this, Nat.mul_add]
        omega
      rw [e5, mod_two _ _ _ hr]
      conv => rhs; rw [eZ]
      rw [mod_two _ _ _ hr]
      have e6 : (A / M + u * A) % 2 = z / M % 2 := by
        have : (u * A) % 2 = 1 := by rw [Nat.mul_mod, hu2, hodd]
        omega
      rw [e6]
def stp : Nat → Nat → Nat
  | 0, x => x
  | n + 1, x => stp n (5 * x + 1)
theorem stp_eq : ∀ n x, 4 * stp n x + 1 = 5 ^ n * (4 * x + 1)
  | 0, x => by show 4 * x + 1 = _; rw [Nat.pow_zero, Nat.one_mul]
  | n + 1, x => by
    show 4 * stp n (5 * x + 1) + 1 = _
    rw [stp_eq n, Nat.pow_succ, Nat.mul_assoc]
    congr 1
    omega
theorem stp_hits (k x e : Nat) (he : e < 2 ^ k) : ∃ n, n < 2 ^ k ∧ stp n x % 2 ^ k = e := by
  obtain ⟨n, hn, h⟩ := five_hits k (4 * x + 1) (4 * e + 1) (by omega) (by omega)
  refine ⟨n, hn, ?_⟩
  rw [← stp_eq] at h
  have e4 : 2 ^ (k + 2) = 4 * 2 ^ k := by rw [Nat.pow_add]; show _ * 4 = _; omega
  rw [e4] at h
  generalize 2 ^ k = M at *
  have h1 : (4 * stp n x + 1) % (4 * M) = 4 * (stp n x % M) + 1 := by
    have q : 4 * stp n x + 1 = (4 * (stp n x % M) + 1) + 4 * M * (stp n x / M) := by
      have := Nat.div_add_mod (stp n x) M
      rw [Nat.mul_assoc]
      omega
    rw [q, Nat.add_mul_mod_self_left]
    have := Nat.mod_lt (stp n x) (show 0 < M by omega)
    exact Nat.mod_eq_of_lt (by omega)
  rw [h1, Nat.mod_eq_of_lt (show 4 * e + 1 < 4 * M by omega)] at h
  omega
/-- so many leaps -/
def lpn (mask : Nat) : Nat → Nat × Nat → Nat × Nat
  | 0, s => s
  | n + 1, s => lpn mask n (SetTable.leap mask s.1 s.2)
theorem lpn_add (mask : Nat) : ∀ (a b : Nat) (s : Nat × Nat), lpn mask (a + b) s = lpn mask b (lpn mask a s)
  | 0, b, s => by rw [Nat.zero_add]; rfl
  | a + 1, b, s => by rw [Nat.add_right_comm]; exact lpn_add mask a b _
theorem lpn_two (mask : Nat) : ∀ (n i p : Nat), (lpn mask n (i, p)).2 = p / 32 ^ n
  | 0, i, p => by rw [Nat.pow_zero, Nat.div_one]; rfl
  | n + 1, i, p => by
    show (lpn mask n (_, p / 32)).2 = _
    rw [lpn_two mask n, Nat.div_div_eq_div_mul, Nat.pow_succ, Nat.mul_comm]
theorem lpn_zero (mask : Nat) : ∀ (n x : Nat), (lpn mask n (x % (mask + 1), 0)).1 = stp n x % (mask + 1)
  | 0, x => rfl
  | n + 1, x => by
    show (lpn mask n ((x % (mask + 1) * 5 + 1 + 0 / 32) % (mask + 1), 0 / 32)).1 = stp n (5 * x + 1) % (mask + 1)
    have e : (x % (mask + 1) * 5 + 1 + 0 / 32) % (mask + 1) = (5 * x + 1) % (mask + 1) := by
      rw [show 0 / 32 = 0 from rfl, Nat.add_zero, Nat.mul_comm, Nat.add_mod, Nat.mul_mod, Nat.mod_mod, ← Nat.mul_mod, ← Nat.add_mod]
    rw [e]
    exact lpn_zero mask n (5 * x + 1)
theorem leap_hits {mask k i p e : Nat} (hk : mask + 1 = 2 ^ k) (hp : p < 2 ^ 64) (he : e ≤ mask) : ∃ n, n ≤ 13 + mask ∧ (lpn mask n (i, p)).1 = e := by
  have h2 : (lpn mask 13 (i, p)).2 = 0 := by
    rw [lpn_two]
    exact Nat.div_eq_of_lt (Nat.lt_of_lt_of_le hp (by decide))
  have h1 : (lpn mask 13 (i, p)).1 = (lpn mask 13 (i, p)).1 % (mask + 1) := by
    have : ∀ (n i p : Nat), (lpn mask (n + 1) (i, p)).1 < mask + 1 := by
      intro n
      induction n with
      | zero => intro i p; exact Nat.mod_lt _ (Nat.succ_pos _)
      | succ n ih => intro i p; exact ih _ _
    exact (Nat.mod_eq_of_lt (this 12 i p)).symm
  obtain ⟨n, hn, h⟩ := stp_hits k (lpn mask 13 (i, p)).1 e (by omega)
  refine ⟨13 + n, by omega, ?_⟩
  rw [lpn_add]
  have e1 : lpn mask 13 (i, p) = ((lpn mask 13 (i, p)).1 % (mask + 1), 0) := Prod.ext h1 h2
  rw [e1, lpn_zero, hk]
  exact h
end L2

namespace L2
open PySem PySem.Spec PyProof.Rows
/-! ### a set's table: a free place is found -/
structure TabP (b : Bool) (t : SetTable) (n : Nat) : Prop where
  ok : TabOk b t
  pow : ∃ k, 1 ≤ k ∧ t.mask + 1 = 2 ^ k
  size : t.place.size = n
  le : ∀ j ∈ t.place.toList, j ≤ t.mask
  room : n ≤ t.mask
theorem nodup_sub_len : ∀ (l m : List Nat), l.Nodup → (∀ x ∈ l, x ∈ m) → l.length ≤ m.length
  | [], _, _, _ => Nat.zero_le _
  | x :: l, m, hn, hs => by
    obtain ⟨h1, h2⟩ := List.nodup_cons.mp hn
    have hx := hs x List.mem_cons_self
    have ih := nodup_sub_len l (m.erase x) h2 fun y hy => (List.mem_erase_of_ne (fun e : y = x => h1 (by rw [← e]; exact hy))).mpr (hs y (List.mem_cons_of_mem _ hy))
    rw [List.length_erase_of_mem hx] at ih
    have := List.length_pos_of_mem hx
    rw [List.length_cons]
    omega
theorem TabP.free {b : Bool} {t : SetTable} {n : Nat} (h : TabP b t n) : ∃ e, e ≤ t.mask ∧ e ∉ t.place.toList := by
  by_cases q : ∃ e, e ≤ t.mask ∧ e ∉ t.place.toList
  · exact q
  · exfalso
    have hall : ∀ x ∈ List.range (t.mask + 1), x ∈ t.place.toList := fun x hx => by
      by_cases z : x ∈ t.place.toList
      · exact z
      · exact absurd ⟨x, by have := List.mem_range.mp hx; omega, z⟩ q
    have := nodup_sub_len _ _ List.nodup_range hall
    rw [List.length_range, Array.length_toList, h.size] at this
    have := h.room
    omega
theorem slot_empty {b : Bool} {t : SetTable} {e : Nat} (h : TabOk b t) (he : e ∉ t.place.toList) : t.slot e = .empty := by
  unfold SetTable.slot
  dsimp only
  have h1 : ¬ (t.place[SetTable.below t.place e]? == some e) = true := fun z => by
    have z' := beq_iff_eq.mp z
    exact he (Array.mem_toList_iff.mpr (Array.mem_of_getElem? z'))
  rw [if_neg h1, h.dum, has_empty]
  rfl
theorem slot_cases {b : Bool} {t : SetTable} (h : TabOk b t) (j : Nat) : (t.slot j = .empty ∧ j ∉ t.place.toList) ∨ ∃ i, t.slot j = .live i ∧ i < t.place.size := by
  by_cases hj : j ∈ t.place.toList
  · right
    unfold SetTable.slot
    dsimp only
    obtain ⟨i, hi, e⟩ := List.getElem_of_mem hj
    have hb := below_spec h.rise j
    have hx : t.place[i]? = some j := by rw [← Array.getElem?_toList, List.getElem?_eq_getElem hi, e]
    have hib : SetTable.below t.place j = i := by
      have a1 : ¬ i < SetTable.below t.place j := fun z => by have := hb.1 i j z hx; omega
      have hlt : SetTable.below t.place j ≤ i := by omega
      by_cases z : SetTable.below t.place j = i
      · exact z
      · exfalso
        have hlt2 : SetTable.below t.place j < i := by omega
        have hsz : i < t.place.size := by rw [← Array.length_toList]; exact hi
        obtain ⟨y, hy⟩ : ∃ y, t.place[SetTable.below t.place j]? = some y := ⟨_, Array.getElem?_eq_getElem (by omega)⟩
        have g1 := hb.2.1 _ y (Nat.le_refl _) hy
        have rise : y < j := by
          have hr := h.rise
          unfold Rise at hr
          have := List.pairwise_iff_getElem.mp hr (SetTable.below t.place j) i (by rw [Array.length_toList]; omega) hi hlt2
          have e1 : t.place.toList[SetTable.below t.place j]'(by rw [Array.length_toList]; omega) = y := by
            have := (Array.getElem?_eq_some_iff.mp hy).2
            rw [← this]; simp
          rw [e1, e] at this
          exact this
        omega
    rw [hib, hx]
    exact ⟨i, by simp, by rw [← Array.length_toList]; exact hi⟩
  · exact .inl ⟨slot_empty h hj, hj⟩
def atStart (t : SetTable) (i p : Nat) : SetTable.Probe := { j := i, more := SetTable.runEnd t.mask i - i, i := i, perturb := p, dummy := none }
section
variable {b : Bool} {t : SetTable} {hashAt : Nat → Int} {h : Int}
theorem go_line (T : TabOk b t) (hh : ∀ i, i < t.place.size → hashAt i ≠ h) : ∀ (more j fuel i p : Nat), j + more ≤ t.mask → more + 1 ≤ fuel →
    (∃ j', SetTable.probe.go t hashAt h fuel { j := j, more := more, i := i, perturb := p, dummy := none } = some (.empty j' none) ∧ j' ∉ t.place.toList ∧ j' ≤ t.mask) ∨
    SetTable.probe.go t hashAt h fuel { j := j, more := more, i := i, perturb := p, dummy := none } = SetTable.probe.go t hashAt h (fuel - (more + 1)) (atStart t (SetTable.leap t.mask i p).1 (SetTable.leap t.mask i p).2) := by
  intro more
  induction more with
  | zero =>
    intro j fuel i p hjm hf
    obtain ⟨fuel, rfl⟩ : ∃ f, fuel = f + 1 := ⟨fuel - 1, by omega⟩
    rcases slot_cases T j with ⟨e, hj⟩ | ⟨x, e, hx⟩
    · left
      refine ⟨j, ?_, hj, by omega⟩
      rw [SetTable.probe.go]
      simp only [e]
    · right
      have hne : (hashAt x == h) = false := beq_eq_false_iff_ne.mpr (hh x hx)
      have e1 : SetTable.probe.go t hashAt h (fuel + 1) { j := j, more := 0, i := i, perturb := p, dummy := none } = SetTable.probe.go t hashAt h fuel (atStart t (SetTable.leap t.mask i p).1 (SetTable.leap t.mask i p).2) := by
        rw [SetTable.probe.go]
        simp only [e, hne]
        rfl
      rw [e1]
      rfl
  | succ more ih =>
    intro j fuel i p hjm hf
    obtain ⟨fuel, rfl⟩ : ∃ f, fuel = f + 1 := ⟨fuel - 1, by omega⟩
    rcases slot_cases T j with ⟨e, hj⟩ | ⟨x, e, hx⟩
    · left
      refine ⟨j, ?_, hj, by omega⟩
      rw [SetTable.probe.go]
      simp only [e]
    · have hne : (hashAt x == h) = false := beq_eq_false_iff_ne.mpr (hh x hx)
      have e1 : SetTable.probe.go t hashAt h (fuel + 1) { j := j, more := more + 1, i := i, perturb := p, dummy := none } = SetTable.probe.go t hashAt h fuel { j := j + 1, more := more, i := i, perturb := p, dummy := none } := by
        rw [SetTable.probe.go]
        simp only [e, hne]
        rfl
      rw [e1, show fuel + 1 - (more + 1 + 1) = fuel - (more + 1) by omega]
      exact ih (j + 1) fuel i p (by omega) (by omega)
theorem runEnd_le (mask i : Nat) : SetTable.runEnd mask i - i ≤ 9 := by
  unfold SetTable.runEnd
  split <;> omega
theorem runEnd_in {mask i : Nat} (h : i ≤ mask) : i + (SetTable.runEnd mask i - i) ≤ mask := by
  unfold SetTable.runEnd
  split <;> omega
theorem leap_in (mask i p : Nat) : (SetTable.leap mask i p).1 ≤ mask := by
  have : (i * 5 + 1 + p / 32) % (mask + 1) < mask + 1 := Nat.mod_lt _ (Nat.succ_pos _)
  show (i * 5 + 1 + p / 32) % (mask + 1) ≤ mask
  omega
theorem go_hits (T : TabOk b t) (hh : ∀ i, i < t.place.size → hashAt i ≠ h) : ∀ (n i p e fuel : Nat), i ≤ t.mask → (lpn t.mask n (i, p)).1 = e → e ∉ t.place.toList → 10 * n + 1 ≤ fuel → ∃ j', SetTable.probe.go t hashAt h fuel (atStart t i p) = some (.empty j' none) ∧ j' ∉ t.place.toList ∧ j' ≤ t.mask
  | 0, i, p, e, fuel, hi', hl, he, hf => by
    have hi : i = e := hl
    subst hi
    obtain ⟨fuel, rfl⟩ : ∃ f, fuel = f + 1 := ⟨fuel - 1, by omega⟩
    refine ⟨i, ?_, he, hi'⟩
    rw [SetTable.probe.go]
    have := slot_empty T he
    simp only [atStart, this]
  | n + 1, i, p, e, fuel, hi', hl, he, hf => by
    have hr := runEnd_le t.mask i
    rcases go_line T hh (SetTable.runEnd t.mask i - i) i fuel i p (runEnd_in hi') (by omega) with q | q
    · exact q
    · obtain ⟨j', h1, h2⟩ := go_hits T hh n (SetTable.leap t.mask i p).1 (SetTable.leap t.mask i p).2 e (fuel - (SetTable.runEnd t.mask i - i + 1)) (leap_in ..) hl he (by omega)
      exact ⟨j', by rw [← h1]; exact q, h2⟩
theorem bits_lt (h : Int) : SetTable.bits h < 2 ^ 64 := by
  unfold SetTable.bits
  have : (0 : Int) ≤ h % (2 ^ 64 : Int) := Int.emod_nonneg _ (by decide)
  have : h % (2 ^ 64 : Int) < 2 ^ 64 := Int.emod_lt_of_pos _ (by decide)
  omega
theorem probe_free {n : Nat} (T : TabP b t n) (hh : ∀ i, i < t.place.size → hashAt i ≠ h) : ∃ j', t.probe hashAt h (t.probeStart h) = some (.empty j' none) ∧ j' ∉ t.place.toList ∧ j' ≤ t.mask := by
  obtain ⟨k, _, hk⟩ := T.pow
  obtain ⟨e, he1, he2⟩ := T.free
  obtain ⟨m, hm, hl⟩ := leap_hits (i := SetTable.bits h % (t.mask + 1)) hk (bits_lt h) he1
  have hi : SetTable.bits h % (t.mask + 1) ≤ t.mask := Nat.le_of_lt_succ (Nat.mod_lt _ (Nat.succ_pos _))
  exact go_hits T.ok hh m _ _ e (10 * SetTable.turns t.mask) hi hl he2 (by unfold SetTable.turns; omega)
theorem below_out {xs : Array Nat} (hr : Rise xs) {j : Nat} (hj : j ∉ xs.toList) : xs[SetTable.below xs j]? ≠ some j := fun e => hj (Array.mem_toList_iff.mpr (Array.mem_of_getElem? e))
theorem insertAt_list {α : Type} (xs : Array α) (p : Nat) (x : α) : (SetTable.insertAt xs p x).toList = xs.toList.take p ++ x :: xs.toList.drop p := by
  unfold SetTable.insertAt
  rw [Array.toList_append, Array.toList_push, Array.toList_extract, Array.toList_extract, List.extract_eq_take_drop, List.extract_eq_take_drop, List.drop_zero, Nat.sub_zero, List.append_assoc]
  congr 1
  show x :: ((xs.toList.drop p).take (xs.size - p)) = _
  rw [List.take_of_length_le (by rw [List.length_drop, Array.length_toList]; exact Nat.le_refl _)]
/-- one place more is taken -/
theorem TabP.put {n : Nat} (T : TabP b t n) {j : Nat} (hj : j ∉ t.place.toList) (hm : j ≤ t.mask) : TabOk b (t.put j).1 ∧ (t.put j).1.place.size = n + 1 ∧ (t.put j).1.mask = t.mask ∧ (∀ x ∈ (t.put j).1.place.toList, x ≤ t.mask) ∧ (t.put j).1.dummies = #[] ∧ (t.put j).1.plain = t.plain := by
  have hd : (t.put j).1.dummies = #[] := by
    show (if SetTable.has t.dummies j = true then _ else t.dummies) = #[]
    rw [T.ok.dum, has_empty]
    rfl
  have hp : (t.put j).1.place = SetTable.insertAt t.place (SetTable.below t.place j) j := rfl
  refine ⟨⟨T.ok.led, by rw [hp]; exact rise_insert T.ok.rise (below_out T.ok.rise hj), hd⟩, ?_, rfl, ?_, hd, rfl⟩
  · rw [hp, ← Array.length_toList, insertAt_list, List.length_append, List.length_cons, List.length_take, List.length_drop, Array.length_toList, T.size]
    omega
  · intro x hx
    rw [hp, insertAt_list] at hx
    rcases List.mem_append.mp hx with q | q
    · exact T.le x (List.mem_of_mem_take q)
    · rcases List.mem_cons.mp q with rfl | q
      · exact hm
      · exact T.le x (List.mem_of_mem_drop q)
end
end L2

namespace L2
open PySem PySem.Spec PyProof.Rows
/-! ### a set's table laid anew -/
theorem above_go (n : Nat) : ∀ (fuel j : Nat), 3 ≤ j → n < 2 ^ (j + fuel) → (2 ^ j ≤ 8 ∨ 2 ^ j ≤ 2 * n) → ∃ k, 3 ≤ k ∧ SetTable.sizeAbove.go n fuel (2 ^ j) = 2 ^ k ∧ n < 2 ^ k ∧ (2 ^ k ≤ 8 ∨ 2 ^ k ≤ 2 * n)
  | 0, j, hj, h, hb => ⟨j, hj, rfl, by simpa using h, hb⟩
  | fuel + 1, j, hj, h, hb => by
    unfold SetTable.sizeAbove.go
    split
    · rename_i hle
      have e : 2 ^ j * 2 = 2 ^ (j + 1) := (Nat.pow_succ ..).symm
      rw [e]
      exact above_go n fuel (j + 1) (by omega) (by rw [show j + 1 + fuel = j + (fuel + 1) by omega]; exact h) (.inr (by omega))
    · rename_i hle
      exact ⟨j, hj, rfl, by omega, hb⟩
theorem sizeAbove_spec {n : Nat} (h : n < 2 ^ 60) : ∃ k, 3 ≤ k ∧ SetTable.sizeAbove n = 2 ^ k ∧ n < 2 ^ k ∧ (2 ^ k ≤ 8 ∨ 2 ^ k ≤ 2 * n) :=
  above_go n 64 3 (Nat.le_refl _) (Nat.lt_of_lt_of_le h (Nat.pow_le_pow_right (by decide) (by decide))) (.inl (by decide))
theorem set_perm {k : Nat} : ∀ {l : List (Option Nat)} {j : Nat}, l[j]? = some none → ((l.set j (some k)).filterMap id).Perm (k :: l.filterMap id)
  | [], _, h => by simp at h
  | x :: l, 0, h => by
    have e : x = none := by simpa using h
    subst e
    exact List.Perm.refl _
  | x :: l, j + 1, h => by
    have ih := set_perm (k := k) (l := l) (j := j) (by simpa using h)
    rw [List.set_cons_succ]
    cases x with
    | none => exact ih
    | some y =>
      show (y :: ((l.set j (some k)).filterMap id)).Perm (k :: y :: l.filterMap id)
      exact (List.Perm.cons y ih).trans (List.Perm.swap ..)
theorem some_none : ∀ {l : List (Option Nat)}, (l.filterMap id).length < l.length → ∃ e : Nat, l[e]? = some none
  | [], h => by simp at h
  | none :: l, _ => ⟨0, rfl⟩
  | some x :: l, h => by
    have h' : (l.filterMap id).length < l.length := by
      have : ((some x :: l).filterMap id) = x :: l.filterMap id := rfl
      rw [this, List.length_cons, List.length_cons] at h
      omega
    obtain ⟨e, he⟩ := some_none h'
    exact ⟨e + 1, by simpa using he⟩
theorem free_hits {mask : Nat} {owner : Array (Option Nat)} : ∀ (n i p e fuel : Nat), (lpn mask n (i, p)).1 = e → owner[e]? = some none → n + 1 ≤ fuel → ∃ j, SetTable.layClean.free mask owner fuel i p = some j ∧ owner[j]? = some none
  | n, i, p, e, 0, _, _, hf => by omega
  | n, i, p, e, fuel + 1, hl, he, hf => by
    rw [SetTable.layClean.free]
    cases hq : (List.range (SetTable.runEnd mask i + 1 - i)).find? (fun k => (owner.getD (i + k) (some 0)).isNone) with
    | some k =>
      refine ⟨i + k, rfl, ?_⟩
      have := List.find?_some hq
      rw [Array.getD_eq_getD_getElem?] at this
      cases hx : owner[i + k]? with
      | none => rw [hx] at this; cases this
      | some o =>
        rw [hx] at this
        have e2 : o = none := by simpa using this
        rw [e2]
    | none =>
      match n, hl, hf with
      | 0, hl, hf =>
        exfalso
        have hi : i = e := hl
        subst hi
        have := List.find?_eq_none.mp hq 0 (List.mem_range.mpr (by unfold SetTable.runEnd; split <;> omega))
        rw [Nat.add_zero, Array.getD_eq_getD_getElem?, he] at this
        simp at this
      | n + 1, hl, hf => exact free_hits n (SetTable.leap mask i p).1 (SetTable.leap mask i p).2 e fuel hl he (by omega)
def OwnOk (mask : Nat) (owner : Array (Option Nat)) (k : Nat) : Prop := owner.size = mask + 1 ∧ (owner.toList.filterMap id).Perm (List.range k)
theorem lay_step {mask k e : Nat} {owner : Array (Option Nat)} (hk : ∃ e, mask + 1 = 2 ^ e) (h : OwnOk mask owner k) (hkm : k ≤ mask) (hs : Int) : ∃ j, SetTable.layClean.free mask owner (SetTable.turns mask) (SetTable.bits hs % (mask + 1)) (SetTable.bits hs) = some j ∧ OwnOk mask (owner.setIfInBounds j (some k)) (k + 1) := by
  obtain ⟨k2, hk⟩ := hk
  obtain ⟨h1, h2⟩ := h
  have hlen : (owner.toList.filterMap id).length < owner.toList.length := by rw [h2.length_eq, List.length_range, Array.length_toList, h1]; omega
  obtain ⟨e, he⟩ := some_none hlen
  have hem : e ≤ mask := by
    have := (List.getElem?_eq_some_iff.mp he).1
    rw [Array.length_toList, h1] at this
    omega
  obtain ⟨n, hn, hl⟩ := leap_hits (i := SetTable.bits hs % (mask + 1)) hk (bits_lt hs) hem
  obtain ⟨j, hj1, hj2⟩ := free_hits (owner := owner) n _ _ e (SetTable.turns mask) hl (by rw [← Array.getElem?_toList]; exact he) (by unfold SetTable.turns; omega)
  refine ⟨j, hj1, by rw [Array.size_setIfInBounds]; exact h1, ?_⟩
  rw [Array.toList_setIfInBounds]
  refine (set_perm (by rw [Array.getElem?_toList]; exact hj2)).trans ?_
  rw [List.range_succ]
  exact (List.Perm.cons k h2).trans (List.perm_append_singleton k (List.range k)).symm
theorem lay_fold {mask : Nat} (hk : ∃ e, mask + 1 = 2 ^ e) : ∀ (hs : List Int) (k : Nat) (owner : Array (Option Nat)), OwnOk mask owner k → k + hs.length ≤ mask + 1 →
    ∃ owner', hs.foldl (fun acc h => do
      let (owner, k) ← acc
      let j ← SetTable.layClean.free mask owner (SetTable.turns mask) (SetTable.bits h % (mask + 1)) (SetTable.bits h)
      pure (owner.setIfInBounds j (some k), k + 1)) (some (owner, k)) = some (owner', k + hs.length) ∧ OwnOk mask owner' (k + hs.length)
  | [], k, owner, h, _ => ⟨owner, rfl, h⟩
  | x :: hs, k, owner, h, hl => by
    rw [List.length_cons] at hl
    obtain ⟨j, hj, h2⟩ := lay_step (e := 0) hk h (by omega) x
    rw [List.foldl_cons]
    have e1 : (do
      let (owner, k) ← (some (owner, k) : Option (Array (Option Nat) × Nat))
      let j ← SetTable.layClean.free mask owner (SetTable.turns mask) (SetTable.bits x % (mask + 1)) (SetTable.bits x)
      pure (owner.setIfInBounds j (some k), k + 1)) = some (owner.setIfInBounds j (some k), k + 1) := by
      show (SetTable.layClean.free mask owner (SetTable.turns mask) (SetTable.bits x % (mask + 1)) (SetTable.bits x)).bind _ = _
      rw [hj]; rfl
    rw [e1]
    obtain ⟨owner', h3, h4⟩ := lay_fold hk hs (k + 1) _ h2 (by omega)
    exact ⟨owner', by rw [h3, List.length_cons]; congr 2; omega, by rw [List.length_cons, show k + (hs.length + 1) = k + 1 + hs.length by omega]; exact h4⟩
theorem layClean_ok {mask : Nat} (hk : ∃ e, mask + 1 = 2 ^ e) (hs : Array Int) (hl : hs.size ≤ mask + 1) : ∃ owner, SetTable.layClean mask hs = some owner ∧ OwnOk mask owner hs.size := by
  have h0 : OwnOk mask (Array.replicate (mask + 1) none) 0 := by
    refine ⟨Array.size_replicate, ?_⟩
    rw [Array.toList_replicate]
    have : ∀ n, ((List.replicate n (none : Option Nat)).filterMap id) = [] := fun n => by
      induction n with
      | zero => rfl
      | succ n ih => rw [List.replicate_succ]; exact ih
    rw [this]
    exact List.Perm.refl _
  obtain ⟨owner, h1, h2⟩ := lay_fold hk hs.toList 0 _ h0 (by rw [Array.length_toList]; omega)
  rw [Nat.zero_add, Array.length_toList] at h1 h2
  refine ⟨owner, ?_, h2⟩
  unfold SetTable.layClean
  rw [← Array.foldl_toList, h1]
  rfl
theorem range_get {l : List (Option Nat)} : ∀ (pre : List (Option Nat)), (((List.range' pre.length l.length).filterMap fun j => ((pre ++ l).getD j none).map (fun k => (j, k))).map (·.2)) = l.filterMap id := by
  induction l with
  | nil => intro pre; rfl
  | cons x l ih =>
    intro pre
    rw [List.length_cons, List.range'_succ, List.filterMap_cons]
    have e : (pre ++ x :: l).getD pre.length none = x := by rw [List.getD_eq_getElem?_getD, List.getElem?_append_right (Nat.le_refl _), Nat.sub_self]; rfl
    have ih' := ih (pre ++ [x])
    rw [List.length_append, List.append_assoc] at ih'
    rw [e]
    cases x with
    | none => exact ih'
    | some y =>
      show y :: _ = y :: _
      congr 1
theorem laid_some {mask finger moves : Nat} {led plain : Bool} (hk : ∃ e, 1 ≤ e ∧ mask + 1 = 2 ^ e) (hs : Array Int) (hl : hs.size ≤ mask) : ∃ t' ord, SetTable.laid mask finger moves led plain hs = some (t', ord) ∧ ord.toList.Perm (List.range hs.size) ∧ TabP led t' hs.size ∧ t'.plain = plain ∧ t'.mask = mask := by
  obtain ⟨e0, he0, he1⟩ := hk
  obtain ⟨owner, h1, h2, h3⟩ := layClean_ok ⟨e0, he1⟩ hs (by omega)
  have hl2 : SetTable.laid mask finger moves led plain hs = some ({ mask, place := (((List.range (mask + 1)).filterMap fun j => (owner.getD j none).map (j, ·)).map (·.1)).toArray, dummies := #[], finger, led, moves, plain }, (((List.range (mask + 1)).filterMap fun j => (owner.getD j none).map (j, ·)).map (·.2)).toArray) := by
    unfold SetTable.laid
    rw [h1]
    rfl
  have hord : (((List.range (mask + 1)).filterMap fun j => (owner.getD j none).map (j, ·)).map (·.2)) = owner.toList.filterMap id := by
    have := range_get (l := owner.toList) []
    rw [List.length_nil, List.nil_append, Array.length_toList, h2, ← List.range_eq_range'] at this
    rw [← this]
    congr 2
    funext j
    rw [Array.getD_eq_getD_getElem?, List.getD_eq_getElem?_getD, Array.getElem?_toList]
  refine ⟨_, _, hl2, ?_, ⟨laid_ok hl2, ⟨e0, he0, he1⟩, ?_, ?_, hl⟩, rfl, rfl⟩
  · show (((List.range (mask + 1)).filterMap fun j => (owner.getD j none).map (j, ·)).map (·.2)).Perm _
    rw [hord]; exact h3
  · show (((List.range (mask + 1)).filterMap fun j => (owner.getD j none).map (j, ·)).map (·.1)).toArray.size = _
    rw [List.size_toArray, List.length_map]
    have := congrArg List.length hord
    rw [List.length_map, h3.length_eq, List.length_range] at this
    exact this
  · intro j hj
    have hj' : j ∈ (((List.range (mask + 1)).filterMap fun j => (owner.getD j none).map (j, ·)).map (·.1)) := hj
    obtain ⟨p, hp, rfl⟩ := List.mem_map.mp hj'
    obtain ⟨i, hi, hq⟩ := List.mem_filterMap.mp hp
    obtain ⟨y, _, rfl⟩ := Option.map_eq_some_iff.mp hq
    have := List.mem_range.mp hi
    show i ≤ mask
    omega
end L2

namespace L2
open PySem PySem.Spec PyProof.Rows
/-! ### hashes of small pairs are unlike -/
def hM : Nat := 18446744073709551616
def hP1 : Nat := 11400714785074694791
def hP2 : Nat := 14029467366897019727
def hQ1 : Nat := 614540362697595703
def hQ2 : Nat := 839798700976720815
def hRot (z : Nat) : Nat := (z * 2147483648) % hM + z / 8589934592
def hStep (acc x : Nat) : Nat := hRot ((acc + x * hP2) % hM) * hP1 % hM
def hAcc (a b : Nat) : Nat := hStep (hStep 2870177450012600261 a) b
theorem mul_back {u v p q : Nat} (hq : p * q % hM = 1) (hu : u < hM) (hv : v < hM) (h : u * p % hM = v * p % hM) : u = v := by
  have key : ∀ x, x < hM → (x * p % hM) * q % hM = x := fun x hx => by
    rw [Nat.mod_mul_mod, Nat.mul_assoc, Nat.mul_mod, hq, Nat.mul_one, Nat.mod_mod]
    exact Nat.mod_eq_of_lt hx
  rw [← key u hu, ← key v hv, h]
theorem rot_lt {z : Nat} (h : z < hM) : hRot z < hM := by
  unfold hRot hM at *
  omega
theorem rot_inj {z y : Nat} (hz : z < hM) (hy : y < hM) (h : hRot z = hRot y) : z = y := by
  have e : ∀ x : Nat, x * 2147483648 % 18446744073709551616 = (x % 8589934592) * 2147483648 := fun x => by
    rw [show 18446744073709551616 = 8589934592 * 2147483648 from rfl, Nat.mul_mod_mul_right]
  unfold hRot hM at *
  rw [e, e] at h
  omega
theorem step_inj {x y b d : Nat} (h : hStep x b = hStep y d) : (x + b * hP2) % hM = (y + d * hP2) % hM := by
  have pos : 0 < hM := by decide
  exact rot_inj (Nat.mod_lt _ pos) (Nat.mod_lt _ pos) (mul_back (q := hQ1) (by decide +kernel) (rot_lt (Nat.mod_lt _ pos)) (rot_lt (Nat.mod_lt _ pos)) h)
def hG (a : Nat) : Nat := hStep 2870177450012600261 a * hQ2 % hM
theorem g_far : ∀ a, a < 70 → ∀ c, c < 70 → a ≠ c → 138 < (hG a + hM - hG c + 69) % hM := by decide +kernel
theorem acc_inj {a b c d : Nat} (ha : a < 70) (hb : b < 70) (hc : c < 70) (hd : d < 70) (h : hAcc a b = hAcc c d) : a = c ∧ b = d := by
  have h1 := step_inj h
  have h2 : ∀ x y : Nat, ((x + y * hP2) % hM) * hQ2 % hM = (x * hQ2 % hM + y) % hM := fun x y => by
    rw [Nat.mod_mul_mod, Nat.add_mul, Nat.mul_assoc y, Nat.add_mod, Nat.mul_mod y, show hP2 * hQ2 % hM = 1 by decide +kernel, Nat.mul_one, Nat.mod_mod, Nat.mod_add_mod, Nat.add_mod_mod, Nat.mod_add_mod]
  have h3 : (hG a + b) % hM = (hG c + d) % hM := by
    unfold hG
    rw [← h2, ← h2, h1]
  have pos : 0 < hM := by decide
  have l1 : hG a < hM := Nat.mod_lt _ pos
  have l2 : hG c < hM := Nat.mod_lt _ pos
  by_cases e : a = c
  · subst e
    refine ⟨rfl, ?_⟩
    generalize hG a = g at h3 l1
    unfold hM at *
    omega
  · exfalso
    have h4 := g_far a ha c hc e
    generalize hG a = g at h3 l1 h4
    generalize hG c = g' at h3 l2 h4
    unfold hM at *
    omega
def hFin (a b : Nat) : Nat := (hAcc a b + (2 ^^^ (2870177450012600261 ^^^ 3527539))) % hM
theorem fin_ne : ∀ a, a < 70 → ∀ b, b < 70 → hFin a b ≠ hM - 1 := by decide +kernel
def gStep (m p1 p2 acc x : Nat) : Nat := (((acc + x * p2) % m * 2 ^ 31) % m + (acc + x * p2) % m / 2 ^ 33) * p1 % m
def gFin (m p1 p2 p5 x y : Nat) : Nat := (gStep m p1 p2 (gStep m p1 p2 p5 x) y + (2 ^^^ (p5 ^^^ 3527539))) % m
def gOut (m : Nat) (acc : Nat) : Int := if acc == m - 1 then 1546275796 else if acc < 2 ^ 63 then acc else (acc : Int) - m
theorem tho2 (x y : Int) : Builtin.Tuple.tupleHashOf [x, y] = gOut (2 ^ 64) (gFin (2 ^ 64) 11400714785074694791 14029467366897019727 2870177450012600261 (x % ((2 ^ 64 : Nat) : Int)).toNat (y % ((2 ^ 64 : Nat) : Int)).toNat) := by
  unfold Builtin.Tuple.tupleHashOf gOut gFin gStep
  dsimp only
  rw [List.foldl_cons, List.foldl_cons, List.foldl_nil]
  rw [show ([x, y] : List Int).length = 2 from rfl]
theorem c64 : (2 : Nat) ^ 64 = 18446744073709551616 := by decide
theorem c31 : (2 : Nat) ^ 31 = 2147483648 := by decide
theorem c33 : (2 : Nat) ^ 33 = 8589934592 := by decide
theorem c63 : (2 : Nat) ^ 63 = 9223372036854775808 := by decide
theorem gStep_eq (acc x : Nat) : gStep hM hP1 hP2 acc x = hStep acc x := by
  unfold gStep hStep hRot
  rw [c31, c33]
theorem gOut_eq {X : Nat} (h : X ≠ hM - 1) : gOut hM X = if X < 9223372036854775808 then ((X : Nat) : Int) else ((X : Nat) : Int) - ((hM : Nat) : Int) := by
  unfold gOut
  rw [if_neg (by rw [beq_iff_eq]; exact h), c63]
theorem hash_pair (a b : Nat) (ha : a < 70) (hb : b < 70) : Builtin.Tuple.tupleHashOf [(a : Int), (b : Int)] = if hFin a b < 9223372036854775808 then ((hFin a b : Nat) : Int) else ((hFin a b : Nat) : Int) - ((hM : Nat) : Int) := by
  have e : ∀ x : Nat, x < 70 → (((x : Nat) : Int) % ((hM : Nat) : Int)).toNat = x := fun x hx => by unfold hM; omega
  have cM : (2 : Nat) ^ 64 = hM := c64
  rw [tho2, cM, e a ha, e b hb]
  have e1 : gFin hM 11400714785074694791 14029467366897019727 2870177450012600261 a b = hFin a b := by
    show (gStep hM hP1 hP2 (gStep hM hP1 hP2 2870177450012600261 a) b + _) % hM = _
    rw [gStep_eq, gStep_eq]
    rfl
  rw [e1, gOut_eq (fin_ne a ha b hb)]
def prH (a b : Nat) : Int := reduceHash (Builtin.Tuple.tupleHashOf [(a : Int), (b : Int)])
theorem prH_inj {a b c d : Nat} (ha : a < 70) (hb : b < 70) (hc : c < 70) (hd : d < 70) (h : prH a b = prH c d) : a = c ∧ b = d := by
  have lt : ∀ a b : Nat, hFin a b < hM := fun a b => Nat.mod_lt _ (by decide)
  have val : ∀ a b : Nat, a < 70 → b < 70 → prH a b = if hFin a b < 9223372036854775808 then ((hFin a b : Nat) : Int) else ((hFin a b : Nat) : Int) - ((hM : Nat) : Int) := fun a b ha hb => by
    unfold prH
    rw [hash_pair a b ha hb]
    have l := lt a b
    have n := fin_ne a ha b hb
    generalize hFin a b = x at l n
    have hMv : ((hM : Nat) : Int) = 18446744073709551616 := rfl
    rw [hMv]
    unfold hM at l n
    have key : ∀ i : Int, -9223372036854775808 ≤ i → i < 9223372036854775808 → i ≠ -1 → reduceHash i = i := fun i h1 h2 h3 => by
      unfold reduceHash
      rw [if_pos (by rw [Bool.and_eq_true, decide_eq_true_iff, decide_eq_true_iff]; exact ⟨h1, h2⟩), if_neg (by rw [beq_iff_eq]; exact h3)]
    split
    · exact key _ (by omega) (by omega) (by omega)
    · exact key _ (by omega) (by omega) (by omega)
  rw [val a b ha hb, val c d hc hd] at h
  refine acc_inj ha hb hc hd ?_
  have l1 := lt a b
  have l2 := lt c d
  have e1 : hFin a b = hFin c d := by
    generalize hFin a b = x at h l1
    generalize hFin c d = y at h l2
    have hMv : ((hM : Nat) : Int) = 18446744073709551616 := rfl
    rw [hMv] at h
    unfold hM at l1 l2
    split at h <;> split at h <;> omega
  unfold hFin at e1
  have m1 : hAcc a b < hM := Nat.mod_lt _ (by decide)
  have m2 : hAcc c d < hM := Nat.mod_lt _ (by decide)
  generalize hAcc a b = x at e1 m1
  generalize hAcc c d = y at e1 m2
  generalize (2 ^^^ (2870177450012600261 ^^^ 3527539)) = z at e1
  unfold hM at *
  omega
end L2

namespace L2
open PySem PySem.Spec PyProof.Rows
/-! ### a set of pairs -/
def PrAt (h : Heap) (u : Value) (c : Nat × Nat) : Prop := ∃ p t1 t2, u = .ref p ∧ IsTup h p #[.int (c.1 : Int) t1, .int (c.2 : Int) t2]
theorem PrAt.uniq {h : Heap} {u : Value} {c d : Nat × Nat} (x : PrAt h u c) (y : PrAt h u d) : c = d := by
  obtain ⟨p, t1, t2, rfl, o, ho, _, n, hd⟩ := x
  obtain ⟨p', t1', t2', e, o', ho', _, n', hd'⟩ := y
  injection e with e
  subst e
  obtain rfl : o = o' := Option.some.inj (ho.symm.trans ho')
  rw [hd] at hd'
  injection hd' with h1 _
  have h2 := congrArg Array.toList h1
  injection h2 with h3 h4
  injection h4 with h5 _
  injection h3 with h6 _
  injection h5 with h7 _
  exact Prod.ext (Int.ofNat.inj h6) (Int.ofNat.inj h7)
theorem PrAt.keeps {h h' : Heap} {u : Value} {c : Nat × Nat} (x : PrAt h u c) (hk : ∀ b o, h.get? b = some o → h'.get? b = some o) : PrAt h' u c :=
  let ⟨p, t1, t2, e, r⟩ := x
  ⟨p, t1, t2, e, r.keeps hk⟩
theorem PrAt.same {h h' : Heap} {u : Value} {c : Nat × Nat} {a : Addr} {o : Obj} {es : Array (Int × Value)} {ep : Nat} {t : SetTable} (x : PrAt h u c) (ho : h.get? a = some o) (hd : o.data = .set es ep t) (hs : Heap.SameBut a h h') : PrAt h' u c := by
  obtain ⟨p, t1, t2, e, o', ho', hc, n, hd'⟩ := x
  have hne : p ≠ a := by
    rintro rfl
    obtain rfl : o' = o := Option.some.inj (ho'.symm.trans ho)
    rw [hd] at hd'
    exact nomatch hd'
  exact ⟨p, t1, t2, e, o', (hs.2 p hne).trans ho', hc, n, hd'⟩
/-- values and the pairs that they are -/
abbrev PRel := Value → Nat × Nat → Prop
def PRel.Un (D : PRel) : Prop := ∀ u c d, D u c → D u d → c = d
open Classical in
noncomputable def prOf (D : PRel) (u : Value) : Nat × Nat := if q : ∃ c, D u c then Classical.choose q else (0, 0)
theorem prOf_eq {D : PRel} (hD : D.Un) {u : Value} {c : Nat × Nat} (x : D u c) : prOf D u = c := by
  unfold prOf
  rw [dif_pos ⟨c, x⟩]
  exact hD _ _ _ (Classical.choose_spec (⟨c, x⟩ : ∃ c, D u c)) x
def EsP (D : PRel) (es : List (Int × Value)) (cs : List (Nat × Nat)) : Prop := (∀ e ∈ es, ∃ c, e.1 = prH c.1 c.2 ∧ D e.2 c) ∧ (es.map fun e => prOf D e.2).Perm cs
theorem EsP.perm {D : PRel} {es es' : List (Int × Value)} {cs : List (Nat × Nat)} (x : EsP D es cs) (p : es'.Perm es) : EsP D es' cs :=
  ⟨fun e he => x.1 e (p.mem_iff.mp he), (p.map _).trans x.2⟩
theorem EsP.push {D : PRel} (hD : D.Un) {es es' : List (Int × Value)} {cs : List (Nat × Nat)} {u : Value} {c : Nat × Nat} (x : EsP D es cs) (hu : D u c) (p : es'.Perm ((prH c.1 c.2, u) :: es)) : EsP D es' (c :: cs) :=
  EsP.perm (es := (prH c.1 c.2, u) :: es) ⟨fun e he => by
    rcases List.mem_cons.mp he with rfl | he
    · exact ⟨c, rfl, hu⟩
    · exact x.1 e he, by
    rw [List.map_cons]
    show (prOf D u :: _).Perm _
    rw [prOf_eq hD hu]
    exact List.Perm.cons c x.2⟩ p
theorem EsP.len {D : PRel} {es : List (Int × Value)} {cs : List (Nat × Nat)} (x : EsP D es cs) : es.length = cs.length := by
  have := x.2.length_eq
  rw [List.length_map] at this
  exact this
def PrSet (D : PRel) (h : Heap) (a : Addr) (b : Bool) (cs : List (Nat × Nat)) : Prop := ∃ o es ep t, h.get? a = some o ∧ o.ExactSet ∧ o.data = .set es ep t ∧ EsP D es.toList cs ∧ TabP b t es.size ∧ es.size + 1 ≤ t.mask
theorem PrSet.at {D : PRel} {h h' : Heap} {a : Addr} {b : Bool} {cs : List (Nat × Nat)} (x : PrSet D h a b cs) (k : ∀ o, h.get? a = some o → h'.get? a = some o) : PrSet D h' a b cs := by
  obtain ⟨o, es, ep, t, ho, r⟩ := x
  exact ⟨o, es, ep, t, k _ ho, r⟩
theorem TabP.fits {b : Bool} {t : SetTable} {n : Nat} (T : TabP b t n) : t.fits n = true := by
  unfold SetTable.fits SetTable.fill
  rw [T.size, T.ok.dum]
  have := T.room
  simp only [beq_self_eq_true, Bool.true_and, List.size_toArray, List.length_nil, Nat.add_zero]
  exact decide_eq_true this
theorem TabP.gave {b : Bool} {t : SetTable} {n : Nat} (T : TabP b t n) : t.gaveWay = false := by
  unfold SetTable.gaveWay
  obtain ⟨k, hk, e⟩ := T.pow
  obtain ⟨k, rfl⟩ : ∃ j, k = j + 1 := ⟨k - 1, by omega⟩
  rw [Nat.pow_succ] at e
  rw [beq_eq_false_iff_ne]
  omega
section
variable {P : Program} {w : World} {A : Around} {E : Value → Shared → Prop} {s : Shared}
theorem wpAny_byValue {u : Value} {c : Nat × Nat} {Q : Bool → Shared → Prop} (hx : PrAt s.heap u c) (h : Q true s) : wpAny (model P w) A (hashByValue 8 u) Q E s := by
  obtain ⟨p, t1, t2, rfl, o, ho, hc, n, hd⟩ := hx
  unfold hashByValue
  have hT : s.TypeIs (.ref p) "tuple" := ⟨o, ho, hc⟩
  refine wpAny_bind (wpAny_specialOf hT PySem.F.slot_tuple_hash.lookup ?_)
  dsimp only
  refine wpAny_bind (wpAny_seqItems ho hd ?_)
  simp only [Option.getD_some]
  refine wpAny_bind ?_
  rw [← Array.forIn_toList]
  simp only [List.forIn_cons, List.forIn_nil]
  unfold hashByValue
  simp only [pure_bind, Bool.not_true, Bool.false_eq_true, ↓reduceIte]
  exact wpAny_pure (wpAny_pure h)
theorem insert_perm {α : Type} (xs : Array α) (p : Nat) (x : α) : (SetTable.insertAt xs p x).toList.Perm (x :: xs.toList) := by
  rw [insertAt_list]
  refine (List.perm_middle).trans ?_
  rw [List.take_append_drop]
theorem addP_tail {D : PRel} {b : Bool} {cs : List (Nat × Nat)} {a : Addr} {o : Obj} {es es1 : Array (Int × Value)} {ep n : Nat} {t t1 : SetTable} (ho : s.heap.get? a = some o) (hex : o.ExactSet) (hd : o.data = .set es ep t)
    (he1 : EsP D es1.toList cs) (hb : cs.length < scanBound) (T : TabP b t1 es1.size) {R : Bool → Shared → Prop} (hn : n = es1.size)
    (h : ∀ h', Heap.SameBut a s.heap h' → PrSet D h' a b cs → R true { s with heap := h' }) :
    wpAny (model P w) A (do
        storeSet a es1 t1
        if (!false && t1.tooFull) = true then setRelay a (SetTable.grown n)
        pure true) R E s := by
  subst hn
  have hl := he1.len
  rw [Array.length_toList] at hl
  have l1 : es1.size < scanBound := by omega
  refine wpAny_bind (wpAny_storeSet_of ho hd ?_ (fits_of_scanBound l1))
  have ho1 := store_iset ho hex hd (es' := es1) (t' := t1)
  have hsb1 := Heap.SameBut.update s.heap a (Obj.putSet es1 t1)
  dsimp only
  by_cases hf : (!false && t1.tooFull) = true
  · rw [if_pos hf]
    refine wpAny_bind ?_
    unfold setRelay
    refine wpAny_bind (wpAny_setState_of ho1 rfl T.fits ?_)
    dsimp only
    have hs4 : scanBound = 4096 := rfl
    have hg : SetTable.grown es1.size = es1.size * 4 := by unfold SetTable.grown; rw [if_neg (by omega)]
    obtain ⟨k, hk3, hk, hlt, hle⟩ := sizeAbove_spec (n := SetTable.grown es1.size) (by rw [hg]; exact Nat.lt_of_lt_of_le (show es1.size * 4 < 16384 by omega) (by decide))
    have hsl : ¬ SetTable.sizeAbove (SetTable.grown es1.size) > sizeLine := by
      rw [hk, sizeLine_eq]
      omega
    rw [if_neg hsl]
    have hms : (es1.map (·.1)).size = es1.size := Array.size_map ..
    have hkp : 2 ^ k - 1 + 1 = 2 ^ k := by have := Nat.two_pow_pos k; omega
    obtain ⟨t', ord, hlaid, hperm, T', hpl, hmk⟩ := laid_some (mask := 2 ^ k - 1) (finger := t1.finger) (moves := t1.movedTo (2 ^ k - 1)) (led := t1.led) (plain := t1.plain) ⟨k, by omega, hkp⟩ (es1.map (·.1)) (by rw [hms]; omega)
    rw [hms] at hperm T'
    have hre : t1.relaid (es1.map (·.1)) (SetTable.grown es1.size) = some (t', ord) := by
      unfold SetTable.relaid
      rw [hk]
      exact hlaid
    rw [hre]
    k_delta "reordered"
    refine wpAny_bind ?_
    dsimp only
    have hpe : (ord.filterMap (es1[·]?)).toList.Perm es1.toList := by
      have := filterMap_perm es1 (fun x => x) hperm
      rw [List.map_id''] at this
      · rw [Array.toList_filterMap]
        simpa using this
      · intro x; rfl
    have hsz : (ord.filterMap (es1[·]?)).size = es1.size := by
      have := hpe.length_eq
      rw [Array.length_toList, Array.length_toList] at this
      exact this
    generalize hes : ord.filterMap (es1[·]?) = es2 at hpe hsz
    rw [hsz]
    simp only [bne_self_eq_false, Bool.false_eq_true, ↓reduceIte, pure_bind]
    refine wpAny_pure ?_
    dsimp only
    refine wpAny_storeSet_of ho1 rfl ?_ (fits_of_scanBound (by rw [hsz]; exact l1))
    refine wpAny_pure ?_
    have hsb2 := Heap.SameBut.update (s.heap.update a (Obj.putSet es1 t1)) a (Obj.putSet es2 t')
    refine h _ (hsb1.trans hsb2) ⟨_, es2, _, t', store_iset ho1 hex rfl (es' := es2) (t' := t'), hex, rfl, he1.perm hpe, ?_, ?_⟩
    · rw [hsz, ← T.ok.led]; exact T'
    · rw [hsz, hmk]
      have h8 : 8 ≤ 2 ^ k := Nat.pow_le_pow_right (n := 2) (by decide) hk3
      rw [hg] at hlt
      omega
  · rw [if_neg hf]
    refine wpAny_pure ?_
    refine h _ hsb1 ⟨_, es1, _, t1, ho1, hex, rfl, he1, T, ?_⟩
    have : ¬ t1.fill * 5 ≥ t1.mask * 3 := fun z => hf (by unfold SetTable.tooFull; simp only [Bool.not_false, Bool.true_and]; exact decide_eq_true z)
    unfold SetTable.fill at this
    rw [T.size, T.ok.dum, show (#[] : Array Nat).size = 0 from rfl] at this
    omega
theorem addP {D : PRel} {b : Bool} {cs : List (Nat × Nat)} {a : Addr} {x : Value} {c : Nat × Nat} {Q : Bool → Shared → Prop} (hS : PrSet D s.heap a b cs) (hD : D.Un) (hx0 : D x c) (hx : PrAt s.heap x c) (hc : c ∉ cs) (hsm : ∀ d ∈ c :: cs, d.1 < 70 ∧ d.2 < 70) (hroom : cs.length + 1 < scanBound)
    (h : ∀ h', Heap.SameBut a s.heap h' → PrSet D h' a b (c :: cs) → Q true { s with heap := h' }) :
    wpAny (model P w) A (setAddHashed a x (prH c.1 c.2)) Q E s := by
  obtain ⟨o, es, ep, t, ho, hex, hd, he, T, hroom2⟩ := hS
  have hbs : byScan x es = false := by obtain ⟨p, _, _, rfl, _⟩ := hx; rfl
  unfold setAddHashed setAddHashedIn
  refine wpAny_holding (wpAny_bind (wpAny_setState_of ho hd T.fits ?_))
  dsimp only
  rw [hbs]
  simp only [Bool.false_eq_true, ↓reduceIte]
  unfold setSearch setSearchFrom
  refine wpAny_bind ?_
  refine wpAny_bind (wpAny_setState_of ho hd T.fits ?_)
  dsimp only
  rw [T.gave]
  simp only [Bool.false_eq_true, ↓reduceIte]
  k_delta "storedHashAt"
  dsimp only [Option.getD_none]
  have hh : ∀ i, i < t.place.size → (es[i]?.map (·.1)).getD 0 ≠ prH c.1 c.2 := fun i hi => by
    rw [T.size] at hi
    rw [Array.getElem?_eq_getElem hi, Option.map_some, Option.getD_some]
    have hm : es[i] ∈ es.toList := Array.mem_toList_iff.mpr (Array.getElem_mem hi)
    obtain ⟨d, h1, h2⟩ := he.1 _ hm
    rw [h1]
    intro z
    have hdc : d ∈ cs := he.2.mem_iff.mp (List.mem_map.mpr ⟨es[i], hm, prOf_eq hD h2⟩)
    obtain ⟨l1, l2⟩ := hsm d (List.mem_cons_of_mem _ hdc)
    obtain ⟨l3, l4⟩ := hsm c List.mem_cons_self
    obtain ⟨e1, e2⟩ := prH_inj l1 l2 l3 l4 z
    exact hc (by rw [← show d = c from Prod.ext e1 e2]; exact hdc)
  obtain ⟨j, hj, hjn, hjm⟩ := probe_free (hashAt := fun i => (es[i]?.map (·.1)).getD 0) (h := prH c.1 c.2) T hh
  rw [hj]
  refine wpAny_pure ?_
  dsimp only
  refine wpAny_bind (wpAny_setState_of ho hd T.fits ?_)
  dsimp only
  obtain ⟨q1, q2, q3, q4, q5, q6⟩ := T.put hjn hjm
  have hp := insert_perm es (t.put j).2 (prH c.1 c.2, x)
  have hes : (SetTable.insertAt es (t.put j).2 (prH c.1 c.2, x)).size = es.size + 1 := by
    have := hp.length_eq
    rw [Array.length_toList, List.length_cons, Array.length_toList] at this
    exact this
  have T1 : TabP b (t.put j).1 (SetTable.insertAt es (t.put j).2 (prH c.1 c.2, x)).size := by
    rw [hes]
    exact ⟨q1, by rw [q3]; exact T.pow, q2, fun y hy => by rw [q3]; exact q4 y hy, by rw [q3]; exact hroom2⟩
  have fin := addP_tail (P := P) (w := w) (A := A) (E := E) (b := b) (cs := c :: cs) ho hex hd (he.push hD hx0 hp) (by rw [List.length_cons]; exact hroom) T1 hes.symm h
  split
  · refine wpAny_bind (wpAny_byValue hx ?_)
    simp only [↓reduceIte]
    exact fin
  · refine wpAny_bind (wpAny_pure ?_)
    simp only [↓reduceIte]
    exact fin
end
end L2

namespace L2
open PySem PySem.Spec PyProof.Rows
theorem PrSet.perm {D : PRel} {h : Heap} {a : Addr} {b : Bool} {cs cs' : List (Nat × Nat)} (x : PrSet D h a b cs) (p : cs.Perm cs') : PrSet D h a b cs' := by
  obtain ⟨o, es, ep, t, ho, hx, hd, he, r⟩ := x
  exact ⟨o, es, ep, t, ho, hx, hd, ⟨he.1, he.2.trans p⟩, r⟩
theorem small_hash : ∀ k : Nat, k < 70 → hashInt (k : Int) = (k : Int) := by decide +kernel
section
variable {P : Program} {w : World} {A : Around} {E : Value → Shared → Prop} {s : Shared} {R : Result → Shared → Prop}
theorem pr_hash {u : Value} {c : Nat × Nat} {Q : Int → Shared → Prop} (hu : A.units < cLine) (hx : PrAt s.heap u c) (hc : c.1 < 70 ∧ c.2 < 70) (h : Q (prH c.1 c.2) { s with toks := s.toks + 3 }) : wpAny (model P w) A (pyHash u) Q E s := by
  obtain ⟨p, t1, t2, rfl, o, ho, hcl, n, hd⟩ := hx
  have hk : IsTupleKey (intKind P w) s.heap [(c.1 : Int), (c.2 : Int)] p := ⟨o, _, n, ho, hcl, hd, .cons (intKind_is _ _ _ _) (.cons (intKind_is _ _ _ _) .nil)⟩
  have e : ∀ k : Nat, k < 70 → (intKind P w).hash (k : Int) = (k : Int) := fun k hk => by
    show hashInt (k : Int) = (k : Int)
    exact small_hash k hk
  refine wpAny_pyHash_tuple hu hk ?_
  unfold tupleKeyHash
  rw [List.map_cons, List.map_cons, List.map_nil, e _ hc.1, e _ hc.2]
  exact h
theorem pr_loop {b : Bool} {h0 : Heap} {D : PRel} (hD : D.Un) {I : Addr} {fp wr : List Addr} {G : Array GenState → Array GenState → Prop} {n : Nat} {PP : Nat → Value → Prop} {St : Nat → Shared → Prop} (W : WalksS P w A.in1 I fp wr G n PP St) (S : Addr) (hSf : S ∉ fp)
    (hu : A.in1.units < cLine) (h0S : h0.get? S = none) (h0w : ∀ b ∈ wr, h0.get? b = none) (cs : List (Nat × Nat)) (hn : cs.length = n) (hval : ∀ (i : Nat) v, PP i v → ∃ c, cs[i]? = some c ∧ PrAt h0 v c ∧ D v c) (hcs : cs.Nodup) (hsm : ∀ d ∈ cs, d.1 < 70 ∧ d.2 < 70) (hb : n + 1 < scanBound) :
    ∀ (k i : Nat) (s : Shared), n - i = k → i ≤ n → St i s → PrSet D s.heap S b (cs.take i) → (∀ b o, h0.get? b = some o → s.heap.get? b = some o) →
      (∀ s', Moved (S :: wr) G s s' → PrSet D s'.heap S b cs → R (.ok (.ret .none)) s') →
      codeAny (model P w) A (.builtin "set.update.loop" ⟨[.ref S, .ref I], []⟩) R s := by
  have hSw : S ∉ wr := fun h => hSf (W.sub _ h)
  have hsub : ∀ b ∈ wr, b ∈ S :: wr := fun b hb => List.mem_cons_of_mem _ hb
  intro k
  induction k with
  | zero =>
    intro i s hk hi hst hS hkp hR
    have hin : i = n := by omega
    subst hin
    refine codeAny_builtin F.entry_set_update_loop ?_
    rw [Around.under_plainId F.plain_set_update_loop _]
    show wpAny _ A.in1 (pyNext (.ref I) >>= _) _ _ s
    refine wpAny_bind (W.done s _ _ hst fun s' hm => ?_)
    show wpAny _ A.in1 (ret Value.none) _ _ s'
    rw [List.take_of_length_le (by omega)] at hS
    exact wpAny_pure (hR s' (hm.mono hsub) (hS.at fun o e => hm.heap S _ hSw e))
  | succ k ih =>
    intro i s hk hi hst hS hkp hR
    have hlt : i < n := by omega
    refine codeAny_builtin F.entry_set_update_loop ?_
    rw [Around.under_plainId F.plain_set_update_loop _]
    show wpAny _ A.in1 (pyNext (.ref I) >>= _) _ _ s
    refine wpAny_bind (W.item i s _ _ hlt hst fun v s' hP hst' hm => ?_)
    obtain ⟨c, hx, hv0, hvD⟩ := hval i v hP
    have hS' : PrSet D s'.heap S b (cs.take i) := hS.at fun o e => hm.heap S _ hSw e
    have hkp' : ∀ b o, h0.get? b = some o → s'.heap.get? b = some o := fun b o e => hm.heap b o (fun z => by rw [h0w b z] at e; cases e) (hkp b o e)
    have hv : PrAt s'.heap v c := hv0.keeps hkp'
    obtain ⟨hil, hxe⟩ := List.getElem?_eq_some_iff.mp hx
    have hcm : c ∈ cs := List.mem_of_getElem? hx
    have htk : cs.take (i + 1) = cs.take i ++ [c] := by rw [List.take_add_one, hx]; rfl
    have hnin : c ∉ cs.take i := fun z => by
      have hnd := (List.take_sublist (i + 1) cs).nodup hcs
      rw [htk] at hnd
      exact (List.nodup_append.mp hnd).2.2 c z c List.mem_cons_self rfl
    show wpAny _ A.in1 (holding [v] (setAdd S v) >>= _) _ _ s'
    refine wpAny_bind (wpAny_holding ?_)
    unfold setAdd
    refine wpAny_holding ?_
    refine wpAny_bind (pr_hash hu hv (hsm c hcm) ?_)
    refine addP (D := D) (s := { s' with toks := s'.toks + 3 }) hS' hD hvD hv hnin (fun d hd => ?_) (by rw [List.length_take]; omega) fun h' hsb hS2 => ?_
    · rcases List.mem_cons.mp hd with rfl | hd
      · exact hsm _ hcm
      · exact hsm _ (List.mem_of_mem_take hd)
    have hS3 : PrSet D h' S b (cs.take (i + 1)) := by
      rw [htk]
      exact hS2.perm (List.perm_append_singleton c (cs.take i)).symm
    refine wpAny_pure ⟨plainId_quiet F.plain_set_update_loop _, ih (i + 1) _ (by omega) hlt (W.frame _ s' _ _ hst' (Nat.le_add_right _ _) fun b hb o e => ?_) hS3 (fun b o e => ?_) fun s'' hm'' hS'' => ?_⟩
    · rw [hsb.2 b (fun h : b = S => hSf (by rw [← h]; exact hb))]; exact e
    · rw [hsb.2 b (fun h : b = S => by rw [h, h0S] at e; cases e)]; exact hkp' b o e
    · refine hR s'' (Moved.trans W.gtrans ((hm.mono hsub).then_heap (Nat.le_add_right _ _) fun b o hb e => ?_) hm'') hS''
      rw [hsb.2 b (fun h : b = S => hb (by rw [h]; exact List.mem_cons_self))]; exact e
set_option maxRecDepth 100000 in
set_option maxHeartbeats 3200000 in
theorem call_setP {D : PRel} (hD : D.Un) {l : Addr} {items : Array Value} {cs : List (Nat × Nat)} {Q : Value → Shared → Prop} (hh : A.handled = none) (hu : A.units + 8 < cLine) (hl : s.heap.IsList l items) (hlen : cs.length = items.size) (hi : ∀ (i : Nat) v, items[i]? = some v → ∃ c, cs[i]? = some c ∧ PrAt s.heap v c ∧ D v c) (hcs : cs.Nodup) (hsm : ∀ d ∈ cs, d.1 < 70 ∧ d.2 < 70) (hb : items.size + 1 < scanBound)
    (h : ∀ (h' : Heap) (tk : Nat), PrSet D h' s.heap.objs.size (!byT w) cs → (∀ b o, b < s.heap.objs.size → s.heap.get? b = some o → h'.get? b = some o) → Q (.ref s.heap.objs.size) { s with heap := h', toks := tk }) :
    wpAny (model P w) A (call (.type "set") [.ref l]) Q E s := by
  obtain ⟨c, tl, hmro⟩ := PySem.F.called_set.mro
  have hmade := PySem.F.called_set.made
  have hsub := PySem.F.called_set.sub
  refine wpAny_call (codeAny_of_tree ?_)
  show wpAny _ _ (callAny (.type "set") _) _ _ _
  refine wpAny_pure ⟨Code.quiet_builtin _ (by decide +kernel), codeAny_builtin PySem.F.entry_type_call ?_⟩
  rw [Around.under_plain (weight_type_call_type "set" [.ref l] []) rfl]
  have h1 := PySem.F.called_set.notType
  have h2 := PySem.F.called_set.canCreate
  have hct := PySem.F.typeCall_set_1 (.ref l)
  repeat (any_goals (first | assumption | wp_step))
  refine codeAny_mono (newSet_led (.ref l) (E := E) (Q₁ := fun obj s₁ => obj = .ref s.heap.objs.size ∧ s₁ = { s with heap := s.heap.push { cls := .type "set", dict := none, data := .set #[] 0 (.fresh 0 0 (!byT w)) } }) ⟨rfl, rfl⟩) fun r s₁ hr => ?_
  cases r with
  | error e => exact hr
  | ok fl =>
    cases fl with
    | ret obj =>
      obtain ⟨rfl, rfl⟩ := hr
      have hS : (s.heap.push { cls := .type "set", dict := none, data := .set #[] 0 (.fresh 0 0 (!byT w)) }).get? s.heap.objs.size = some { cls := .type "set", dict := none, data := .set #[] 0 (.fresh 0 0 (!byT w)) } := Heap.get?_push_size _ rfl
      have hT : Shared.TypeIs { s with heap := s.heap.push { cls := .type "set", dict := none, data := .set #[] 0 (.fresh 0 0 (!byT w)) } } (.ref s.heap.objs.size) "set" := ⟨_, hS, rfl⟩
      have hli := PySem.F.called_set.init.lookup
      have hbi := PySem.F.called_set.init.bind (.ref s.heap.objs.size)
      repeat (any_goals (first | assumption | wp_step))
      refine codeAny_mono (codeAny_call_builtin (R := wants (fun r s₂ => r = .none ∧ ∃ h' tk, s₂ = { s with heap := h', toks := tk } ∧ PrSet D h' s.heap.objs.size (!byT w) cs ∧
          (∀ b o, b < s.heap.objs.size → s.heap.get? b = some o → h'.get? b = some o)) E) PySem.F.called_set.init.plain PySem.F.entry_set_init (check_set_init_1 hT ?_)) fun r₂ s₂ hr₂ => ?_
      · obtain ⟨ol, hol, hcl, nl, hdl⟩ := hl
        obtain ⟨ocls, odict, odata, oslots⟩ := ol
        simp only at hcl hdl
        subst hcl; subst hdl
        have hol' : (s.heap.push { cls := .type "set", dict := none, data := .set #[] 0 (.fresh 0 0 (!byT w)) }).get? l = some { cls := .type "list", dict := odict, data := .seq items nl, slots := oslots } := Heap.get?_push_of_some _ hol
        have hsls := PySem.F.sub_list_set
        have hslf := PySem.F.sub_list_frozenset
        have hne : (Value.type "list" == Value.type "dict") = false := by decide
        have hl1 : (s.heap.push { cls := .type "set", dict := none, data := .set #[] 0 (.fresh 0 0 (!byT w)) }).IsList l items := ⟨_, hol', rfl, nl, rfl⟩
        unfold Builtin.«set.__init__» noKeywords Builtin.Frozenset.updateFrom
        generalize hPI : pyIter = PI
        wp_walk
        subst hPI
        refine wpAny_pyIter_list hl1 ?_
        refine wpAny_bind (wpAny_runValue ?_)
        have hlS : l < s.heap.objs.size := Heap.lt_size hol
        have hh3 : A.in1.in1.in1.handled = none := by simp [hh]
        have hneI : l ≠ (s.heap.push { cls := .type "set", dict := none, data := .set #[] 0 (.fresh 0 0 (!byT w)) }).objs.size := by
          rw [Heap.size_push]; exact Nat.ne_of_lt (Nat.lt_succ_of_lt hlS)
        have hSf : s.heap.objs.size ∉ [(s.heap.push { cls := .type "set", dict := none, data := .set #[] 0 (.fresh 0 0 (!byT w)) }).objs.size, l] := by
          rw [Heap.size_push]; simp only [List.mem_cons, List.mem_singleton, List.not_mem_nil, or_false, not_or]
          exact ⟨Nat.ne_of_lt (Nat.lt_succ_self _), Nat.ne_of_gt hlS⟩
        refine pr_loop (b := !byT w) (h0 := s.heap) hD ((Walks.list hh3 _ l hneI items).toS) s.heap.objs.size hSf (by show A.units + 1 + 1 + 1 < cLine; omega) (Heap.get?_none_of_le (Nat.le_refl _)) (fun b hb => ?hW) cs hlen hi hcs hsm hb (items.size - 0) 0 _ (by omega) (Nat.zero_le _)
          ⟨⟨_, Heap.get?_push_size _ rfl, rfl, rfl⟩, (hl1.push _)⟩ ?hS0 (fun b o e => Heap.get?_push_of_some _ (Heap.get?_push_of_some _ e)) ?hR
        case hW =>
          have := List.mem_singleton.mp hb
          subst this
          exact Heap.get?_none_of_le (by rw [Heap.size_push]; exact Nat.le_succ _)
        case hS0 =>
          have hget : ((s.heap.push { cls := .type "set", dict := none, data := .set #[] 0 (.fresh 0 0 (!byT w)) }).push { cls := .type "list_iterator", data := .fields #[.ref l, .int 0 0] }).get? s.heap.objs.size
              = some { cls := .type "set", dict := none, data := .set #[] 0 (.fresh 0 0 (!byT w)) } := Heap.get?_push_of_some _ hS
          exact ⟨_, #[], 0, _, hget, ⟨rfl, rfl, rfl⟩, rfl, ⟨fun e he => (by cases he), List.Perm.refl _⟩, ⟨TabOk.fresh _, ⟨3, by decide, rfl⟩, rfl, (fun j hj => by cases hj), Nat.zero_le _⟩, by show 0 + 1 ≤ 7; decide⟩
        case hR =>
          intro s' hm hS'
          obtain ⟨h', g', d', tk', os'⟩ := s'
          have eg : g' = s.gens := hm.gens
          have ed : d' = s.drawn := hm.drawn
          have eo : os' = s.os := hm.os
          subst eg; subst ed; subst eo
          show wpAny _ _ _ _ _ _
          refine wpAny_pure ?_
          show wpAny _ _ (ret Value.none) _ _ _
          refine wpAny_pure ⟨rfl, h', tk', rfl, hS', fun b o hb e => ?_⟩
          have hb1 : b ≠ s.heap.objs.size := Nat.ne_of_lt hb
          have hb2 : b ≠ (s.heap.push { cls := .type "set", dict := none, data := .set #[] 0 (.fresh 0 0 (!byT w)) }).objs.size := by
            rw [Heap.size_push]; exact Nat.ne_of_lt (Nat.lt_succ_of_lt hb)
          exact hm.heap b o (by simp only [List.mem_cons, List.mem_singleton, List.not_mem_nil, or_false, not_or]; exact ⟨hb1, hb2⟩) (Heap.get?_push_of_some _ (Heap.get?_push_of_some _ e))
      · cases r₂ with
        | error e => exact hr₂
        | ok fl₂ =>
          cases fl₂ with
          | ret r =>
            obtain ⟨rfl, h', tk, rfl, hS', hk'⟩ := hr₂
            repeat (any_goals (first | assumption | wp_step))
            exact h _ _ hS' hk'
          | _ => exact hr₂.elim
    | _ => exact hr.elim
end
end L2

namespace L2
open PySem PySem.Spec PyProof.Rows
/-- the values of a set of pairs, in some order -/
def ValsP (D : PRel) (vs : List Value) (cs : List (Nat × Nat)) : Prop := (∀ v ∈ vs, ∃ c, D v c) ∧ (vs.map (prOf D)).Perm cs
theorem ValsP.len {D : PRel} {vs : List Value} {cs : List (Nat × Nat)} (x : ValsP D vs cs) : vs.length = cs.length := by
  have := x.2.length_eq
  rw [List.length_map] at this
  exact this
section
variable {P : Program} {w : World} {A : Around} {E : Value → Shared → Prop} {s : Shared}
end
end L2

namespace L2
open PySem PySem.Spec PyProof.Rows
/-- a pair of small numbers, tracked -/
def HPr (H : Hp) (v : V) (c : Nat × Nat) : Prop := ∃ q, v = .ref q ∧ H q = some (.tup [.int (c.1 : Int), .int (c.2 : Int)])
def DH (H0 : Hp) (vs : List V) : PRel := fun u c => ∃ q, u = .ref q ∧ V.ref q ∈ vs ∧ H0 q = some (.tup [.int (c.1 : Int), .int (c.2 : Int)])
theorem HPr.un {H : Hp} {v : V} {c d : Nat × Nat} (x : HPr H v c) (y : HPr H v d) : c = d := by
  obtain ⟨q, rfl, h1⟩ := x
  obtain ⟨q', e, h2⟩ := y
  injection e with e
  subst e
  have h3 := Option.some.inj (h1.symm.trans h2)
  injection h3 with h4
  injection h4 with h5 h6
  injection h6 with h7 _
  injection h5 with h8
  injection h7 with h9
  exact Prod.ext (Int.ofNat.inj h8) (Int.ofNat.inj h9)
theorem DH.un (H0 : Hp) (vs : List V) : (DH H0 vs).Un := fun u c d ⟨q, e, _, h1⟩ ⟨q', e', _, h2⟩ => by
  subst e
  injection e' with e'
  subst e'
  exact HPr.un (H := H0) (v := .ref q) ⟨q, rfl, h1⟩ ⟨q, rfl, h2⟩
def SetPO (w : World) (p : Addr) (H0 : Hp) (vs : List V) (cs : List (Nat × Nat)) : HO := .ext fun h => PrSet (DH H0 vs) h p (!byT w) cs
theorem HPr.at {X : Cx} {pins : List (Addr × Obj)} {σ : St} {H : Hp} {s : Shared} {v : V} {u : Value} {c : Nat × Nat} (I : Inv X pins σ H s) (h : HPr H v c) (r : RelV v u) : PrAt s.heap u c := by
  obtain ⟨q, rfl, hq⟩ := h
  obtain rfl : u = Value.ref q := r
  obtain ⟨a, b, ⟨t1, rfl⟩, ⟨t2, rfl⟩, it⟩ := two_of I hq
  exact ⟨q, t1, t2, rfl, it⟩
/-- set(l), l a list of pairs, none twice -/
def rSetP (K : PySem.W.Frag) (w : World) : List V → Hp → VK → Prop := fun xs H Q => ∃ (l : Addr) (vs : List V) (cs : List (Nat × Nat)), xs = [.ref l] ∧ SqL K H l vs ∧ Paired (HPr H) vs cs ∧ cs.Nodup ∧ (∀ d ∈ cs, d.1 < 70 ∧ d.2 < 70) ∧ vs.length ≤ 4000 ∧ ∀ p, H p = none → Q (.ref p) (upd H p (SetPO w p H vs cs))
theorem paired_len {α β : Type} {F : α → β → Prop} : ∀ {l : List α} {m : List β}, Paired F l m → l.length = m.length
  | _, _, .nil => rfl
  | _, _, .cons _ r => by rw [List.length_cons, List.length_cons, paired_len r]
theorem call_setPu {X : Cx} {K : PySem.W.Frag} {w : World} (hK : X.K = K) (hw : X.w = w) (hc : X.calm = true) (hu : X.A.units + 64 < cLine) : CallR X (.type "set") (rSetP K w) := by
  subst hK hw
  intro pins s σ H xs us Q I rv h
  obtain ⟨l, vs, cs, rfl, hl, hp, hnd, hsm, hz, q⟩ := h
  obtain ⟨u, rfl, ru⟩ := vals1 rv
  obtain rfl : u = Value.ref l := ru
  obtain ⟨its, r, p, _⟩ := I.list hl
  have hlen : its.length = vs.length := (Vals.length r).symm
  have hcl := paired_len hp
  refine call_setP (D := DH H vs) (DH.un H vs) (items := its.toArray) (cs := cs) (I.ok.hd hc) (by omega) p.isList (by rw [List.size_toArray]; omega) (fun i v hv => ?_) hnd hsm (by unfold scanBound; rw [List.size_toArray]; omega) fun h' tk hS hk => ?_
  · rw [List.getElem?_toArray] at hv
    obtain ⟨x, hx, rx⟩ := Paired.atR r hv
    obtain ⟨c, hc', hxc⟩ := Paired.at' hp hx
    refine ⟨c, hc', hxc.at I rx, ?_⟩
    obtain ⟨z, rfl, hz'⟩ := hxc
    obtain rfl : v = Value.ref z := rx
    exact ⟨z, rfl, List.mem_of_getElem? hx, hz'⟩
  have hk' : ∀ b o, s.heap.get? b = some o → h'.get? b = some o := fun b o e => hk b o (Heap.lt_size e) e
  refine ⟨.ref s.heap.objs.size, _, I.laid (a := s.heap.objs.size) (o := SetPO X.w s.heap.objs.size H vs cs) (t' := tk) hk' (Nat.le_refl _) ⟨hS, ?_, fun h1 h2 x k => PrSet.at x k⟩, rfl, q _ (I.hok.fresh (Nat.le_refl _))⟩
  obtain ⟨o, _, _, _, e, _⟩ := hS
  exact ⟨o, e⟩
/-- sorted(s), s a set of pairs -/
def cd (c : Nat × Nat) : List Int := [(c.1 : Int), (c.2 : Int)]
end L2

namespace L2
open PySem PySem.Spec PyProof.Rows
section
variable {P : Program} {w : World} {A : Around} {E : Value → Shared → Prop} {s : Shared}
end
/-! ### sorted(set(l)), l already in order -/
end L2

namespace L2
open PySem PySem.Spec PyProof.Rows
/-! ### a pair in a list of pairs -/
theorem eqD_pair {K : PySem.W.Frag} {H : Hp} {n : Nat} {x y : V} {c d : Nat × Nat} (hx : HPr H x c) (hy : HPr H y d) : EqD K H (n + 1) x y (decide (c = d)) := by
  have hx' := hx
  have hy' := hy
  obtain ⟨p, rfl, hp⟩ := hx
  obtain ⟨q, rfl, hq⟩ := hy
  refine .inr (.inl ⟨true, p, q, _, _, fun j => if j = 0 then ((c.1 : Int) == (d.1 : Int)) else ((c.2 : Int) == (d.2 : Int)), rfl, rfl, SqB.t hp, SqB.t hq, fun j x' y' h1 h2 => ?_, ?_, fun e => ?_⟩)
  · match j, h1, h2 with
    | 0, h1, h2 =>
      cases h1; cases h2
      exact EqD.int _ _
    | 1, h1, h2 =>
      cases h1; cases h2
      exact EqD.int _ _
    | j + 2, h1, h2 => simp at h1
  · show decide (c = d) = (true && (List.range 2).all _)
    rw [Bool.true_and, show List.range 2 = [0, 1] from rfl, List.all_cons, List.all_cons, List.all_nil, Bool.and_true]
    show decide (c = d) = (((c.1 : Int) == (d.1 : Int)) && ((c.2 : Int) == (d.2 : Int)))
    rw [Bool.eq_iff_iff, Bool.and_eq_true, decide_eq_true_iff, beq_iff_eq, beq_iff_eq]
    constructor
    · rintro rfl; exact ⟨rfl, rfl⟩
    · rintro ⟨h1, h2⟩; exact Prod.ext (Int.ofNat.inj h1) (Int.ofNat.inj h2)
  · subst e
    exact decide_eq_true (hx'.un hy')
def rInP (K : PySem.W.Frag) (neg : Bool) : R2 := fun x y H Q => ∃ (p : Addr) (xs : List V) (c : Nat × Nat) (cs : List (Nat × Nat)), y = .ref p ∧ SqL K H p xs ∧ HPr H x c ∧ Paired (HPr H) xs cs ∧ Q (.bl (if neg then !decide (c ∈ cs) else decide (c ∈ cs))) H
theorem inP_facts {X : Cx} {pins : List (Addr × Obj)} {σ : St} {H : Hp} {s : Shared} (hu : X.A.units + 64 < cLine) (I : Inv X pins σ H s) {x : V} {v : Value} {xs : List V} {its : List Value} {c : Nat × Nat} {cs : List (Nat × Nat)} (rx : RelV x v) (hx : HPr H x c) (r : Vals xs its) (hp : Paired (HPr H) xs cs) :
    ∃ e : Value → Bool, (∀ y, y ∈ its.toArray → SeqAt.EqAt X.A.in1 s y v (e y)) ∧ its.toArray.any e = decide (c ∈ cs) := by
  have un : PRel.Un (fun u d => PrAt s.heap u d) := fun u c d a b => a.uniq b
  refine ⟨fun u => decide (prOf (fun u d => PrAt s.heap u d) u = c), fun y hy => ?_, ?_⟩
  · obtain ⟨x', hx', rx'⟩ := Paired.memR r (show y ∈ its by simpa using hy)
    obtain ⟨d, _, hd⟩ := Paired.memL hp hx'
    dsimp only
    rw [prOf_eq un (hd.at I rx')]
    exact eqAt_D I 1 X.A.in1 (eqD_pair hd hx) rx' rx (by show X.A.units + 1 + 1 < cLine; omega)
  · rw [Bool.eq_iff_iff, decide_eq_true_iff]
    have e1 : its.toArray.any (fun u => decide (prOf (fun u d => PrAt s.heap u d) u = c)) = its.any (fun u => decide (prOf (fun u d => PrAt s.heap u d) u = c)) := by simp
    rw [e1, List.any_eq_true]
    constructor
    · rintro ⟨u, hu', e⟩
      obtain ⟨x', hx', rx'⟩ := Paired.memR r hu'
      obtain ⟨d, hd1, hd⟩ := Paired.memL hp hx'
      have e := of_decide_eq_true e
      rw [prOf_eq un (hd.at I rx')] at e
      rw [← e]; exact hd1
    · intro hc
      obtain ⟨x', hx', hd⟩ := Paired.memR hp hc
      obtain ⟨u, hu', rx'⟩ := Paired.memL r hx'
      refine ⟨u, hu', decide_eq_true ?_⟩
      exact prOf_eq un (hd.at I rx')
theorem oInP {X : Cx} {K : PySem.W.Frag} (hK : X.K = K) (hu : X.A.units + 64 < cLine) : OpR X (compareOp .In) (rInP K false) := by
  subst hK
  intro pins s σ H x y v u Q I rx ry h
  obtain ⟨p, xs, c, cs, rfl, hq, hx, hp, q⟩ := h
  cases ry
  obtain ⟨its, r, pl, hz⟩ := I.list hq
  obtain ⟨e, h1, h2⟩ := inP_facts hu I rx hx r hp
  refine SeqAt.in_listAt e pl.isList h1 ⟨.bl _, H, I, rfl, ?_⟩
  rw [h2]
  exact q
/-- len(s), s a set of pairs -/
def rLenPS (w : World) : List V → Hp → VK → Prop := fun xs H Q => ∃ (p : Addr) (H0 : Hp) (vs : List V) (cs : List (Nat × Nat)), xs = [.ref p] ∧ H p = some (SetPO w p H0 vs cs) ∧ cs.length ≤ 4000 ∧ Q (.int cs.length) H
theorem call_lenPS {X : Cx} {w : World} (hw : X.w = w) : CallR X (.builtin "len") (rLenPS w) := by
  subst hw
  intro pins s σ H xs us Q I rv h
  obtain ⟨p, H0, vs0, cs, rfl, hp, hz, q⟩ := h
  obtain ⟨u, rfl, ru⟩ := vals1 rv
  obtain rfl : u = Value.ref p := ru
  obtain ⟨⟨o, es, ep, t, ho, hex, hd, he, T, _⟩, _, _⟩ := (show ObjOk X.prog X.w H s.heap p (SetPO X.w p H0 vs0 cs) from I.hok p _ hp)
  have hl := he.len
  rw [Array.length_toList] at hl
  exact call_len_set ho hex hd T.fits (by omega) ⟨.int cs.length, H, I.tok _, ⟨_, by rw [hl]⟩, q⟩
end L2

namespace L2
open PySem PySem.Spec PyProof.Rows
/-! ### sorted(d): a dict whose keys are ints, in any order -/
def rSortDK : List V → Hp → VK → Prop := fun xs H Q => ∃ (d : Addr) (kvs : List (Key × V)) (ns : List Int), xs = [.ref d] ∧ H d = some (.dK kvs) ∧ kvs.map (·.1) = ns.map Sum.inl ∧ ns.length ≤ 1000000 ∧
  ∀ (q : Addr) (ms : List Int), H q = none → ms.Pairwise (· < ·) → (∀ k, k ∈ ms ↔ k ∈ ns) → Q (.ref q) (upd H q (.lst (ms.map V.int)))
theorem pairs_at {P : Program} {w : World} : ∀ {es : List DictEntry} {vs : List (Key × Value)} {i : Nat} {kv : Key × Value}, Pairs (mixKind P w) es vs → vs[i]? = some kv → ∃ e, es[i]? = some e ∧ keyIs kv.1 e.key = true
  | _, _, i, kv, .nil, h => by simp at h
  | _, _, 0, kv, .cons h1 _ _, h => by simp at h; subst h; exact ⟨_, rfl, h1⟩
  | _, _, i + 1, kv, .cons _ _ t, h => by
    obtain ⟨e, h1, h2⟩ := pairs_at t (by simpa using h)
    exact ⟨e, by simpa using h1, h2⟩
theorem ltI_ord {vs : List Value} (mem : ∀ v ∈ vs, ∃ i t, v = Value.int i t) : Ord (· ∈ vs) ltI := by
  refine ⟨fun x y hx hy h => ?_, fun x y z hx hy hz h1 h2 => ?_⟩
  · obtain ⟨i, t, rfl⟩ := mem x hx
    obtain ⟨j, t', rfl⟩ := mem y hy
    have h : decide (i < j) = true := h
    show decide (j < i) = false
    simp only [decide_eq_true_eq, decide_eq_false_iff_not] at h ⊢
    omega
  · obtain ⟨i, t, rfl⟩ := mem x hx
    obtain ⟨j, t', rfl⟩ := mem y hy
    obtain ⟨k, t'', rfl⟩ := mem z hz
    have h1 : decide (j < i) = false := h1
    have h2 : decide (k < j) = false := h2
    show decide (k < i) = false
    simp only [decide_eq_false_iff_not] at h1 h2 ⊢
    omega
theorem call_sortDK {X : Cx} (hc : X.calm = true) : CallR X (.builtin "sorted") rSortDK := by
  intro pins s σ H xs us Q I rv h
  obtain ⟨d, kvs, ns, rfl, hd, hk, hz, q⟩ := h
  obtain ⟨u, rfl, ru⟩ := vals1 rv
  obtain rfl : u = Value.ref d := ru
  have hsl : sizeLine = 16777216 := sizeLine_eq
  obtain ⟨hz', hsm, vs0, kv, o, es, ep, h1, h2, h3, h4, h5, h6⟩ := dk_of I.hok hd
  have raw : RawD s.heap d es ep := ⟨o, h1, h2, h3⟩
  have hkl : kvs.length = ns.length := by have := congrArg List.length hk; simpa using this
  have hvl : vs0.length = ns.length := by rw [← Paired.length kv, hkl]
  have hes : es.size = ns.length := by rw [← Array.length_toList, Pairs.length h5, hvl]
  have hmap : vs0.map (·.1) = ns.map Sum.inl := by
    rw [← hk]
    have go : ∀ (a : List (Key × V)) (b : List (Key × Value)), KV a b → b.map (·.1) = a.map (·.1) := by
      intro a
      induction a with
      | nil => intro b r; cases r; rfl
      | cons x a ih =>
        intro b r
        cases r with
        | cons r1 r2 => rw [List.map_cons, List.map_cons, ih _ r2, r1.1]
    exact go _ _ kv
  have nd : ns.Nodup := by
    have := h6
    rw [hmap] at this
    exact (List.pairwise_map.mp this).imp fun h e => h (congrArg _ e)
  have keys : ∀ (i : Nat) (n : Int), ns[i]? = some n → ∃ e t, es[i]? = some e ∧ e.key = Value.int n t := fun i n hi => by
    have e1 : (vs0.map (·.1))[i]? = some (Sum.inl n) := by rw [hmap, List.getElem?_map, hi]; rfl
    rw [List.getElem?_map] at e1
    obtain ⟨kw, e2, e3⟩ := Option.map_eq_some_iff.mp e1
    obtain ⟨e, e4, e5⟩ := pairs_at h5 e2
    rw [e3] at e5
    rcases keyIs_shape e5 with ⟨j, t, ej, ek⟩ | ⟨x, t, ej, _⟩
    · cases ej
      exact ⟨e, t, by rw [← Array.getElem?_toList]; exact e4, ek⟩
    · cases ej
  refine PySem.Calls.call_function_entry kind_sorted plain_sorted entry_sorted (args_sorted1 _) ?_
  unfold Builtin.«sorted»
  refine wpAny_bind (m := checkCount "sorted" 1 1 _) (wpAny_pure ?_)
  refine wpAny_bind (PySem.W.kdu_collect (A := X.A.in1) (rawD_src hsm) (I.ok.hd hc) raw (by omega) fun hC tk acc hkp hacc => ?_)
  obtain ⟨vs, hvs⟩ : ∃ vs, acc.toList = vs := ⟨_, rfl⟩
  have hal : vs.length = ns.length := by rw [← hvs, Array.length_toList, hacc.1, hes]
  have i1 : IntsAre vs ns := by
    have items : ∀ (i : Nat) (n : Int), ns[i]? = some n → ∃ t, vs[i]? = some (Value.int n t) := fun i n hi => by
      obtain ⟨e, t, e1, e2⟩ := keys i n hi
      have hil : i < acc.size := by rw [hacc.1, hes]; exact (List.getElem?_eq_some_iff.mp hi).1
      obtain ⟨e', f1, f2⟩ := hacc.2 i acc[i] (by simp [hil])
      rw [e1] at f1
      cases f1
      exact ⟨t, by rw [← hvs, Array.getElem?_toList, Array.getElem?_eq_getElem hil, f2, e2]⟩
    have go : ∀ (vs : List Value) (ns : List Int), vs.length = ns.length → (∀ (i : Nat) (n : Int), ns[i]? = some n → ∃ t, vs[i]? = some (Value.int n t)) → IntsAre vs ns := by
      intro vs
      induction vs with
      | nil =>
        intro ns hl _
        cases ns with
        | nil => exact .nil
        | cons _ _ => simp at hl
      | cons v vs ih =>
        intro ns hl hi
        cases ns with
        | nil => simp at hl
        | cons n ns =>
          obtain ⟨t, e⟩ := hi 0 n rfl
          have e : v = Value.int n t := by simpa using e
          subst e
          exact .cons _ _ (ih ns (by simpa using hl) fun i m hm => by have := hi (i + 1) m (by simpa using hm); simpa using this)
    exact go vs ns hal items
  have I1 : Inv X pins σ H { s with heap := hC, toks := tk } := I.kept hkp
  have mem : ∀ v ∈ vs, ∃ i t, v = Value.int i t := fun v hv => by
    obtain ⟨j, hj⟩ := List.mem_iff_getElem?.mp hv
    obtain ⟨t, e⟩ := IntsAre.int_at i1 j v hj
    exact ⟨_, t, e⟩
  rw [hvs]
  refine wpAny_bind (wpAny_newList ?_ (by omega))
  have hoL : (hC.push (seqObj "list" vs.toArray 0)).get? hC.objs.size = some (seqObj "list" vs.toArray 0) := Heap.get?_push_size _ rfl
  refine wpAny_bind (wpAny_holding (wpAny_call_entry slot_list_sort ⟨_, hoL, rfl⟩ entry_list_sort (sort_gen (s := { s with heap := hC.push (seqObj "list" vs.toArray 0), toks := tk }) (LT := ltI) hoL (by omega) (ltI_ord mem) (fun hh2 h3 hk3 => ?_) fun out p1 p2 => ⟨_, rfl, ?_⟩) (args_list_sort _)))
  · obtain ⟨κ, k1, k2⟩ := (scI X).asks (s := { s with heap := h3, toks := tk }) (vs := vs) (fun v hv => by obtain ⟨i, t, rfl⟩ := mem v hv; exact ⟨[i], i, t, rfl, rfl⟩) hh2
    refine ⟨κ, fun Q q => wpAny_mono (k1 Q q) (fun _ _ x => x) fun _ _ x => x.elim, fun u v C hu hv hC => ?_⟩
    obtain ⟨i, t, rfl⟩ := mem u hu
    obtain ⟨j, t', rfl⟩ := mem v hv
    exact k2 _ _ [i] [j] C ⟨i, t, rfl, rfl⟩ ⟨j, t', rfl, rfl⟩ (by rw [lex1]; exact hC)
  · have hold : ∀ b o, hC.get? b = some o → (sortedHeap (hC.push (seqObj "list" vs.toArray 0)) hC.objs.size vs out.toArray).get? b = some o := fun b o e => by
      have hlt : b < hC.objs.size := Heap.lt_size e
      rw [sortedHeap_old (Nat.ne_of_lt hlt) (by rw [Heap.size_push]; exact Nat.lt_succ_of_lt hlt)]
      exact Heap.get?_push_of_some _ e
    obtain ⟨c, hat⟩ : ∃ c, (sortedHeap (hC.push (seqObj "list" vs.toArray 0)) hC.objs.size vs out.toArray).get? hC.objs.size = some (seqObj "list" out.toArray c) := by
      first | exact ⟨_, sortedHeap_at hoL⟩ | exact sortedHeap_at hoL
    have mo : ∀ v ∈ out, ∃ i t, v = Value.int i t := fun v hv => mem v (p1.mem_iff.mp hv)
    have pm : (out.map intOf).Perm ns := by
      have := p1.map intOf
      rw [ints_map i1] at this
      exact this
    have I2 : Inv X pins σ (upd H hC.objs.size (.lst ((out.map intOf).map V.int))) { s with heap := sortedHeap (hC.push (seqObj "list" vs.toArray 0)) hC.objs.size vs out.toArray, toks := tk } :=
      Inv.laid (s := { s with heap := hC, toks := tk }) I1 (a := hC.objs.size) (o := .lst ((out.map intOf).map V.int)) (t' := tk) hold (Nat.le_refl _)
        ⟨by rw [List.length_map, List.length_map, p1.length_eq]; omega, out, c, ints_self mo, hat⟩
    refine wpAny_pure ⟨_, rfl, .ref hC.objs.size, _, I2, rfl, q hC.objs.size (out.map intOf) (I1.hok.fresh (Nat.le_refl _)) ?_ fun k => pm.mem_iff⟩
    have nd' : (out.map intOf).Nodup := pm.nodup_iff.mpr nd
    have le : (out.map intOf).Pairwise (· ≤ ·) := by
      rw [List.pairwise_map]
      refine List.Pairwise.imp_of_mem ?_ p2
      intro x y hx hy h
      obtain ⟨i, t, rfl⟩ := mo x hx
      obtain ⟨j, t', rfl⟩ := mo y hy
      have h : decide (j < i) = false := h
      show i ≤ j
      simp only [decide_eq_false_iff_not] at h
      omega
    have := le.and nd'
    exact this.imp fun ⟨a, b⟩ => by omega
end L2

namespace L2
open PySem PySem.Spec PyProof.Rows
/-! ### a def of the top, as a caller wants it -/
structure DefAt (K : PySem.W.Frag) (mg : Str → Option Value) (x : Str) (st : Stmt) (ps : List Str) (f : Addr) (fd : FuncData) : Prop where
  fn : Fun K x x st f fd
  mg : mg x = some (.ref f)
  bd : Binds K fd ps []
/-- a walk's kinds, one or the other -/
theorem PI.or {X : Cx} {tg it : Expr} {wi wi' : TI} (h : PI X tg it wi) (h' : PI X tg it wi') : PI X tg it (fun σ H R => wi σ H R ∨ wi' σ H R) := fun pins s σ H R I q => by
  rcases q with q | q
  · exact h pins s σ H R I q
  · exact h' pins s σ H R I q
end L2
namespace My
open PySem L2
def top (i : Nat) : Stmt := PySem.Challenge.pw_toldsums_k34_whole_kept_for_all_sums.main.body.getD i (.Pass ⟨0, 0, 0, 0⟩)
/-- what is no name of the module -/
structure Txt (mg : Str → Option Value) : Prop where
  b_len : mg "len" = none
  b_sum : mg "sum" = none
  b_range : mg "range" = none
  b_tuple : mg "tuple" = none
  b_list : mg "list" = none
  b_int : mg "int" = none
  b_str : mg "str" = none
  b_bool : mg "bool" = none
  b_isinstance : mg "isinstance" = none
  b_min : mg "min" = none
  b_max : mg "max" = none
  b_zip : mg "zip" = none
  b_reversed : mg "reversed" = none
  b_sorted : mg "sorted" = none
  b_abs : mg "abs" = none
  b_all : mg "all" = none
  b_any : mg "any" = none
  b_set : mg "set" = none
  b_ValueError : mg "ValueError" = none
theorem mod_lt (x m : Int) (h : 0 < m) : 0 ≤ x % m ∧ x % m < m := ⟨Int.emod_nonneg _ (by omega), Int.emod_lt_of_pos _ h⟩
theorem mulL {x : Int} (y m : Int) (h : 0 < m) (hm : m < 2 ^ 64) : CMul (x % m) y := by
  have := mod_lt x m h
  left
  omega
theorem e6 : (10 : Int) ^ (Int.toNat 6) = 1000000 := by decide
theorem e12 : (10 : Int) ^ (Int.toNat 12) = 1000000000000 := by decide
end My
namespace L2
open PySem PySem.Spec PyProof.Rows
/-! ### the forms of a comprehension's walk that one uses -/
theorem walk_range {lo : Int} {n : Nat} {g : TG} {t : TT} {b : TB} {N : St → Hp → Prop} {σ : St} {H : Hp} (Pv : Nat → St → Hp → Prop) (h0 : Pv 0 σ H)
    (hs : ∀ i σ H, i < n → Pv i σ H → g (.int (lo + i)) σ H fun σ2 H2 => t σ2 H2 fun k H3 => if k = true then b σ2 H3 (Pv (i + 1)) else Pv (i + 1) σ2 H3) (hd : ∀ σ H, Pv n σ H → N σ H) : bWalk (Itr lo n) g t b N σ H :=
  for_range (tb := fun D σ2 H2 => t σ2 H2 fun k H3 => if k = true then b σ2 H3 D.nx else D.nx σ2 H3) (D := { nx := N, rt := fun _ _ => True }) Pv h0 hs hd
theorem walk_list {K : PySem.W.Frag} {a : Addr} {xs : List V} {g : TG} {t : TT} {b : TB} {N : St → Hp → Prop} {σ : St} {H : Hp} (Pv : Nat → St → Hp → Prop) (h0 : Pv 0 σ H) (hl : ∀ i σ H, i ≤ xs.length → Pv i σ H → SqL K H a xs)
    (hs : ∀ i x σ H, xs[i]? = some x → Pv i σ H → g x σ H fun σ2 H2 => t σ2 H2 fun k H3 => if k = true then b σ2 H3 (Pv (i + 1)) else Pv (i + 1) σ2 H3) (hd : ∀ σ H, Pv xs.length σ H → N σ H) : bWalk (Itl K a) g t b N σ H :=
  for_list (tb := fun D σ2 H2 => t σ2 H2 fun k H3 => if k = true then b σ2 H3 D.nx else D.nx σ2 H3) (D := { nx := N, rt := fun _ _ => True }) Pv h0 hl hs hd
theorem atI_ints (ns : List Int) {r : Int} (h0 : 0 ≤ r) (h1 : r < ns.length) : ∃ n, atI (ns.map V.int) r = some (.int n) ∧ n ∈ ns ∧ ns[r.toNat]? = some n := by
  obtain ⟨j, rfl⟩ := Int.eq_ofNat_of_zero_le h0
  have hj : j < ns.length := by omega
  refine ⟨ns[j], atI_nat ?_, List.getElem_mem hj, ?_⟩
  · rw [List.getElem?_map, List.getElem?_eq_getElem hj]; rfl
  · rw [Int.toNat_natCast]; exact List.getElem?_eq_getElem hj
theorem size_le {n : Nat} (h : n ≤ 1000000) : n ≤ sizeLine := Nat.le_trans h (by decide)
theorem size_lt {n : Nat} (h : n ≤ 1000000) : n < sizeLine := Nat.lt_of_le_of_lt h (by decide)
end L2

namespace My
open PySem L2
def Scr (K : PySem.W.Frag) (H : Hp) (a : Addr) (scr : List Int) : Prop := SqL K H a (scr.map V.int) ∧ scr.length ≤ 63
theorem Scr.same {K : PySem.W.Frag} {H H' : Hp} {a : Addr} {scr : List Int} (h : Scr K H a scr) (s : Same H H') : Scr K H' a scr := ⟨s.seq h.1, h.2⟩
def spNum (K : PySem.W.Frag) : Sp := fun vs H Q _ => ∃ (a : Addr) (scr : List Int) (n : Int), vs = [.ref a, .int n] ∧ Scr K H a scr ∧ 0 ≤ n ∧ n < 1000000 ∧ ∀ (r : Int) (H' : Hp), 0 ≤ r → r < 1000000 → Same H H' → Q (.int r) H'
section
variable {P : Program} {w : World} {K : PySem.W.Frag} {mg : Str → Option Value} {base : Heap}
abbrev s_law_number : Stmt := top 17
theorem sc_law_number : FnScope ["script", "k", "cells", "size", "cell", "turn", "rest", "step", "seed"] ["script", "k"] (defScope s_law_number) := ⟨rfl, rfl, rfl, by decide +kernel, rfl, by decide +kernel, by decide +kernel⟩
theorem ok_number {f : Addr} {fd : FuncData} (F : Fun K "_law_number" "_law_number" s_law_number f fd) (T : Txt mg) : FnOk P w K mg base CX0 1 f fd ["script", "k"] (spNum K) := by
  refine F.ok sc_law_number (fun vs H Q E h => ?_) (fun cdv A outer s H vs Q E hr h => ?_)
  · obtain ⟨a, scr, n, rfl, _⟩ := h
    rfl
  · obtain ⟨a, scr, n, rfl, ⟨hS, hl⟩, n0, n1, k⟩ := h
    refine ⟨_, (pss_cons (ps_set (i := 2) sc_law_number.nd rfl (Or.inl rfl) (pe_op op_cat (pe_callTy (cList (K := K) rfl) (by rfl) T.b_list PyProof.Rows.Boot.«list» (pa_cons (pv 0) pa_nil)) (pe_lst (pa_cons pe_int pa_nil))))
      (pss_cons (ps_set (i := 3) sc_law_number.nd rfl (Or.inl rfl) (pe_callB (call_max2 rfl) (by rfl) T.b_max PyProof.Rows.Boot.«max» (pa_cons pe_int (pa_cons (pe_callB (cLen (K := K) rfl) (by rfl) T.b_len PyProof.Rows.Boot.«len» (pa_cons (pv 0) pa_nil)) pa_nil))))
      (pss_cons (ps_set (i := 4) sc_law_number.nd rfl (Or.inl rfl) (pe_ix (ixL (K := K) rfl) (pv 2) (pe_op op_mod (pv 1) (pv 3)) (fun _ _ => rfl)))
      (pss_cons (ps_set (i := 5) sc_law_number.nd rfl (Or.inl rfl) (pe_op op_fdivW (pv 1) (pv 3)))
      (pss_cons (ps_set (i := 6) sc_law_number.nd rfl (Or.inl rfl) (pv 4))
      (pss_cons (ps_for PassesOwn.never rfl (pi_range1 (by rfl) T.b_range (pa_cons (pe_callB (call_min2 rfl) (by rfl) T.b_min PyProof.Rows.Boot.«min» (pa_cons (pv 5) (pa_cons pe_int pa_nil))) pa_nil)) (pg_name (i := 7) sc_law_number.nd rfl (Or.inl rfl))
        (pss_one (ps_set (i := 6) sc_law_number.nd rfl (Or.inl rfl) (pe_op op_fdivW (pv 6) pe_int))))
      (pss_cons (ps_if (PW.pt (pw_and (pt_cmpR op_ge (pv 4) (pe_op op_pow pe_int pe_int) (nomark _)) (pw_and (pt_cmpR op_lt (pv 5) pe_int (nomark _)) (pw_and1 (pt_cmpR op_gt (pv 6) pe_int (nomark _))))))
        (pss_one (ps_ret (pe_op op_mod (pv 6) pe_int)))
        pss_nil)
      (pss_cons (ps_set (i := 8) sc_law_number.nd rfl (Or.inl rfl) (pe_op op_mod (pe_op op_mul (pe_op op_add (pe_op op_add (pe_op op_add (pe_op op_mod (pv 4) pe_int) pe_int) (pe_op op_mul pe_int (pv 5))) (pe_op op_mul pe_int (pv 1))) pe_int) pe_int))
      (pss_cons (ps_set (i := 8) sc_law_number.nd rfl (Or.inl rfl) (pe_op op_mod (pe_op op_add (pe_op op_add (pe_op op_mul (pv 8) (pv 8)) (pe_op op_mul pe_int (pv 5))) (pe_op op_mul pe_int (pv 1))) pe_int))
      (pss_one (ps_ret (pe_op op_mod (pe_op op_fdivW (pe_op op_mod (pe_op op_mul (pv 8) pe_int) pe_int) pe_int) pe_int)))))))))))), ?_⟩
    have hlm : (scr.map V.int).length = scr.length := List.length_map _
    -- cells = list(script) + [0]
    refine ⟨_, rfl, a, _, rfl, .inl hS, fun l1 hl1 => ⟨by show 1 ≤ sizeLine; decide, fun l2 hl2 => ⟨l1, l2, _, _, rfl, rfl, (upd_ne (ne_of_none upd_same hl2)).trans upd_same, upd_same, size_le (by rw [hlm]; show scr.length + 1 ≤ 1000000; omega), fun l3 hl3 => ?_⟩⟩⟩
    have S3 : Same H (upd (upd (upd H l1 (.lst (scr.map V.int))) l2 (.lst [.int 0])) l3 (.lst (scr.map V.int ++ [.int 0]))) := (Same.lay hl1).trans ((Same.lay hl2).trans (Same.lay hl3))
    have hc3 : upd (upd (upd H l1 (.lst (scr.map V.int))) l2 (.lst [.int 0])) l3 (.lst (scr.map V.int ++ [.int 0])) l3 = some (.lst ((scr ++ [0]).map V.int)) := by rw [upd_same, List.map_append]; rfl
    -- size = max(1, len(script))
    refine ⟨_, rfl, a, _, rfl, .inl (S3.seq hS), _, _, rfl, ?_⟩
    obtain ⟨sz, hsz⟩ : ∃ sz : Int, (if ((scr.map V.int).length : Int) > 1 then ((scr.map V.int).length : Int) else 1) = sz := ⟨_, rfl⟩
    have sz0 : 0 < sz := by rw [← hsz]; split <;> omega
    have sz1 : sz ≤ scr.length + 1 := by rw [← hsz]; split <;> omega
    rw [hsz]
    -- cell = cells[k % size]
    have ⟨m0, m1⟩ := mod_lt n sz sz0
    obtain ⟨cell, hcell, _, _⟩ := atI_ints (scr ++ [0]) m0 (by rw [List.length_append]; simp only [List.length_cons, List.length_nil]; omega)
    refine ⟨_, rfl, _, rfl, _, rfl, _, _, rfl, rfl, sz0, l3, _, _, _, rfl, rfl, SqL.of hc3, hcell, ?_⟩
    -- turn = k // size; rest = cell
    refine ⟨_, rfl, _, rfl, _, _, rfl, rfl, ⟨sz0, by omega⟩, ?_⟩
    have t0 : 0 ≤ n / sz := Int.ediv_nonneg n0 (by omega)
    refine ⟨_, rfl, ?_⟩
    -- for step in range(min(turn, 60))
    refine ⟨_, rfl, _, _, rfl, _, rfl, by split <;> omega, by split <;> omega, for_range (fun i σ H' => ∃ (r : Int) (v7 : Option V), σ = [some (.ref a), some (.int n), some (.ref l3), some (.int sz), some (.int cell), some (.int (n / sz)), some (.int r), v7, none] ∧ Same H H') ⟨_, none, rfl, S3⟩ ?_ ?_⟩
    · rintro i σ H' _ ⟨r, v7, rfl, S'⟩
      refine ⟨_, rfl, _, _, rfl, rfl, ⟨by decide, by decide⟩, ?_⟩
      exact ⟨_, _, rfl, S'⟩
    · rintro σ H' ⟨r, v7, rfl, S'⟩
      refine ⟨_, rfl, _, _, rfl, rfl, ⟨by decide, by decide, by decide⟩, _, _, rfl, rfl, _, rfl, ite2 (fun e1 => ⟨_, rfl, _, _, rfl, rfl, _, rfl, ite2 (fun e2 => ⟨_, rfl, _, _, rfl, rfl, _, rfl, ite2 (fun e3 => ?y) (fun e3 => ?n1)⟩) (fun e2 => iteF ?n2)⟩) (fun e1 => iteF ?n3)⟩
      case y =>
        refine ⟨_, rfl, _, _, rfl, rfl, (by show (0 : Int) < _; decide), ?_⟩
        have := mod_lt r 1000000 (by decide)
        exact k _ _ this.1 this.2 S'
      case n1 | n2 | n3 =>
        refine ⟨_, rfl, _, _, rfl, rfl, (by show (0 : Int) < _; decide), _, _, rfl, rfl, _, rfl, _, _, rfl, rfl, .inl ⟨by decide, by decide⟩, _, _, rfl, rfl, _, rfl, _, _, rfl, rfl, .inl ⟨by decide, by decide⟩, _, _, rfl, rfl, _, _, rfl, rfl, .inr ⟨by decide, by decide⟩, _, _, rfl, rfl, (by show (0 : Int) < _; decide), ?_⟩
        refine ⟨_, rfl, _, rfl, _, _, rfl, rfl, mulL _ _ (by decide) (by decide), _, rfl, _, _, rfl, rfl, .inl ⟨by decide, by decide⟩, _, _, rfl, rfl, _, rfl, _, _, rfl, rfl, .inl ⟨by decide, by decide⟩, _, _, rfl, rfl, _, _, rfl, rfl, (by show (0 : Int) < _; decide), ?_⟩
        refine ⟨_, rfl, _, _, rfl, rfl, mulL _ _ (by decide) (by decide), _, _, rfl, rfl, (by show (0 : Int) < _; decide), _, _, rfl, rfl, ⟨by decide, by decide⟩, _, _, rfl, rfl, (by show (0 : Int) < _; decide), ?_⟩
        exact k _ _ (mod_lt _ _ (by decide)).1 (mod_lt _ _ (by decide)).2 S'
end
end My

namespace My
open PySem L2
def spRow (K : PySem.W.Frag) : Sp := fun vs H Q _ => ∃ (a : Addr) (scr : List Int) (st most : Int), vs = [.ref a, .int st, .int most] ∧ Scr K H a scr ∧ 0 ≤ st ∧ st < 10000 ∧ 0 ≤ most ∧ most ≤ 60 ∧
  ∀ (p : Addr) (ns : List Int) (H' : Hp), H' p = some (.tup (ns.map V.int)) → ns.length ≤ most.toNat → (∀ n ∈ ns, -1000000000000 ≤ n ∧ n ≤ 1000000000000) → Same H H' → Q (.ref p) H'
theorem some_in {nu r2 bs sg sg2 sm : Int} (nu0 : 0 ≤ nu) (nu1 : nu < 1000000) (r20 : 0 ≤ r2) (r21 : r2 < 1000000) (bs0 : 0 ≤ bs) (hsg : sg = 1 ∨ sg = -1) (hsg2 : sg2 = 1 ∨ sg2 = -1)
    (h : sm ∈ [nu % 7 - 3, nu % 3 / 2 * sg, nu % 199 - 99, (nu * 10 ^ Int.toNat 6 + r2) * sg, bs % 19 - 9, (bs % 9 + 1) * sg2, (10 ^ Int.toNat 12 - 1 - nu % 3) * sg, nu % 5 / 4 * ((nu * 10 ^ Int.toNat 6 + r2) * sg)]) : -1000000000000 ≤ sm ∧ sm ≤ 1000000000000 := by
  rw [e6, e12] at h
  have h5 : nu % 5 / 4 = 0 ∨ nu % 5 / 4 = 1 := by omega
  simp only [List.mem_cons, List.not_mem_nil, or_false] at h
  rcases hsg with rfl | rfl <;> rcases hsg2 with rfl | rfl <;> rcases h with rfl | rfl | rfl | rfl | rfl | rfl | rfl | rfl <;> first | omega | (rcases h5 with e | e <;> rw [e] <;> omega)
section
variable {P : Program} {w : World} {K : PySem.W.Frag} {mg : Str → Option Value} {base : Heap}
abbrev s_law_row : Stmt := top 18
theorem sc_law_row : FnScope ["script", "start", "most", "head", "kind", "base", "found", "k", "number", "sign", "great", "near", "some"] ["script", "start", "most"] (defScope s_law_row) := ⟨rfl, rfl, rfl, by decide +kernel, rfl, by decide +kernel, by decide +kernel⟩
theorem ok_row {f fn : Addr} {fd fdn : FuncData} (F : Fun K "_law_row" "_law_row" s_law_row f fd) (T : Txt mg) (D__law_number : DefAt K mg "_law_number" s_law_number ["script", "k"] fn fdn) : FnOk P w K mg base CX0 2 f fd ["script", "start", "most"] (spRow K) := by
  have G__law_number : FnOk P w K mg base CX0 1 fn fdn ["script", "k"] (spNum K) := ok_number D__law_number.fn T
  refine F.ok sc_law_row (fun vs H Q E h => ?_) (fun cdv A outer s H vs Q E hr h => ?_)
  · obtain ⟨a, scr, st, most, rfl, _⟩ := h
    rfl
  · obtain ⟨a, scr, st, most, rfl, hS, s0, s1, o0, o1, k⟩ := h
    refine ⟨_, (pss_cons (ps_set (i := 3) sc_law_row.nd rfl (Or.inl rfl) (pe_call G__law_number (hr.mono (by first | decide | exact Nat.le_refl _)) rfl D__law_number.mg D__law_number.fn.kp D__law_number.bd .nil pass0 (pa_cons (pv 0) (pa_cons (pv 1) pa_nil))))
      (pss_cons (ps_set (i := 4) sc_law_row.nd rfl (Or.inl rfl) (pe_op op_mod (pe_op op_fdivW (pv 3) pe_int) pe_int))
      (pss_cons (ps_set (i := 5) sc_law_row.nd rfl (Or.inl rfl) (pe_call G__law_number (hr.mono (by first | decide | exact Nat.le_refl _)) rfl D__law_number.mg D__law_number.fn.kp D__law_number.bd .nil pass0 (pa_cons (pv 0) (pa_cons (pe_op op_add (pv 1) pe_int) pa_nil))))
      (pss_cons (ps_set (i := 6) sc_law_row.nd rfl (Or.inl rfl) (pe_lst pa_nil))
      (pss_cons (ps_for PassesOwn.never rfl (pi_range1 (by rfl) T.b_range (pa_cons (pe_op op_mod (pv 3) (pe_op op_add (pv 2) pe_int)) pa_nil)) (pg_name (i := 7) sc_law_row.nd rfl (Or.inl rfl))
        (pss_cons (ps_set (i := 8) sc_law_row.nd rfl (Or.inl rfl) (pe_call G__law_number (hr.mono (by first | decide | exact Nat.le_refl _)) rfl D__law_number.mg D__law_number.fn.kp D__law_number.bd .nil pass0 (pa_cons (pv 0) (pa_cons (pe_op op_add (pe_op op_add (pv 1) pe_int) (pv 7)) pa_nil))))
        (pss_cons (ps_set (i := 9) sc_law_row.nd rfl (Or.inl rfl) (pe_ix (ixL (K := K) rfl) (pe_lst (pa_cons pe_int (pa_cons (pe_un un_neg pe_int) pa_nil))) (pe_op op_mod (pe_call G__law_number (hr.mono (by first | decide | exact Nat.le_refl _)) rfl D__law_number.mg D__law_number.fn.kp D__law_number.bd .nil pass0 (pa_cons (pv 0) (pa_cons (pe_op op_add (pe_op op_add (pv 1) pe_int) (pv 7)) pa_nil))) pe_int) (fun _ _ => rfl)))
        (pss_cons (ps_set (i := 10) sc_law_row.nd rfl (Or.inl rfl) (pe_op op_mul (pe_op op_add (pe_op op_mul (pv 8) (pe_op op_pow pe_int pe_int)) (pe_call G__law_number (hr.mono (by first | decide | exact Nat.le_refl _)) rfl D__law_number.mg D__law_number.fn.kp D__law_number.bd .nil pass0 (pa_cons (pv 0) (pa_cons (pe_op op_add (pe_op op_add (pv 1) pe_int) (pv 7)) pa_nil)))) (pv 9)))
        (pss_cons (ps_set (i := 11) sc_law_row.nd rfl (Or.inl rfl) (pe_op op_mul (pe_op op_sub (pe_op op_sub (pe_op op_pow pe_int pe_int) pe_int) (pe_op op_mod (pv 8) pe_int)) (pv 9)))
        (pss_cons (ps_set (i := 12) sc_law_row.nd rfl (Or.inl rfl) (pe_lst (pa_cons (pe_op op_sub (pe_op op_mod (pv 8) pe_int) pe_int) (pa_cons (pe_op op_mul (pe_op op_fdivW (pe_op op_mod (pv 8) pe_int) pe_int) (pv 9)) (pa_cons (pe_op op_sub (pe_op op_mod (pv 8) pe_int) pe_int) (pa_cons (pv 10) (pa_cons (pe_op op_sub (pe_op op_mod (pv 5) pe_int) pe_int) pa_nil)))))))
        (pss_cons (ps_expr (pe_bm PySem.F.plainAttrs_list PySem.F.slot_list_extend PySem.F.type_list_extend mt_extend (pv 12) (pa_cons (pe_lst (pa_cons (pe_op op_mul (pe_op op_add (pe_op op_mod (pv 5) pe_int) pe_int) (pe_ix (ixL (K := K) rfl) (pe_lst (pa_cons pe_int (pa_cons (pe_un un_neg pe_int) pa_nil))) (pe_op op_mod (pv 7) pe_int) (fun _ _ => rfl))) (pa_cons (pv 11) (pa_cons (pe_op op_mul (pe_op op_fdivW (pe_op op_mod (pv 8) pe_int) pe_int) (pv 10)) pa_nil)))) pa_nil)))
        (pss_one (ps_expr (pe_bm PySem.F.plainAttrs_list PySem.F.slot_list_append PySem.F.type_list_append mt_append (pv 6) (pa_cons (pe_ix (ixL (K := K) rfl) (pv 12) (pv 4) (fun _ _ => rfl)) pa_nil)))))))))))
      (pss_one (ps_ret (pe_callTy (cTuple (K := K) rfl) (by rfl) T.b_tuple PyProof.Rows.Boot.«tuple» (pa_cons (pv 6) pa_nil))))))))), ?_⟩
    -- head, kind, base
    refine ⟨_, rfl, _, rfl, a, scr, _, rfl, hS, s0, by omega, fun hd H1 hd0 hd1 S1 => ?_⟩
    refine ⟨_, rfl, _, _, rfl, rfl, ⟨by decide, by decide⟩, _, _, rfl, rfl, (by show (0 : Int) < _; decide), ?_⟩
    refine ⟨_, rfl, _, rfl, _, _, rfl, rfl, a, scr, _, rfl, hS.same S1, by omega, by omega, fun bs H2 bs0 bs1 S2' => ?_⟩
    have S2 := S1.trans S2'
    -- found = []
    refine ⟨by show 0 ≤ sizeLine; decide, fun l hl => ?_⟩
    have S3 := S2.trans (Same.lay (o := .lst []) hl)
    have hnl : H l = none := S2.free hl
    have ⟨kd0, kd1⟩ := mod_lt (hd / 61) 8 (by decide)
    have ⟨m0, m1⟩ := mod_lt hd (most + 1) (by omega)
    -- for k in range(head % (most + 1))
    refine ⟨_, rfl, _, rfl, _, _, rfl, rfl, _, _, rfl, rfl, (by show (0 : Int) < most + 1; omega), _, rfl, by omega, by omega, for_range (n := (hd % (most + 1)).toNat) (fun i σ H' => ∃ (v7 v8 v9 v10 v11 v12 : Option V) (ns : List Int), σ = [some (.ref a), some (.int st), some (.int most), some (.int hd), some (.int (hd / 61 % 8)), some (.int bs), some (.ref l), v7, v8, v9, v10, v11, v12] ∧ H' l = some (.lst (ns.map V.int)) ∧ ns.length = i ∧ (∀ n ∈ ns, -1000000000000 ≤ n ∧ n ≤ 1000000000000) ∧ Same H H') ?_ ?_ ?_⟩
    · exact ⟨none, none, none, none, none, none, [], rfl, upd_same, rfl, fun n hn => by simp at hn, S3⟩
    · rintro i σ H' hi ⟨v7, v8, v9, v10, v11, v12, ns, rfl, ha, hn, hbd, S'⟩
      -- number
      refine ⟨_, rfl, _, rfl, _, _, rfl, rfl, _, rfl, _, _, rfl, rfl, a, scr, _, rfl, hS.same S', by omega, by omega, fun nu H4 nu0 nu1 T4 => ?_⟩
      have S4 := S'.trans T4
      -- sign = [1, -1][.. % 2]
      refine ⟨1, rfl, by show 2 ≤ sizeLine; decide, fun p hp => ⟨_, rfl, _, rfl, _, _, rfl, rfl, _, rfl, _, _, rfl, rfl, a, scr, _, rfl, (hS.same S4).same (Same.lay hp), by omega, by omega, fun r1 H5 r10 r11 T5 => ?_⟩⟩
      have ⟨q0, q1⟩ := mod_lt r1 2 (by decide)
      obtain ⟨sg, hsg, hsm, _⟩ := atI_ints [1, -1] q0 q1
      have hsg' : sg = 1 ∨ sg = -1 := by simpa using hsm
      refine ⟨_, _, rfl, rfl, (by show (0 : Int) < _; decide), p, _, _, _, rfl, rfl, SqL.of (T5 _ _ upd_same), hsg, ?_⟩
      have T5' : Same H' H5 := T4.trans ((Same.lay hp).trans T5)
      have S5 := S'.trans T5'
      -- great
      refine ⟨_, rfl, _, _, rfl, rfl, ⟨by decide, by decide, by decide⟩, _, _, rfl, rfl, .inl (by omega), _, rfl, _, rfl, _, _, rfl, rfl, _, rfl, _, _, rfl, rfl, a, scr, _, rfl, hS.same S5, by omega, by omega, fun r2 H6 r20 r21 T6 => ?_⟩
      have S6 := S5.trans T6
      refine ⟨_, _, rfl, rfl, _, rfl, _, _, rfl, rfl, .inr (by omega), ?_⟩
      -- near
      refine ⟨_, _, rfl, rfl, ⟨by decide, by decide, by decide⟩, _, _, rfl, rfl, _, rfl, _, _, rfl, rfl, (by show (0 : Int) < _; decide), _, _, rfl, rfl, _, rfl, _, _, rfl, rfl, .inr (by omega), ?_⟩
      -- some = [..]
      have md := mod_lt nu 3 (by decide)
      refine ⟨_, rfl, _, _, rfl, rfl, (by show (0 : Int) < _; decide), _, _, rfl, rfl, ?_⟩
      refine ⟨_, rfl, _, _, rfl, rfl, (by show (0 : Int) < _; decide), _, _, rfl, rfl, ⟨by decide, by decide⟩, _, rfl, _, _, rfl, rfl, .inr (by omega), ?_⟩
      refine ⟨_, rfl, _, _, rfl, rfl, (by show (0 : Int) < _; decide), _, _, rfl, rfl, _, rfl, _, rfl, _, _, rfl, rfl, (by show (0 : Int) < _; decide), _, _, rfl, rfl, by show 5 ≤ sizeLine; decide, fun q hq => ?_⟩
      -- some.extend([..])
      refine ⟨_, rfl, .inl ⟨rfl, _, SqL.of upd_same⟩, ?_⟩
      refine ⟨_, rfl, _, _, rfl, rfl, (by show (0 : Int) < _; decide), _, _, rfl, rfl, 1, rfl, by show 2 ≤ sizeLine; decide, fun p2 hp2 => ⟨_, rfl, _, _, rfl, rfl, (by show (0 : Int) < _; decide), ?_⟩⟩
      have ⟨u0, u1⟩ := mod_lt (0 + (i : Int)) 2 (by decide)
      obtain ⟨sg2, hsg2, hsm2, _⟩ := atI_ints [1, -1] u0 u1
      have hsg2' : sg2 = 1 ∨ sg2 = -1 := by simpa using hsm2
      refine ⟨p2, _, _, _, rfl, rfl, SqL.of upd_same, hsg2, _, _, rfl, rfl, .inr (by omega), _, rfl, ?_⟩
      refine ⟨_, rfl, _, _, rfl, rfl, (by show (0 : Int) < _; decide), _, _, rfl, rfl, ⟨by decide, by decide⟩, _, rfl, _, _, rfl, rfl, .inl ?_, by show 3 ≤ sizeLine; decide, fun p3 hp3 => ?_⟩
      · have := mod_lt nu 5 (by decide)
        omega
      have hq' : H' q = none := T5'.free (T6.free hq)
      have hp2' := hp2
      have hp3' := hp3
      refine ⟨q, p3, _, _, rfl, rfl, (upd_ne (ne_of_none ((upd_ne (ne_of_none upd_same hp2)).trans upd_same) hp3)).trans ((upd_ne (ne_of_none upd_same hp2)).trans upd_same), upd_same, by show 5 + 3 ≤ sizeLine; decide, ?_⟩
      -- found.append(some[kind])
      have T7 : Same H' (upd (upd (upd (upd H6 q (.lst [.int (nu % 7 - 3), .int (nu % 3 / 2 * sg), .int (nu % 199 - 99), .int ((nu * 10 ^ Int.toNat 6 + r2) * sg), .int (bs % 19 - 9)])) p2 (.lst [.int 1, .int (-1)])) p3 (.lst [.int ((bs % 9 + 1) * sg2), .int ((10 ^ Int.toNat 12 - 1 - nu % 3) * sg), .int (nu % 5 / 4 * ((nu * 10 ^ Int.toNat 6 + r2) * sg))])) q (.lst ([.int (nu % 7 - 3), .int (nu % 3 / 2 * sg), .int (nu % 199 - 99), .int ((nu * 10 ^ Int.toNat 6 + r2) * sg), .int (bs % 19 - 9)] ++ [.int ((bs % 9 + 1) * sg2), .int ((10 ^ Int.toNat 12 - 1 - nu % 3) * sg), .int (nu % 5 / 4 * ((nu * 10 ^ Int.toNat 6 + r2) * sg))]))) := fun b o e => by
        rw [upd_ne (ne_of_none e hq')]
        exact Same.lay hp3 _ _ (Same.lay hp2 _ _ (Same.lay hq _ _ (T6 _ _ (T5' _ _ e))))
      obtain ⟨sm, hsm8, hsin, _⟩ := atI_ints [nu % 7 - 3, nu % 3 / 2 * sg, nu % 199 - 99, (nu * 10 ^ Int.toNat 6 + r2) * sg, bs % 19 - 9, (bs % 9 + 1) * sg2, (10 ^ Int.toNat 12 - 1 - nu % 3) * sg, nu % 5 / 4 * ((nu * 10 ^ Int.toNat 6 + r2) * sg)] kd0 kd1
      refine ⟨_, rfl, .inl ⟨rfl, _, SqL.of (T7 _ _ ha)⟩, _, rfl, _, rfl, q, _, _, _, rfl, rfl, SqL.of upd_same, hsm8, l, _, _, rfl, rfl, T7 _ _ ha, size_lt (by rw [List.length_map]; omega), ?_⟩
      refine ⟨_, _, _, _, _, _, ns ++ [sm], rfl, by rw [upd_same, List.map_append]; rfl, by rw [List.length_append, hn]; rfl, fun n hn' => ?_, fun b o e => ?_⟩
      · rcases List.mem_append.mp hn' with z | z
        · exact hbd n z
        · rw [List.mem_singleton.mp z]
          exact some_in nu0 nu1 r20 r21 bs0 hsg' hsg2' hsin
      rw [upd_ne (ne_of_none e hnl)]
      exact T7 _ _ (S' _ _ e)
    · rintro σ H' ⟨v7, v8, v9, v10, v11, v12, ns, rfl, ha, hn, hbd, S'⟩
      exact ⟨_, rfl, l, _, rfl, .inl ⟨SqL.of ha, fun q hq => k q ns _ upd_same (by omega) hbd (S'.trans (Same.lay hq))⟩⟩
end
end My

namespace My
open PySem L2
/-! ### the mathematics: sums ahead, stretches -/
def psum (ns : List Int) (k : Nat) : Int := (ns.take k).sum
def psums (ns : List Int) (i : Nat) : List Int := (List.range (i + 1)).map (psum ns)
theorem psum_succ {ns : List Int} {i : Nat} {n : Int} (h : ns[i]? = some n) : psum ns (i + 1) = psum ns i + n := by
  unfold psum
  rw [List.take_add_one, h, List.sum_append]
  simp
theorem psums_last (ns : List Int) (i : Nat) : psums ns i = (List.range i).map (psum ns) ++ [psum ns i] := by
  unfold psums
  rw [List.range_succ, List.map_append]; rfl
theorem psums_succ (ns : List Int) (i : Nat) : psums ns (i + 1) = psums ns i ++ [psum ns (i + 1)] := by
  rw [psums_last ns (i + 1)]; rfl
theorem psums_len (ns : List Int) (i : Nat) : (psums ns i).length = i + 1 := by unfold psums; simp
theorem psums_get (ns : List Int) (n k : Nat) (h : k ≤ n) : (psums ns n)[k]? = some (psum ns k) := by
  unfold psums
  rw [List.getElem?_map, List.getElem?_range (by omega)]; rfl
/-- the stretches from the place lo on, j of them -/
def from1 (lo j : Nat) : List (Nat × Nat) := (List.range j).map fun t => (lo, lo + 1 + t)
theorem from1_succ (lo j : Nat) : from1 lo (j + 1) = from1 lo j ++ [(lo, lo + 1 + j)] := by
  unfold from1
  rw [List.range_succ, List.map_append]; rfl
/-- the stretches of a row of n numbers that begin ahead of the place i -/
def prsTo (n i : Nat) : List (Nat × Nat) := (List.range i).flatMap fun lo => from1 lo (n - lo)
def prs (n : Nat) : List (Nat × Nat) := prsTo n n
theorem prsTo_succ (n i : Nat) : prsTo n (i + 1) = prsTo n i ++ from1 i (n - i) := by
  unfold prsTo
  rw [List.range_succ, List.flatMap_append]; simp
theorem prs_mem {n lo hi : Nat} (h : (lo, hi) ∈ prs n) : lo < hi ∧ hi ≤ n := by
  unfold prs prsTo at h
  obtain ⟨l, h1, h2⟩ := List.mem_flatMap.mp h
  unfold from1 at h2
  obtain ⟨t, h3, h4⟩ := List.mem_map.mp h2
  have e1 : l = lo := congrArg Prod.fst h4
  have e2 : l + 1 + t = hi := congrArg Prod.snd h4
  have := List.mem_range.mp h1
  have := List.mem_range.mp h3
  omega
theorem filter_take_succ {α : Type} (f : α → Bool) {l : List α} {i : Nat} {x : α} (h : l[i]? = some x) : (l.take (i + 1)).filter f = (l.take i).filter f ++ (if f x then [x] else []) := by
  rw [List.take_add_one, h, List.filter_append]
  cases hx : f x <;> simp [hx]
/-! ### lists of pairs, of triples, on the heap -/
/-- a list whose items are tuples: of each the values by g -/
def TupsAt {α : Type} (g : α → List V) (H : Hp) (xs : List V) (ps : List α) : Prop := xs.length = ps.length ∧ ∀ (i : Nat) (p : α), ps[i]? = some p → ∃ a, xs[i]? = some (.ref a) ∧ H a = some (.tup (g p))
theorem TupsAt.nil {α : Type} {g : α → List V} {H : Hp} : TupsAt g H [] [] := ⟨rfl, fun i p h => by simp at h⟩
theorem TupsAt.mono {α : Type} {g : α → List V} {H H' : Hp} {xs : List V} {ps : List α} (h : TupsAt g H xs ps) (k : ∀ a zs, H a = some (.tup zs) → H' a = some (.tup zs)) : TupsAt g H' xs ps :=
  ⟨h.1, fun i p e => let ⟨a, h1, h2⟩ := h.2 i p e; ⟨a, h1, k a _ h2⟩⟩
theorem TupsAt.snoc {α : Type} {g : α → List V} {H : Hp} {xs : List V} {ps : List α} {a : Addr} {p : α} (h : TupsAt g H xs ps) (ha : H a = some (.tup (g p))) : TupsAt g H (xs ++ [.ref a]) (ps ++ [p]) := by
  refine ⟨by rw [List.length_append, List.length_append, h.1]; rfl, fun i q e => ?_⟩
  by_cases hi : i < ps.length
  · rw [List.getElem?_append_left hi] at e
    obtain ⟨b, h1, h2⟩ := h.2 i q e
    exact ⟨b, by rw [List.getElem?_append_left (by rw [h.1]; exact hi)]; exact h1, h2⟩
  · have hl : i < (ps ++ [p]).length := (List.getElem?_eq_some_iff.mp e).1
    rw [List.length_append] at hl
    have hi2 : i = ps.length := by simp only [List.length_cons, List.length_nil] at hl; omega
    subst hi2
    rw [List.getElem?_append_right (Nat.le_refl _)] at e
    simp only [Nat.sub_self, List.getElem?_cons_zero, Option.some.injEq] at e
    subst e
    refine ⟨a, ?_, ha⟩
    rw [← h.1, List.getElem?_append_right (Nat.le_refl _)]; simp
def g2 (p : Nat × Nat) : List V := [.int p.1, .int p.2]
def g3 (ns : List Int) (p : Nat × Nat) : List V := [.int p.1, .int p.2, .int (psum ns p.2 - psum ns p.1)]
theorem upd_tup {H : Hp} {l : Addr} {xs : List V} {o : HO} (h : H l = some (.lst xs)) : ∀ a zs, H a = some (.tup zs) → upd H l o a = some (.tup zs) := fun a zs e => by rw [upd_ne (ne_of e h (by intro z; cases z))]; exact e
theorem same_tup {H H' : Hp} (s : Same H H') : ∀ a zs, H a = some (.tup zs) → H' a = some (.tup zs) := fun a zs e => s _ _ e
/-- a row of ints -/
def RowAt (H : Hp) (p : Addr) (ns : List Int) : Prop := H p = some (.tup (ns.map V.int)) ∧ ns.length ≤ 1000
def spSums : Sp := fun vs H Q _ => ∃ p ns, vs = [.ref p] ∧ RowAt H p ns ∧ ∀ q H', H' q = some (.tup ((psums ns ns.length).map V.int)) → Same H H' → Q (.ref q) H'
section
variable {P : Program} {w : World} {K : PySem.W.Frag} {mg : Str → Option Value} {base : Heap}
abbrev s_sums_ahead : Stmt := top 5
theorem sc_sums_ahead : FnScope ["row", "ahead", "number"] ["row"] (defScope s_sums_ahead) := ⟨rfl, rfl, rfl, by decide +kernel, rfl, by decide +kernel, by decide +kernel⟩
theorem ok_sums_ahead {f : Addr} {fd : FuncData} (F : Fun K "sums_ahead" "sums_ahead" s_sums_ahead f fd) (T : Txt mg) : FnOk P w K mg base CX0 1 f fd ["row"] spSums := by
  refine F.ok sc_sums_ahead (fun vs H Q E h => ?_) (fun cdv A outer s H vs Q E hr h => ?_)
  · obtain ⟨p, ns, rfl, _⟩ := h
    rfl
  · obtain ⟨p, ns, rfl, ⟨hp, hl⟩, k⟩ := h
    refine ⟨_, (pss_cons (ps_set (i := 1) sc_sums_ahead.nd rfl (Or.inl rfl) (pe_lst (pa_cons pe_int pa_nil)))
      (pss_cons (ps_for PassesOwn.never rfl (piT (K := K) rfl (pv 0)) (pg_name (i := 2) sc_sums_ahead.nd rfl (Or.inl rfl))
        (pss_one (ps_expr (pe_bm PySem.F.plainAttrs_list PySem.F.slot_list_append PySem.F.type_list_append mt_append (pv 1) (pa_cons (pe_op op_add (pe_ix (ixL (K := K) rfl) (pv 1) (pe_un un_neg pe_int) (fun _ _ => rfl)) (pv 2)) pa_nil)))))
      (pss_one (ps_ret (pe_callTy (cTuple (K := K) rfl) (by rfl) T.b_tuple PyProof.Rows.Boot.«tuple» (pa_cons (pv 1) pa_nil)))))), ?_⟩
    refine ⟨by show 1 ≤ sizeLine; decide, fun l hl1 => ?_⟩
    have S1 : Same H (upd H l (.lst [.int 0])) := Same.lay hl1
    refine ⟨_, rfl, p, rfl, ⟨_, SqT.of (S1 _ _ hp)⟩, for_tup (xs := ns.map V.int) (fun i σ H' => ∃ v2 : Option V, σ = [some (.ref p), some (.ref l), v2] ∧ Same H H' ∧ H' l = some (.lst ((psums ns i).map V.int))) ?_ ?_ ?_ ?_⟩
    · exact ⟨none, rfl, S1, upd_same⟩
    · rintro i σ H' _ ⟨v2, rfl, S', _⟩
      exact SqT.of (S' _ _ hp)
    · rintro i x σ H' hx ⟨v2, rfl, S', ha⟩
      obtain ⟨n, hn, rfl⟩ : ∃ n, ns[i]? = some n ∧ V.int n = x := by rw [List.getElem?_map] at hx; exact Option.map_eq_some_iff.mp hx
      have hi : i < ns.length := (List.getElem?_eq_some_iff.mp hn).1
      have ha' : H' l = some (.lst (((List.range i).map (psum ns)).map V.int ++ [.int (psum ns i)])) := by rw [ha, psums_last, List.map_append]; rfl
      refine ⟨_, rfl, .inl ⟨rfl, _, SqL.of ha⟩, _, rfl, 1, rfl, l, _, _, _, rfl, rfl, SqL.of ha', atI_last _ _, _, rfl, _, _, rfl, rfl, l, _, _, rfl, rfl, ha, size_lt (by rw [List.length_map, psums_len]; omega), ?_⟩
      refine ⟨_, rfl, fun b o e => by rw [upd_ne (ne_of_none e hl1)]; exact S' b o e, ?_⟩
      rw [upd_same, psums_succ, List.map_append, psum_succ hn]; rfl
    · rintro σ H' ⟨v2, rfl, S', ha⟩
      rw [List.length_map] at ha
      exact ⟨_, rfl, l, _, rfl, .inl ⟨SqL.of ha, fun q hq => k q _ upd_same (S'.trans (Same.lay hq))⟩⟩
def spStr : Sp := fun vs H Q _ => ∃ p ns, vs = [.ref p] ∧ RowAt H p ns ∧ ∀ q xs H', H' q = some (.lst xs) → TupsAt g2 H' xs (prs ns.length) → Same H H' → Q (.ref q) H'
abbrev s_stretches_of : Stmt := top 6
theorem sc_stretches_of : FnScope ["row", "many"] ["row"] (defScope s_stretches_of) := ⟨rfl, rfl, rfl, by decide +kernel, rfl, by decide +kernel, by decide +kernel⟩
theorem ok_stretches_of {f : Addr} {fd : FuncData} (F : Fun K "stretches_of" "stretches_of" s_stretches_of f fd) (T : Txt mg) : FnOk P w K mg base CX0 1 f fd ["row"] spStr := by
  refine F.ok sc_stretches_of (fun vs H Q E h => ?_) (fun cdv A outer s H vs Q E hr h => ?_)
  · obtain ⟨p, ns, rfl, _⟩ := h
    rfl
  · obtain ⟨p, ns, rfl, ⟨hp, hl⟩, k⟩ := h
    refine ⟨_, (pss_cons (ps_set (i := 1) sc_stretches_of.nd rfl (Or.inr rfl) (pe_callB (cLen (K := K) rfl) (by rfl) T.b_len PyProof.Rows.Boot.«len» (pa_cons (pv 0) pa_nil)))
      (pss_one (ps_ret (pe_comp (N := ["low", "high", "many"]) (cap := [none, none, some 1]) rfl (show blkOk ["row", "many"] (defScope s_stretches_of) ["low", "high", "many"] [none, none, some 1] _ = true by decide +kernel) (pi_range1 (by rfl) T.b_range (pa_cons (pv 1) pa_nil)) (fun cl C s3 H3 fp => ⟨(pg_name (i := 0) (show (["low", "high", "many"] : List Str).Nodup by decide +kernel) rfl (Or.inl rfl)), pts_nil, fun it acc => (paf_for rfl rfl rfl (pi_range2 (by rfl) T.b_range (pa_cons (pe_op op_add (pv 0) pe_int) (pa_cons (pe_op op_add (pv 2) pe_int) pa_nil))) (pg_name (i := 1) (show (["low", "high", "many"] : List Str).Nodup by decide +kernel) rfl (Or.inl rfl)) pts_nil (fun it1 => (paf_emit rfl (pe_tup (pa_cons (pv 0) (pa_cons (pv 1) pa_nil))))))⟩))))), ?_⟩
    refine ⟨_, rfl, p, _, rfl, .inr (SqT.of hp), ?_⟩
    have hlm : (ns.map V.int).length = ns.length := List.length_map _
    refine ⟨_, rfl, _, rfl, by omega, by omega, fun acc hacc => ?_⟩
    refine walk_range (fun i σ H' => ∃ (v1 v2 : Option V) (xs : List V), σ = [v1, v2, some (.int ((ns.map V.int).length : Int))] ∧ H' acc = some (.lst xs) ∧ TupsAt g2 H' xs (prsTo ns.length i) ∧ xs.length ≤ i * 1000 ∧ Same H H') ?_ ?_ ?_
    · exact ⟨none, none, [], rfl, upd_same, TupsAt.nil, by simp, Same.lay hacc⟩
    · rintro i σ H' hi ⟨v1, v2, xs, rfl, ha, ht, hx, S'⟩
      have hi' : i < ns.length := by omega
      refine ⟨_, rfl, _, _, rfl, rfl, _, rfl, _, _, rfl, rfl, _, _, rfl, ⟨by omega, by omega, by omega, by omega⟩, ?_⟩
      have ej : ((((ns.map V.int).length : Int) + 1) - (0 + (i : Int) + 1)).toNat = ns.length - i := by omega
      rw [ej]
      refine walk_range (fun j σ H' => ∃ (v2 : Option V) (xs : List V), σ = [some (.int (0 + (i : Int))), v2, some (.int ((ns.map V.int).length : Int))] ∧ H' acc = some (.lst xs) ∧ TupsAt g2 H' xs (prsTo ns.length i ++ from1 i j) ∧ xs.length ≤ i * 1000 + j ∧ Same H H') ?_ ?_ ?_
      · exact ⟨v2, xs, rfl, ha, by simpa [from1] using ht, by omega, S'⟩
      · rintro j σ H2 hj ⟨v2, xs, rfl, ha, ht, hx, S'⟩
        refine ⟨_, rfl, _, rfl, by show 2 ≤ sizeLine; decide, fun a hna => ⟨xs, (upd_ne (ne_of_none ha hna)).trans ha, size_lt (by omega), _, _, rfl, upd_same, ?_, by rw [List.length_append]; simp only [List.length_cons, List.length_nil]; omega, ?_⟩⟩
        · have e1 : (0 : Int) + (i : Int) = ((i : Nat) : Int) := by omega
          have e2 : (0 : Int) + (i : Int) + 1 + (j : Int) = ((i + 1 + j : Nat) : Int) := by omega
          rw [from1_succ, ← List.append_assoc]
          refine TupsAt.snoc (ht.mono fun b zs e => ?_) ?_
          · rw [upd_ne (ne_of e ha (by intro z; cases z)), upd_ne (ne_of_none e hna)]; exact e
          · rw [upd_ne (Ne.symm (ne_of_none ha hna)), upd_same, e2, e1]; rfl
        · exact fun b o e => by rw [upd_ne (ne_of_none e hacc), upd_ne (ne_of_none (S' b o e) hna)]; exact S' b o e
      · rintro σ H2 ⟨v2, xs, rfl, ha, ht, hx, S'⟩
        exact ⟨_, _, xs, rfl, ha, by rw [prsTo_succ]; exact ht, by omega, S'⟩
    · rintro σ H' ⟨v1, v2, xs, rfl, ha, ht, hx, S'⟩
      have e : (((ns.map V.int).length : Int)).toNat = ns.length := by omega
      rw [e] at ht
      exact k acc xs H' ha ht S'
theorem prsTo_len (n : Nat) (hn : n ≤ 1000) : ∀ i, i ≤ n → (prsTo n i).length ≤ i * 1000
  | 0, _ => by simp [prsTo]
  | i + 1, h => by
    have ih := prsTo_len n hn i (by omega)
    rw [prsTo_succ, List.length_append]
    have : (from1 i (n - i)).length = n - i := by unfold from1; simp
    omega
theorem prs_len (n : Nat) (hn : n ≤ 1000) : (prs n).length ≤ 1000000 := by
  have := prsTo_len n hn n (Nat.le_refl _)
  unfold prs
  omega
end
end My

namespace My
open PySem L2
/-- a list of pairs: a sum, and a stretch, a tuple of its own -/
def SumsAt (ns : List Int) (H : Hp) (xs : List V) (ps : List (Nat × Nat)) : Prop := xs.length = ps.length ∧ ∀ (i : Nat) (p : Nat × Nat), ps[i]? = some p → ∃ a b, xs[i]? = some (.ref a) ∧ H a = some (.tup [.int (psum ns p.2 - psum ns p.1), .ref b]) ∧ H b = some (.tup (g2 p))
theorem SumsAt.nil {ns : List Int} {H : Hp} : SumsAt ns H [] [] := ⟨rfl, fun i p h => by simp at h⟩
theorem SumsAt.mono {ns : List Int} {H H' : Hp} {xs : List V} {ps : List (Nat × Nat)} (h : SumsAt ns H xs ps) (k : ∀ a zs, H a = some (.tup zs) → H' a = some (.tup zs)) : SumsAt ns H' xs ps :=
  ⟨h.1, fun i p e => let ⟨a, b, h1, h2, h3⟩ := h.2 i p e; ⟨a, b, h1, k a _ h2, k b _ h3⟩⟩
theorem SumsAt.snoc {ns : List Int} {H : Hp} {xs : List V} {ps : List (Nat × Nat)} {a b : Addr} {p : Nat × Nat} (h : SumsAt ns H xs ps) (ha : H a = some (.tup [.int (psum ns p.2 - psum ns p.1), .ref b])) (hb : H b = some (.tup (g2 p))) : SumsAt ns H (xs ++ [.ref a]) (ps ++ [p]) := by
  refine ⟨by rw [List.length_append, List.length_append, h.1]; rfl, fun i q e => ?_⟩
  by_cases hi : i < ps.length
  · rw [List.getElem?_append_left hi] at e
    obtain ⟨c, c2, h1, h2, h3⟩ := h.2 i q e
    exact ⟨c, c2, by rw [List.getElem?_append_left (by rw [h.1]; exact hi)]; exact h1, h2, h3⟩
  · have hl : i < (ps ++ [p]).length := (List.getElem?_eq_some_iff.mp e).1
    rw [List.length_append] at hl
    have hi2 : i = ps.length := by simp only [List.length_cons, List.length_nil] at hl; omega
    subst hi2
    rw [List.getElem?_append_right (Nat.le_refl _)] at e
    simp only [Nat.sub_self, List.getElem?_cons_zero, Option.some.injEq] at e
    subst e
    refine ⟨a, b, ?_, ha, hb⟩
    rw [← h.1, List.getElem?_append_right (Nat.le_refl _)]; simp
/-- the stretches whose sum a test lets through -/
def hb (ns : List Int) (t : Int → Bool) (p : Nat × Nat) : Bool := t (psum ns p.2 - psum ns p.1)
def hitsBy (ns : List Int) (t : Int → Bool) : List (Nat × Nat) := (prs ns.length).filter (hb ns t)
theorem take_succ {α : Type} {l : List α} {i : Nat} {x : α} (h : l[i]? = some x) : l.take (i + 1) = l.take i ++ [x] := by
  rw [List.take_add_one, h]; rfl
def spSummed : Sp := fun vs H Q _ => ∃ p ns, vs = [.ref p] ∧ RowAt H p ns ∧ ∀ q xs H', H q = none → H' q = some (.lst xs) → SumsAt ns H' xs (prs ns.length) → Same H H' → Q (.ref q) H'
section
variable {P : Program} {w : World} {K : PySem.W.Frag} {mg : Str → Option Value} {base : Heap}
abbrev s_summed_stretches : Stmt := top 7
theorem sc_summed_stretches : FnScope ["row", "ahead"] ["row"] (defScope s_summed_stretches) := ⟨rfl, rfl, rfl, by decide +kernel, rfl, by decide +kernel, by decide +kernel⟩
theorem ok_summed_stretches {f fa fs : Addr} {fd fda fds : FuncData} (F : Fun K "summed_stretches" "summed_stretches" s_summed_stretches f fd) (T : Txt mg) (D_sums_ahead : DefAt K mg "sums_ahead" s_sums_ahead ["row"] fa fda) (D_stretches_of : DefAt K mg "stretches_of" s_stretches_of ["row"] fs fds) :
    FnOk P w K mg base CX0 2 f fd ["row"] spSummed := by
  have G_sums_ahead : FnOk P w K mg base CX0 1 fa fda ["row"] spSums := ok_sums_ahead D_sums_ahead.fn T
  have G_stretches_of : FnOk P w K mg base CX0 1 fs fds ["row"] spStr := ok_stretches_of D_stretches_of.fn T
  refine F.ok sc_summed_stretches (fun vs H Q E h => ?_) (fun cdv A outer s H vs Q E hr h => ?_)
  · obtain ⟨p, ns, rfl, _⟩ := h
    rfl
  · obtain ⟨p, ns, rfl, ⟨hp, hl⟩, k⟩ := h
    refine ⟨_, (pss_cons (ps_set (i := 1) sc_summed_stretches.nd rfl (Or.inr rfl) (pe_call G_sums_ahead (hr.mono (by first | decide | exact Nat.le_refl _)) rfl D_sums_ahead.mg D_sums_ahead.fn.kp D_sums_ahead.bd .nil pass0 (pa_cons (pv 0) pa_nil)))
      (pss_one (ps_ret (pe_comp (N := ["low", "high", "ahead"]) (cap := [none, none, some 1]) rfl (show blkOk ["row", "ahead"] (defScope s_summed_stretches) ["low", "high", "ahead"] [none, none, some 1] _ = true by decide +kernel) (piL (K := K) rfl (pe_call G_stretches_of (hr.mono (by first | decide | exact Nat.le_refl _)) rfl D_stretches_of.mg D_stretches_of.fn.kp D_stretches_of.bd .nil pass0 (pa_cons (pv 0) pa_nil))) (fun cl C s3 H3 fp => ⟨(pgT (K := K) (n := 2) rfl rfl (pgs_cons (pg_name (i := 0) (show (["low", "high", "ahead"] : List Str).Nodup by decide +kernel) rfl (Or.inl rfl)) (pgs_cons (pg_name (i := 1) (show (["low", "high", "ahead"] : List Str).Nodup by decide +kernel) rfl (Or.inl rfl)) pgs_nil))), pts_nil, fun it acc => (paf_emit rfl (pe_tup (pa_cons (pe_op op_sub (pe_ix (ixT (K := K) rfl) (pv 2) (pv 1) (fun _ _ => rfl)) (pe_ix (ixT (K := K) rfl) (pv 2) (pv 0) (fun _ _ => rfl))) (pa_cons (pe_tup (pa_cons (pv 0) (pa_cons (pv 1) pa_nil))) pa_nil))))⟩))))), ?_⟩
    refine ⟨_, rfl, p, ns, rfl, ⟨hp, hl⟩, fun q1 H1 hq1 S1 => ?_⟩
    refine ⟨_, rfl, p, ns, rfl, ⟨S1 _ _ hp, hl⟩, fun q2 ys H2 hq2 ht2 S2 => ⟨q2, rfl, ⟨_, SqL.of hq2⟩, fun acc hacc => ?_⟩⟩
    have hq1' := S2 _ _ hq1
    have plen := prs_len ns.length hl
    refine walk_list (xs := ys) (fun i σ H' => ∃ (v1 v2 : Option V) (xs : List V), σ = [v1, v2, some (.ref q1)] ∧ H' acc = some (.lst xs) ∧ SumsAt ns H' xs ((prs ns.length).take i) ∧ Same H2 H') ?_ ?_ ?_ ?_
    · exact ⟨none, none, [], rfl, upd_same, SumsAt.nil, Same.lay hacc⟩
    · rintro i σ H' _ ⟨v1, v2, xs, rfl, ha, ht, S'⟩
      exact SqL.of (S' _ _ hq2)
    · rintro i y σ H' hy ⟨v1, v2, xs, rfl, ha, ht, S'⟩
      have hi : i < (prs ns.length).length := by rw [← ht2.1]; exact (List.getElem?_eq_some_iff.mp hy).1
      obtain ⟨a, e1, e2⟩ := ht2.2 i _ (List.getElem?_eq_getElem hi)
      rw [hy] at e1
      have e1 : y = .ref a := Option.some.inj e1
      subst e1
      obtain ⟨⟨lo, hi'⟩, hpr⟩ : ∃ pr, (prs ns.length)[i] = pr := ⟨_, rfl⟩
      have hg : (prs ns.length)[i]? = some (lo, hi') := by rw [List.getElem?_eq_getElem hi, hpr]
      rw [hpr] at e2
      obtain ⟨m1, m2⟩ := prs_mem (List.mem_of_getElem? hg)
      have xlen : xs.length ≤ 1000000 := by
        rw [ht.1, List.length_take]; omega
      refine ⟨a, _, rfl, SqT.of (S' _ _ e2), rfl, _, _, rfl, _, _, rfl, rfl, ?_⟩
      refine ⟨_, rfl, _, rfl, q1, _, _, _, rfl, rfl, SqT.of (S' _ _ hq1'), atI_nat (by rw [List.getElem?_map, psums_get ns _ _ m2]; rfl), _, rfl, _, rfl, q1, _, _, _, rfl, rfl, SqT.of (S' _ _ hq1'), atI_nat (by rw [List.getElem?_map, psums_get ns _ _ (by omega)]; rfl), _, _, rfl, rfl, ?_⟩
      refine ⟨_, rfl, _, rfl, by show 2 ≤ sizeLine; decide, fun b hb => ?_⟩
      refine ⟨by show 2 ≤ sizeLine; decide, fun c hc => ?_⟩
      have ha1 := (upd_ne (o := HO.tup [V.int lo, V.int hi']) (ne_of_none ha hb)).trans ha
      have ha2 := (upd_ne (o := HO.tup [V.int (psum ns hi' - psum ns lo), V.ref b]) (ne_of_none ha1 hc)).trans ha1
      refine ⟨xs, ha2, size_lt xlen, _, _, _, rfl, upd_same, ?_, ?_⟩
      · rw [take_succ hg]
        have hbc : b ≠ c := fun e => by subst e; rw [upd_same] at hc; cases hc
        refine SumsAt.snoc (b := b) (ht.mono fun d zs e => ?_) ?_ ?_
        · rw [upd_ne (ne_of e ha (by intro z; cases z)), upd_ne (ne_of_none ((upd_ne (ne_of_none e hb)).trans e) hc), upd_ne (ne_of_none e hb)]; exact e
        · rw [upd_ne (Ne.symm (ne_of_none ha1 hc)), upd_same]
        · rw [upd_ne (Ne.symm (ne_of_none ha hb)), upd_ne hbc, upd_same]; rfl
      · exact fun d o e => by
          have e' := (upd_ne (o := HO.tup [V.int lo, V.int hi']) (ne_of_none (S' d o e) hb)).trans (S' d o e)
          rw [upd_ne (ne_of_none e hacc), upd_ne (ne_of_none e' hc)]; exact e'
    · rintro σ H' ⟨v1, v2, xs, rfl, ha, ht, S'⟩
      rw [ht2.1, List.take_length] at ht
      exact k acc xs H' ((S1.trans S2).free hacc) ha ht (S1.trans (S2.trans S'))
end
end My

namespace My
open PySem L2
section
variable {P : Program} {w : World} {K : PySem.W.Frag} {mg : Str → Option Value} {base : Heap}
def spAll : Sp := fun vs H Q _ => ∃ (p : Addr) (ns : List Int) (tot : Int), vs = [.ref p, .int tot] ∧ RowAt H p ns ∧ ∀ q xs H', H q = none → H' q = some (.lst xs) → TupsAt g2 H' xs (hitsBy ns (fun s => decide (s = tot))) → Same H H' → Q (.ref q) H'
abbrev s_all_with : Stmt := top 10
theorem sc_all_with : FnScope ["row", "total"] ["row", "total"] (defScope s_all_with) := ⟨rfl, rfl, rfl, by decide +kernel, rfl, by decide +kernel, by decide +kernel⟩
theorem ok_all_with {f fz : Addr} {fd fdz : FuncData} (F : Fun K "all_with" "all_with" s_all_with f fd) (T : Txt mg) (D_summed_stretches : DefAt K mg "summed_stretches" s_summed_stretches ["row"] fz fdz) (G_summed_stretches : FnOk P w K mg base CX0 2 fz fdz ["row"] spSummed) :
    FnOk P w K mg base CX0 3 f fd ["row", "total"] spAll := by
  refine F.ok sc_all_with (fun vs H Q E h => ?_) (fun cdv A outer s H vs Q E hr h => ?_)
  · obtain ⟨p, ns, tot, rfl, _⟩ := h
    rfl
  · obtain ⟨p, ns, tot, rfl, ⟨hp, hl⟩, k⟩ := h
    refine ⟨_, (pss_one (ps_ret (pe_comp (N := ["own", "stretch", "total"]) (cap := [none, none, some 1]) rfl (show blkOk ["row", "total"] (defScope s_all_with) ["own", "stretch", "total"] [none, none, some 1] _ = true by decide +kernel) (piL (K := K) rfl (pe_call G_summed_stretches (hr.mono (by first | decide | exact Nat.le_refl _)) rfl D_summed_stretches.mg D_summed_stretches.fn.kp D_summed_stretches.bd .nil pass0 (pa_cons (pv 0) pa_nil))) (fun cl C s3 H3 fp => ⟨(pgT (K := K) (n := 2) rfl rfl (pgs_cons (pg_name (i := 0) (show (["own", "stretch", "total"] : List Str).Nodup by decide +kernel) rfl (Or.inl rfl)) (pgs_cons (pg_name (i := 1) (show (["own", "stretch", "total"] : List Str).Nodup by decide +kernel) rfl (Or.inl rfl)) pgs_nil))), (pts_one (pt_cmpR op_eq (pv 0) (pv 2) (nomark _))), fun it acc => (paf_emit rfl (pv 1))⟩)))), ?_⟩
    refine ⟨_, rfl, p, ns, rfl, ⟨hp, hl⟩, fun q2 ys H2 _ hq2 ht2 S2 => ⟨q2, rfl, ⟨_, SqL.of hq2⟩, fun acc hacc => ?_⟩⟩
    have plen := prs_len ns.length hl
    refine walk_list (xs := ys) (fun i σ H' => ∃ (v1 v2 : Option V) (xs : List V), σ = [v1, v2, some (.int tot)] ∧ H' acc = some (.lst xs) ∧ TupsAt g2 H' xs (((prs ns.length).take i).filter (hb ns (fun s => decide (s = tot)))) ∧ Same H2 H') ?_ ?_ ?_ ?_
    · exact ⟨none, none, [], rfl, upd_same, by simpa using TupsAt.nil, Same.lay hacc⟩
    · rintro i σ H' _ ⟨v1, v2, xs, rfl, ha, ht, S'⟩
      exact SqL.of (S' _ _ hq2)
    · rintro i y σ H' hy ⟨v1, v2, xs, rfl, ha, ht, S'⟩
      have hi : i < (prs ns.length).length := by rw [← ht2.1]; exact (List.getElem?_eq_some_iff.mp hy).1
      obtain ⟨a, b, e1, e2, e3⟩ := ht2.2 i _ (List.getElem?_eq_getElem hi)
      rw [hy] at e1
      have e1 : y = .ref a := Option.some.inj e1
      subst e1
      have hg : (prs ns.length)[i]? = some (prs ns.length)[i] := List.getElem?_eq_getElem hi
      generalize (prs ns.length)[i] = pr at e2 e3 hg
      have xlen : xs.length ≤ 1000000 := by
        rw [ht.1]
        exact Nat.le_trans (List.length_filter_le _ _) (by rw [List.length_take]; omega)
      have yes : hb ns (fun s => decide (s = tot)) pr = true → ∀ v1 v2 : Option V, ∃ (v1' v2' : Option V) (xs' : List V), [v1, v2, some (.int tot)] = [v1', v2', some (.int tot)] ∧ upd H' acc (.lst (xs ++ [.ref b])) acc = some (.lst xs') ∧ TupsAt g2 (upd H' acc (.lst (xs ++ [.ref b]))) xs' (((prs ns.length).take (i + 1)).filter (hb ns (fun s => decide (s = tot)))) ∧ Same H2 (upd H' acc (.lst (xs ++ [.ref b]))) := fun hh v1 v2 => by
        refine ⟨v1, v2, _, rfl, upd_same, ?_, fun c o e => by rw [upd_ne (ne_of_none e hacc)]; exact S' c o e⟩
        rw [filter_take_succ _ hg, hh]
        exact TupsAt.snoc (ht.mono fun c zs e => by rw [upd_ne (ne_of e ha (by intro z; cases z))]; exact e) (by rw [upd_ne (ne_of (S' _ _ e3) ha (by intro z; cases z))]; exact S' _ _ e3)
      have no : hb ns (fun s => decide (s = tot)) pr = false → ∀ v1 v2 : Option V, ∃ (v1' v2' : Option V) (xs' : List V), [v1, v2, some (.int tot)] = [v1', v2', some (.int tot)] ∧ H' acc = some (.lst xs') ∧ TupsAt g2 H' xs' (((prs ns.length).take (i + 1)).filter (hb ns (fun s => decide (s = tot)))) ∧ Same H2 H' := fun hh v1 v2 => by
        refine ⟨v1, v2, xs, rfl, ha, ?_, S'⟩
        rw [filter_take_succ _ hg, hh]
        simpa using ht
      refine ⟨a, _, rfl, SqT.of (S' _ _ e2), rfl, _, _, rfl, _, _, rfl, rfl, ?_⟩
      refine ⟨_, rfl, _, rfl, rfl, _, rfl, ite2 (fun e => ?_) (fun e => ?_)⟩
      · refine ⟨_, rfl, xs, ha, size_lt xlen, yes ?_ _ _⟩
        rw [decide_eq_true_eq] at e
        injection e with e
        exact decide_eq_true e
      · refine no ?_ _ _
        exact decide_eq_false fun z => e (decide_eq_true (congrArg V.int z))
    · rintro σ H' ⟨v1, v2, xs, rfl, ha, ht, S'⟩
      rw [ht2.1, List.take_length] at ht
      exact k acc xs H' (S2.free hacc) ha ht (S2.trans S')
end
end My

namespace My
open PySem L2
section
variable {P : Program} {w : World} {K : PySem.W.Frag} {mg : Str → Option Value} {base : Heap}
def spCount : Sp := fun vs H Q _ => ∃ (p : Addr) (ns : List Int) (tot : Int), vs = [.ref p, .int tot] ∧ RowAt H p ns ∧ ∀ H', Same H H' → Q (.int ((hitsBy ns (fun s => decide (s = tot))).length : Int)) H'
abbrev s_count_with : Stmt := top 11
theorem sc_count_with : FnScope ["row", "total"] ["row", "total"] (defScope s_count_with) := ⟨rfl, rfl, rfl, by decide +kernel, rfl, by decide +kernel, by decide +kernel⟩
theorem ok_count_with {f fa : Addr} {fd fda : FuncData} (F : Fun K "count_with" "count_with" s_count_with f fd) (T : Txt mg) (D_all_with : DefAt K mg "all_with" s_all_with ["row", "total"] fa fda) (G_all_with : FnOk P w K mg base CX0 3 fa fda ["row", "total"] spAll) :
    FnOk P w K mg base CX0 4 f fd ["row", "total"] spCount := by
  refine F.ok sc_count_with (fun vs H Q E h => ?_) (fun cdv A outer s H vs Q E hr h => ?_)
  · obtain ⟨p, ns, tot, rfl, _⟩ := h
    rfl
  · obtain ⟨p, ns, tot, rfl, hR, k⟩ := h
    refine ⟨_, (pss_one (ps_ret (pe_callB (cLen (K := K) rfl) (by rfl) T.b_len PyProof.Rows.Boot.«len» (pa_cons (pe_call G_all_with (hr.mono (by first | decide | exact Nat.le_refl _)) rfl D_all_with.mg D_all_with.fn.kp D_all_with.bd .nil pass0 (pa_cons (pv 0) (pa_cons (pv 1) pa_nil))) pa_nil)))), ?_⟩
    refine ⟨_, rfl, _, rfl, p, ns, tot, rfl, hR, fun q xs H1 _ hq ht S1 => ⟨q, xs, rfl, .inl (SqL.of hq), ?_⟩⟩
    rw [ht.1]
    exact k H1 S1
end
end My

namespace My
open PySem L2
/-! ### the best by a number, the least as a pair -/
theorem pick_first {bt : Nat → Nat → Bool} : ∀ n, 0 < n → (∀ i, i < n → bt i 0 = false) → pick bt n = some 0
  | 0, h, _ => absurd h (Nat.lt_irrefl _)
  | 1, _, _ => rfl
  | n + 2, _, hb => by
    have ih := pick_first (n + 1) (Nat.succ_pos _) fun i hi => hb i (by omega)
    show (match pick bt (n + 1) with | none => some (n + 1) | some j => if bt (n + 1) j then some (n + 1) else some j) = some 0
    rw [ih]
    simp only [hb (n + 1) (by omega), Bool.false_eq_true, if_false]
def pLt (a b : Nat × Nat) : Prop := a.1 < b.1 ∨ a.1 = b.1 ∧ a.2 < b.2
theorem from1_sorted (lo : Nat) : ∀ j, (from1 lo j).Pairwise pLt
  | 0 => by unfold from1; simp
  | j + 1 => by
    rw [from1_succ, List.pairwise_append]
    refine ⟨from1_sorted lo j, by simp, fun a ha b hb => ?_⟩
    unfold from1 at ha
    obtain ⟨t, ht, rfl⟩ := List.mem_map.mp ha
    have hb : b = (lo, lo + 1 + j) := by simpa using hb
    subst hb
    have := List.mem_range.mp ht
    exact .inr ⟨rfl, by show lo + 1 + t < lo + 1 + j; omega⟩
theorem prsTo_sorted (n : Nat) : ∀ i, (prsTo n i).Pairwise pLt ∧ ∀ p ∈ prsTo n i, p.1 < i
  | 0 => by unfold prsTo; simp
  | i + 1 => by
    obtain ⟨h1, h2⟩ := prsTo_sorted n i
    have h3 : ∀ p ∈ from1 i (n - i), p.1 = i := fun p hp => by
      unfold from1 at hp
      obtain ⟨t, _, rfl⟩ := List.mem_map.mp hp
      rfl
    rw [prsTo_succ]
    refine ⟨List.pairwise_append.mpr ⟨h1, from1_sorted _ _, fun a ha b hb => .inl (by rw [h3 b hb]; exact h2 a ha)⟩, fun p hp => ?_⟩
    rcases List.mem_append.mp hp with h | h
    · have := h2 p h; omega
    · rw [h3 p h]; exact Nat.lt_succ_self _
theorem hitsBy_sorted (ns : List Int) (t : Int → Bool) : (hitsBy ns t).Pairwise pLt := (prsTo_sorted _ _).1.filter _
def pI (p : Nat × Nat) : List Int := [(p.1 : Int), (p.2 : Int)]
theorem g2_pI (p : Nat × Nat) : g2 p = (pI p).map V.int := rfl
theorem lex_pI (p q : Nat × Nat) (h : p = q ∨ pLt p q) : HT.lexLt (pI q) (pI p) = false := by
  obtain ⟨p1, p2⟩ := p
  obtain ⟨q1, q2⟩ := q
  have h' : (p1 = q1 ∧ p2 = q2) ∨ p1 < q1 ∨ (p1 = q1 ∧ p2 < q2) := by
    rcases h with h | h | h
    · cases h; exact .inl ⟨rfl, rfl⟩
    · exact .inr (.inl h)
    · exact .inr (.inr h)
  show HT.lexLt [(q1 : Int), (q2 : Int)] [(p1 : Int), (p2 : Int)] = false
  rw [HT.lexLt_cons, HT.lexLt_cons, HT.lexLt_nil_nil]
  by_cases e1 : (q1 : Int) = (p1 : Int)
  · rw [if_pos e1]
    by_cases e2 : (q2 : Int) = (p2 : Int)
    · rw [if_pos e2]
    · rw [if_neg e2]; exact decide_eq_false (by omega)
  · rw [if_neg e1]; exact decide_eq_false (by omega)
/-- the first, by places -/
def firstOf (ps : List (Nat × Nat)) : Option (Nat × Nat) := ps[0]?
/-- a stretch or None -/
def OptAt (H : Hp) (v : V) (o : Option (Nat × Nat)) : Prop := match o with
  | none => v = .non
  | some p => ∃ a, v = .ref a ∧ H a = some (.tup (g2 p))
theorem OptAt.mono {H H' : Hp} {v : V} {o : Option (Nat × Nat)} (h : OptAt H v o) (s : Same H H') : OptAt H' v o := by
  cases o with
  | none => exact h
  | some p => obtain ⟨a, e1, e2⟩ := h; exact ⟨a, e1, s _ _ e2⟩
theorem TupsAt.opt {H : Hp} {xs : List V} {ps : List (Nat × Nat)} (h : TupsAt g2 H xs ps) {j : Nat} {x : V} (hx : xs[j]? = some x) : OptAt H x ps[j]? := by
  have hj : j < ps.length := by rw [← h.1]; exact (List.getElem?_eq_some_iff.mp hx).1
  obtain ⟨a, e1, e2⟩ := h.2 j _ (List.getElem?_eq_getElem hj)
  rw [hx] at e1; cases e1
  rw [List.getElem?_eq_getElem hj]
  exact ⟨a, rfl, e2⟩
def spPick (o : List (Nat × Nat) → Option (Nat × Nat)) : Sp := fun vs H Q _ => ∃ (l : Addr) (xs : List V) (ps : List (Nat × Nat)), vs = [.ref l] ∧ H l = some (.lst xs) ∧ TupsAt g2 H xs ps ∧ ps.Pairwise pLt ∧ ∀ v H', OptAt H' v (o ps) → Same H H' → Q v H'
section
variable {P : Program} {w : World} {K : PySem.W.Frag} {mg : Str → Option Value} {base : Heap}
abbrev s_first_of : Stmt := top 8
theorem sc_first_of : FnScope ["stretches"] ["stretches"] (defScope s_first_of) := ⟨rfl, rfl, rfl, by decide +kernel, rfl, by decide +kernel, by decide +kernel⟩
theorem ok_first_of {f : Addr} {fd : FuncData} (F : Fun K "first_of" "first_of" s_first_of f fd) (T : Txt mg) : FnOk P w K mg base CX0 2 f fd ["stretches"] (spPick firstOf) := by
  refine F.ok sc_first_of (fun vs H Q E h => ?_) (fun cdv A outer s H vs Q E hr h => ?_)
  · obtain ⟨l, xs, ps, rfl, _⟩ := h
    rfl
  · obtain ⟨l, xs, ps, rfl, hq, ht, hs, k⟩ := h
    have hu1 := (Room.in1 (k := 0) hr).units0
    refine ⟨_, (pss_one (ps_ret (pe_callBK (cMinD (K := K) rfl rfl hu1) (by rfl) T.b_min PyProof.Rows.Boot.«min» (pa_cons (pv 0) pa_nil) (pk_cons pe_non pk_nil)))), ?_⟩
    refine ⟨_, rfl, l, xs, fun i => pI (ps.getD i (0, 0)), rfl, rfl, SqL.of hq, fun i x hx => ?_, fun H2 S2 => ?_⟩
    · have hi : i < ps.length := by rw [← ht.1]; exact (List.getElem?_eq_some_iff.mp hx).1
      obtain ⟨a, e1, e2⟩ := ht.2 i _ (List.getElem?_eq_getElem hi)
      rw [hx] at e1; cases e1
      refine ⟨a, rfl, ?_⟩
      rw [e2, g2_pI]
      simp [List.getD, List.getElem?_eq_getElem hi]
    · by_cases h0 : 0 < xs.length
      · rw [pick_first xs.length h0 ?_]
        · intro x hx
          exact k x H2 ((ht.mono (same_tup S2)).opt hx) S2
        · intro i hi
          refine lex_pI _ _ ?_
          rw [ht.1] at hi h0
          simp only [List.getD, List.getElem?_eq_getElem hi, List.getElem?_eq_getElem h0, Option.getD_some]
          by_cases hi0 : i = 0
          · subst hi0; exact .inl rfl
          · exact .inr (List.pairwise_iff_getElem.mp hs 0 i h0 hi (by omega))
      · have e : xs.length = 0 := by omega
        have e2 : ps = [] := List.length_eq_zero_iff.mp (by rw [← ht.1]; exact e)
        rw [e]
        exact k .non H2 (by rw [e2]; rfl) S2
end
end My

namespace My
open PySem L2
def spAllOpt (o : List (Nat × Nat) → Option (Nat × Nat)) : Sp := fun vs H Q _ => ∃ (p : Addr) (ns : List Int) (tot : Int), vs = [.ref p, .int tot] ∧ RowAt H p ns ∧ ∀ v H', OptAt H' v (o (hitsBy ns (fun s => decide (s = tot)))) → Same H H' → Q v H'
section
variable {P : Program} {w : World} {K : PySem.W.Frag} {mg : Str → Option Value} {base : Heap}
abbrev s_first_with : Stmt := top 12
theorem sc_first_with : FnScope ["row", "total"] ["row", "total"] (defScope s_first_with) := ⟨rfl, rfl, rfl, by decide +kernel, rfl, by decide +kernel, by decide +kernel⟩
theorem ok_first_with {f fa fo : Addr} {fd fda fdo : FuncData} (F : Fun K "first_with" "first_with" s_first_with f fd) (T : Txt mg) (D_all_with : DefAt K mg "all_with" s_all_with ["row", "total"] fa fda) (G_all_with : FnOk P w K mg base CX0 3 fa fda ["row", "total"] spAll)
    (D_first_of : DefAt K mg "first_of" s_first_of ["stretches"] fo fdo) (G_first_of : FnOk P w K mg base CX0 2 fo fdo ["stretches"] (spPick firstOf)) : FnOk P w K mg base CX0 4 f fd ["row", "total"] (spAllOpt firstOf) := by
  refine F.ok sc_first_with (fun vs H Q E h => ?_) (fun cdv A outer s H vs Q E hr h => ?_)
  · obtain ⟨p, ns, tot, rfl, _⟩ := h
    rfl
  · obtain ⟨p, ns, tot, rfl, hR, k⟩ := h
    refine ⟨_, (pss_one (ps_ret (pe_call G_first_of (hr.mono (by first | decide | exact Nat.le_refl _)) rfl D_first_of.mg D_first_of.fn.kp D_first_of.bd .nil pass0 (pa_cons (pe_call G_all_with (hr.mono (by first | decide | exact Nat.le_refl _)) rfl D_all_with.mg D_all_with.fn.kp D_all_with.bd .nil pass0 (pa_cons (pv 0) (pa_cons (pv 1) pa_nil))) pa_nil)))), ?_⟩
    refine ⟨_, rfl, _, rfl, p, ns, tot, rfl, hR, fun q xs H1 _ hq ht S1 => ⟨q, xs, _, rfl, hq, ht, hitsBy_sorted _ _, fun v H2 o2 S2 => ?_⟩⟩
    exact k v H2 o2 (S1.trans S2)
end
end My

namespace My
open PySem L2
/-- all is kept but what stands at l -/
def Kp (l : Addr) (H H' : Hp) : Prop := ∀ b o, H b = some o → b ≠ l → H' b = some o
theorem Kp.refl {l : Addr} (H : Hp) : Kp l H H := fun _ _ h _ => h
theorem Kp.trans {l : Addr} {H H1 H2 : Hp} (a : Kp l H H1) (b : Kp l H1 H2) : Kp l H H2 := fun x o h n => b x o (a x o h n) n
theorem Kp.of {l : Addr} {H H' : Hp} (s : Same H H') : Kp l H H' := fun b o h _ => s b o h
theorem Kp.wr {l : Addr} {H H' : Hp} {o : HO} (s : Kp l H H') : Kp l H (upd H' l o) := fun b o' h n => by rw [upd_ne n]; exact s b o' h n
/-- the list at l was new -/
theorem Kp.same {l : Addr} {H H1 H' : Hp} (s : Same H H1) (h : H l = none) (k : Kp l H1 H') : Same H H' := fun b o e => k b o (s b o e) (ne_of_none e h)
theorem Kp.tups {α : Type} {g : α → List V} {l : Addr} {H H' : Hp} {xs ys : List V} {ps : List α} (k : Kp l H H') (hl : H l = some (.lst ys)) (h : TupsAt g H xs ps) : TupsAt g H' xs ps := h.mono fun a zs e => k a _ e (ne_of e hl (by intro z; cases z))
abbrev eqT (tot : Int) : Int → Bool := fun s => decide (s = tot)
end My

namespace My
open PySem L2
/-! ### a kept row -/
structure MethAt (K : PySem.W.Frag) (C : Addr) (x qual : Str) (st : Stmt) (ps : List Str) (f : Addr) (fd : FuncData) : Prop where
  fn : Fun K x qual st f fd
  mt : Meth K C x f
  bd : Binds K fd ps []
structure TxtC (K : PySem.W.Frag) (mg : Str → Option Value) (C : Addr) : Prop where
  cl : Cls K C
  nN : NoAttr K C "numbers"
  nT : NoAttr K C "total"
  mgC : mg "KeptRow" = some (.ref C)
theorem nt : ¬ (("numbers" : Str) = "total") := by decide +kernel
def flds (p : Addr) (t : Int) : List (Str × V) := putF "total" (.int t) (putF "numbers" (.ref p) [])
theorem flds_eq (p : Addr) (t : Int) : flds p t = ([("numbers", V.ref p), ("total", V.int t)] : List (Str × V)) := by
  show (if ("numbers" : Str) = "total" then [(("numbers" : Str), V.int t)] else (("numbers" : Str), V.ref p) :: putF "total" (V.int t) []) = ([("numbers", V.ref p), ("total", V.int t)] : List (Str × V))
  rw [if_neg nt]
  all_goals rfl
theorem flds_num (p : Addr) (t : Int) : (flds p t).lookup ("numbers" : Str) = some (.ref p) := by
  unfold flds
  rw [lookup_putF, if_neg nt, lookup_putF, if_pos rfl]
theorem flds_tot (p : Addr) (t : Int) : (flds p t).lookup ("total" : Str) = some (.int t) := by
  unfold flds
  rw [lookup_putF, if_pos rfl]
theorem flds_no (p : Addr) (t : Int) {m : Str} (h1 : ¬ m = "total") (h2 : ¬ m = "numbers") : (flds p t).lookup m = none := by
  unfold flds
  rw [lookup_putF, if_neg h1, lookup_putF, if_neg h2]
  all_goals rfl
theorem flds_put (p q : Addr) (t : Int) : putF "numbers" (.ref q) (flds p t) = flds q t := by
  rw [flds_eq, flds_eq]
  show (if ("numbers" : Str) = "numbers" then ([(("numbers" : Str), V.ref q), ("total", V.int t)] : List (Str × V)) else _) = ([("numbers", V.ref q), ("total", V.int t)] : List (Str × V))
  rw [if_pos rfl]
/-- a KeptRow stands at x: the numbers, the sum -/
structure KeptAt (C : Addr) (H : Hp) (x p : Addr) (ns : List Int) (tot : Int) : Prop where
  ob : ∃ dx, H x = some (.ins C dx (flds p tot))
  rw : RowAt H p ns
theorem RowAt.same {H H' : Hp} {p : Addr} {ns : List Int} (h : RowAt H p ns) (s : Same H H') : RowAt H' p ns := ⟨s _ _ h.1, h.2⟩
theorem KeptAt.same {C : Addr} {H H' : Hp} {x p : Addr} {ns : List Int} {tot : Int} (h : KeptAt C H x p ns tot) (s : Same H H') : KeptAt C H' x p ns tot := ⟨let ⟨dx, e⟩ := h.ob; ⟨dx, s _ _ e⟩, h.rw.same s⟩
/-- other things than x, where x is changed -/
theorem KeptAt.nt {C : Addr} {H : Hp} {x p b : Addr} {ns : List Int} {tot : Int} {zs : List V} (h : KeptAt C H x p ns tot) (e : H b = some (.tup zs)) : b ≠ x := let ⟨dx, e'⟩ := h.ob; ne_of e e' (by intro z; cases z)
theorem KeptAt.nl {C : Addr} {H : Hp} {x p b : Addr} {ns : List Int} {tot : Int} {zs : List V} (h : KeptAt C H x p ns tot) (e : H b = some (.lst zs)) : b ≠ x := let ⟨dx, e'⟩ := h.ob; ne_of e e' (by intro z; cases z)
def cnt (ns : List Int) (tot : Int) : Int := ((hitsBy ns (eqT tot)).length : Int)
def spInit (C : Addr) : Sp := fun vs H Q _ => ∃ (x dx p : Addr) (ns : List Int) (tot : Int), vs = [.ref x, .ref p, .int tot] ∧ H x = some (.ins C dx []) ∧ RowAt H p ns ∧ ∀ H', KeptAt C H' x p ns tot → Kp x H H' → Q .non H'
def spRowNow (C : Addr) : Sp := fun vs H Q _ => ∃ (x p : Addr) (ns : List Int) (tot : Int), vs = [.ref x] ∧ KeptAt C H x p ns tot ∧ Q (.ref p) H
def spCountNow (C : Addr) : Sp := fun vs H Q _ => ∃ (x p : Addr) (ns : List Int) (tot : Int), vs = [.ref x] ∧ KeptAt C H x p ns tot ∧ ∀ H', Same H H' → Q (.int (cnt ns tot)) H'
def spOptNow (C : Addr) (o : List (Nat × Nat) → Option (Nat × Nat)) : Sp := fun vs H Q _ => ∃ (x p : Addr) (ns : List Int) (tot : Int), vs = [.ref x] ∧ KeptAt C H x p ns tot ∧ ∀ v H', OptAt H' v (o (hitsBy ns (eqT tot))) → Same H H' → Q v H'
def spChange (C : Addr) : Sp := fun vs H Q _ => ∃ (x p q : Addr) (ns ms : List Int) (tot : Int), vs = [.ref x, .ref q] ∧ KeptAt C H x p ns tot ∧ RowAt H q ms ∧ ∀ H', KeptAt C H' x q ms tot → Kp x H H' → Q (.int (cnt ms tot - cnt ns tot)) H'
def spPut (C : Addr) : Sp := fun vs H Q _ => ∃ (x p : Addr) (ns : List Int) (tot n : Int), vs = [.ref x, .int n] ∧ KeptAt C H x p ns tot ∧ ns.length < 1000 ∧ ∀ q H', KeptAt C H' x q (ns ++ [n]) tot → Kp x H H' → Q (.int (cnt (ns ++ [n]) tot - cnt ns tot)) H'
def spTake' (C : Addr) : Sp := fun vs H Q _ => ∃ (x p : Addr) (ns : List Int) (tot : Int), vs = [.ref x] ∧ KeptAt C H x p ns tot ∧ 0 < ns.length ∧ ∀ q H', KeptAt C H' x q ns.dropLast tot → Kp x H H' → Q (.int (cnt ns.dropLast tot - cnt ns tot)) H'
def spLed : Sp := fun vs H Q _ => ∃ (p : Addr) (ns : List Int) (pl : Nat) (n : Int), vs = [.ref p, .int (pl : Int), .int n] ∧ RowAt H p ns ∧ pl < ns.length ∧ ∀ q H', RowAt H' q (ns.set pl n) → Same H H' → Q (.ref q) H'
def spLead (C : Addr) : Sp := fun vs H Q _ => ∃ (x p : Addr) (ns : List Int) (tot n : Int) (pl : Nat), vs = [.ref x, .int (pl : Int), .int n] ∧ KeptAt C H x p ns tot ∧ pl < ns.length ∧ ∀ q H', KeptAt C H' x q (ns.set pl n) tot → Kp x H H' → Q (.int (cnt (ns.set pl n) tot - cnt ns tot)) H'
theorem set_cut (ns : List Int) (pl : Nat) (n : Int) (h : pl < ns.length) : ns.take pl ++ [n] ++ ns.drop (pl + 1) = ns.set pl n := by
  apply List.ext_getElem?
  intro j
  rw [List.getElem?_set, List.append_assoc, List.getElem?_append]
  have hl : (ns.take pl).length = pl := by rw [List.length_take]; omega
  rw [hl]
  by_cases h1 : j < pl
  · rw [if_pos h1, List.getElem?_take_of_lt h1, if_neg (by omega)]
  · rw [if_neg h1]
    by_cases h2 : pl = j
    · subst h2
      rw [if_pos rfl, if_pos h, Nat.sub_self]; rfl
    · rw [if_neg h2]
      obtain ⟨d, rfl⟩ : ∃ d, j = pl + 1 + d := ⟨j - pl - 1, by omega⟩
      rw [show pl + 1 + d - pl = d + 1 by omega]
      show (ns.drop (pl + 1))[d]? = _
      rw [List.getElem?_drop]
section
variable {P : Program} {w : World} {K : PySem.W.Frag} {mg : Str → Option Value} {base : Heap}
/-- t[:place] + (number,) + t[place + 1:], as the reading asks -/
theorem led_read {H : Hp} {p : Addr} {ns : List Int} {pl : Nat} {n : Int} {Q : VK} (hp : RowAt H p ns) (hpl : pl < ns.length) (k : ∀ q H', RowAt H' q (ns.set pl n) → Same H H' → Q (.ref q) H') :
    rSlTB (.ref p) none (some (pl : Int)) H fun x H1 => (∀ (q : Addr), H1 q = none → rCatB x (.ref q) (upd H1 q (.tup [.int n])) fun y H2 => rSlTB (.ref p) (some ((pl : Int) + 1)) none H2 fun z H3 => rCatB y z H3 Q) := by
  obtain ⟨h1, h2⟩ := hp
  refine ⟨p, _, rfl, h1, fun q1 H1 S1 hq1 q2 hq2 => ?_⟩
  rw [cutV_map, cut_to ns pl (by omega)] at hq1
  refine ⟨q1, q2, _, _, rfl, rfl, (upd_ne (ne_of_none hq1 hq2)).trans hq1, upd_same, size_le (by rw [List.length_map, List.length_take]; simp only [List.length_cons, List.length_nil]; omega), fun q3 H2 S2 hq3 => ?_⟩
  have S12 : Same H H2 := S1.trans ((Same.lay hq2).trans S2)
  refine ⟨p, _, rfl, S12 _ _ h1, fun q4 H3 S3 hq4 => ?_⟩
  rw [show (pl : Int) + 1 = ((pl + 1 : Nat) : Int) by omega, cutV_map, cut_from ns (pl + 1) (by omega)] at hq4
  refine ⟨q3, q4, _, _, rfl, rfl, S3 _ _ hq3, hq4, size_le (by simp only [List.length_map, List.length_take, List.length_drop, List.length_append, List.length_cons, List.length_nil]; omega), fun q5 H4 S4 hq5 => k q5 H4 ⟨?_, by rw [List.length_set]; exact h2⟩ (S12.trans (S3.trans S4))⟩
  rw [hq5, ← set_cut ns pl n hpl, List.map_append, List.map_append]; rfl
abbrev s_row_led : Stmt := top 14
theorem sc_row_led : FnScope ["row", "place", "number"] ["row", "place", "number"] (defScope s_row_led) := ⟨rfl, rfl, rfl, by decide +kernel, rfl, by decide +kernel, by decide +kernel⟩
theorem ok_row_led {f : Addr} {fd : FuncData} (F : Fun K "row_led" "row_led" s_row_led f fd) (T : Txt mg) : FnOk P w K mg base CX0 1 f fd ["row", "place", "number"] spLed := by
  refine F.ok sc_row_led (fun vs H Q E h => ?_) (fun cdv A outer s H vs Q E hr h => ?_)
  · obtain ⟨p, ns, pl, n, rfl, _⟩ := h
    rfl
  · obtain ⟨p, ns, pl, n, rfl, hp, hpl, k⟩ := h
    refine ⟨_, (pss_cons (ps_if (pt_not (pt_chain op_le op_lt pe_int (pv 1) (pe_callB (cLen (K := K) rfl) (by rfl) T.b_len PyProof.Rows.Boot.«len» (pa_cons (pv 0) pa_nil))))
        (pss_one ps_no)
        pss_nil)
      (pss_one (ps_ret (pe_op oCatB (pe_op oCatB (pe_slice slTB (pv 0) po_none (po_some (pv 1))) (pe_tup (pa_cons (pv 2) pa_nil))) (pe_slice slTB (pv 0) (po_some (pe_op op_add (pv 1) pe_int)) po_none))))), ?_⟩
    have hlm : (ns.map V.int).length = ns.length := List.length_map _
    refine ⟨_, rfl, _, _, rfl, rfl, _, rfl, ?_⟩
    rw [decide_eq_true (show (0 : Int) ≤ (pl : Int) by omega)]
    refine iteT ⟨_, rfl, p, _, rfl, .inr (SqT.of hp.1), _, _, rfl, rfl, _, rfl, ?_⟩
    rw [decide_eq_true (show (pl : Int) < ((ns.map V.int).length : Int) by omega)]
    refine iteF ?_
    refine ⟨_, rfl, _, rfl, _, rfl, ?_⟩
    obtain ⟨pp, xs, e1, e2, e3⟩ := led_read (Q := Q) hp hpl k
    refine ⟨pp, xs, e1, e2, fun q H' S hq => ?_⟩
    have := e3 q H' S hq
    refine ⟨_, rfl, by show 1 ≤ sizeLine; decide, fun q2 hq2 => ?_⟩
    obtain ⟨a, b, us, ws, z1, z2, z3, z4, z5, z6⟩ := this q2 hq2
    refine ⟨a, b, us, ws, z1, z2, z3, z4, z5, fun q3 H3 S3 hq3 => ?_⟩
    obtain ⟨pp', xs', e1', e2', e3'⟩ := z6 q3 H3 S3 hq3
    exact ⟨_, rfl, _, rfl, _, _, rfl, rfl, _, rfl, pp', xs', e1', e2', e3'⟩
abbrev s_init : Stmt := inClass (top 15) 0
abbrev s_put_number : Stmt := inClass (top 15) 1
abbrev s_take_number : Stmt := inClass (top 15) 2
abbrev s_lead_number : Stmt := inClass (top 15) 3
abbrev s_change_to : Stmt := inClass (top 15) 4
abbrev s_row_now : Stmt := inClass (top 15) 5
abbrev s_count_now : Stmt := inClass (top 15) 6
abbrev s_first_now : Stmt := inClass (top 15) 7
theorem sc_init : FnScope ["self", "row", "total"] ["self", "row", "total"] (defScope s_init) := ⟨rfl, rfl, rfl, by decide +kernel, rfl, by decide +kernel, by decide +kernel⟩
theorem ok_init {f C : Addr} {fd : FuncData} (F : Fun K "__init__" "KeptRow.__init__" s_init f fd) (T : Txt mg) (TC : TxtC K mg C) : FnOk P w K mg base CX0 1 f fd ["self", "row", "total"] (spInit C) := by
  refine F.ok sc_init (fun vs H Q E h => ?_) (fun cdv A outer s H vs Q E hr h => ?_)
  · obtain ⟨x, dx, p, ns, tot, rfl, _⟩ := h
    rfl
  · obtain ⟨x, dx, p, ns, tot, rfl, hx, hp, k⟩ := h
    refine ⟨_, (pss_cons (ps_fld (pv 0) (pe_callTy (cTuple (K := K) rfl) (by rfl) T.b_tuple PyProof.Rows.Boot.«tuple» (pa_cons (pv 1) pa_nil)) rfl)
      (pss_one (ps_fld (pv 0) (pv 2) rfl))), ?_⟩
    have npx : p ≠ x := ne_of hp.1 hx (by intro z; cases z)
    refine ⟨_, rfl, p, _, rfl, .inr ⟨SqT.of hp.1, _, rfl, x, C, dx, [], rfl, hx, TC.cl, TC.nN, (by show 0 < 1000; decide), ?_⟩⟩
    refine ⟨_, rfl, _, rfl, x, C, dx, _, rfl, upd_same, TC.cl, TC.nT, (by show 1 < 1000; decide), ?_⟩
    exact k _ ⟨⟨dx, upd_same⟩, by rw [RowAt, upd_ne npx, upd_ne npx]; exact hp⟩ fun b o e nb => by rw [upd_ne nb, upd_ne nb]; exact e
theorem sc_row_now : FnScope ["self"] ["self"] (defScope s_row_now) := ⟨rfl, rfl, rfl, by decide +kernel, rfl, by decide +kernel, by decide +kernel⟩
theorem ok_row_now {f C : Addr} {fd : FuncData} (F : Fun K "row_now" "KeptRow.row_now" s_row_now f fd) (TC : TxtC K mg C) : FnOk P w K mg base CX0 1 f fd ["self"] (spRowNow C) := by
  refine F.ok sc_row_now (fun vs H Q E h => ?_) (fun cdv A outer s H vs Q E hr h => ?_)
  · obtain ⟨x, p, ns, tot, rfl, _⟩ := h
    rfl
  · obtain ⟨x, p, ns, tot, rfl, ⟨⟨dx, hx⟩, hp⟩, k⟩ := h
    refine ⟨_, (pss_one (ps_ret (pe_fld (pv 0) rfl))), ?_⟩
    exact ⟨_, rfl, x, C, dx, _, _, rfl, hx, TC.cl, TC.nN, flds_num _ _, k⟩
theorem sc_count_now : FnScope ["self"] ["self"] (defScope s_count_now) := ⟨rfl, rfl, rfl, by decide +kernel, rfl, by decide +kernel, by decide +kernel⟩
theorem ok_count_now {f C fc : Addr} {fd fdc : FuncData} (F : Fun K "count_now" "KeptRow.count_now" s_count_now f fd) (TC : TxtC K mg C) (D_count_with : DefAt K mg "count_with" s_count_with ["row", "total"] fc fdc) (G_count_with : FnOk P w K mg base CX0 4 fc fdc ["row", "total"] spCount) : FnOk P w K mg base CX0 5 f fd ["self"] (spCountNow C) := by
  refine F.ok sc_count_now (fun vs H Q E h => ?_) (fun cdv A outer s H vs Q E hr h => ?_)
  · obtain ⟨x, p, ns, tot, rfl, _⟩ := h
    rfl
  · obtain ⟨x, p, ns, tot, rfl, ⟨⟨dx, hx⟩, hp⟩, k⟩ := h
    refine ⟨_, (pss_one (ps_ret (pe_call G_count_with (hr.mono (by first | decide | exact Nat.le_refl _)) rfl D_count_with.mg D_count_with.fn.kp D_count_with.bd .nil pass0 (pa_cons (pe_fld (pv 0) rfl) (pa_cons (pe_fld (pv 0) rfl) pa_nil))))), ?_⟩
    exact ⟨_, rfl, x, C, dx, _, _, rfl, hx, TC.cl, TC.nN, flds_num _ _, _, rfl, x, C, dx, _, _, rfl, hx, TC.cl, TC.nT, flds_tot _ _, p, ns, tot, rfl, hp, k⟩
theorem sc_first_now : FnScope ["self"] ["self"] (defScope s_first_now) := ⟨rfl, rfl, rfl, by decide +kernel, rfl, by decide +kernel, by decide +kernel⟩
theorem ok_first_now {f C fc : Addr} {fd fdc : FuncData} (F : Fun K "first_now" "KeptRow.first_now" s_first_now f fd) (TC : TxtC K mg C) (D_first_with : DefAt K mg "first_with" s_first_with ["row", "total"] fc fdc) (G_first_with : FnOk P w K mg base CX0 4 fc fdc ["row", "total"] (spAllOpt firstOf)) : FnOk P w K mg base CX0 5 f fd ["self"] (spOptNow C firstOf) := by
  refine F.ok sc_first_now (fun vs H Q E h => ?_) (fun cdv A outer s H vs Q E hr h => ?_)
  · obtain ⟨x, p, ns, tot, rfl, _⟩ := h
    rfl
  · obtain ⟨x, p, ns, tot, rfl, ⟨⟨dx, hx⟩, hp⟩, k⟩ := h
    refine ⟨_, (pss_one (ps_ret (pe_call G_first_with (hr.mono (by first | decide | exact Nat.le_refl _)) rfl D_first_with.mg D_first_with.fn.kp D_first_with.bd .nil pass0 (pa_cons (pe_fld (pv 0) rfl) (pa_cons (pe_fld (pv 0) rfl) pa_nil))))), ?_⟩
    exact ⟨_, rfl, x, C, dx, _, _, rfl, hx, TC.cl, TC.nN, flds_num _ _, _, rfl, x, C, dx, _, _, rfl, hx, TC.cl, TC.nT, flds_tot _ _, p, ns, tot, rfl, hp, k⟩
theorem sc_change_to : FnScope ["self", "row", "ahead"] ["self", "row"] (defScope s_change_to) := ⟨rfl, rfl, rfl, by decide +kernel, rfl, by decide +kernel, by decide +kernel⟩
theorem ok_change_to {f C fc : Addr} {fd fdc : FuncData} (F : Fun K "change_to" "KeptRow.change_to" s_change_to f fd) (TC : TxtC K mg C) (M_count_now : MethAt K C "count_now" "KeptRow.count_now" s_count_now ["self"] fc fdc) (G_count_now : FnOk P w K mg base CX0 5 fc fdc ["self"] (spCountNow C)) : FnOk P w K mg base CX0 6 f fd ["self", "row"] (spChange C) := by
  refine F.ok sc_change_to (fun vs H Q E h => ?_) (fun cdv A outer s H vs Q E hr h => ?_)
  · obtain ⟨x, p, q, ns, ms, tot, rfl, _⟩ := h
    rfl
  · obtain ⟨x, p, q, ns, ms, tot, rfl, KA, hq, k⟩ := h
    obtain ⟨dx, hx⟩ := KA.ob
    refine ⟨_, (pss_cons (ps_set (i := 2) sc_change_to.nd rfl (Or.inl rfl) (pe_meth0 (pv 0) TC.cl M_count_now.mt G_count_now (hr.mono (by first | decide | exact Nat.le_refl _)) M_count_now.bd .nil pass0))
      (pss_cons (ps_fld (pv 0) (pv 1) rfl)
      (pss_one (ps_ret (pe_op op_sub (pe_meth0 (pv 0) TC.cl M_count_now.mt G_count_now (hr.mono (by first | decide | exact Nat.le_refl _)) M_count_now.bd .nil pass0) (pv 2)))))), ?_⟩
    refine ⟨_, rfl, x, dx, _, rfl, hx, flds_no _ _ (by decide +kernel) (by decide +kernel), x, p, ns, tot, rfl, KA, fun H1 S1 => ?_⟩
    have hx1 := S1 _ _ hx
    refine ⟨_, rfl, _, rfl, x, C, dx, _, rfl, hx1, TC.cl, TC.nN, (by rw [flds_eq]; show 2 < 1000; decide), ?_⟩
    have nqx : q ≠ x := ne_of hq.1 hx (by intro z; cases z)
    have KB : KeptAt C (upd H1 x (.ins C dx (putF "numbers" (.ref q) (flds p tot)))) x q ms tot := ⟨⟨dx, by rw [upd_same, flds_put]⟩, by rw [RowAt, upd_ne nqx]; exact hq.same S1⟩
    obtain ⟨dx2, hx2⟩ := KB.ob
    refine ⟨_, rfl, x, dx2, _, rfl, hx2, flds_no _ _ (by decide +kernel) (by decide +kernel), x, q, ms, tot, rfl, KB, fun H2 S2 => ?_⟩
    refine ⟨_, rfl, _, _, rfl, rfl, k H2 (KB.same S2) ?_⟩
    exact fun b o e nb => S2 _ _ (by rw [upd_ne nb]; exact S1 b o e)
theorem sc_put_number : FnScope ["self", "number"] ["self", "number"] (defScope s_put_number) := ⟨rfl, rfl, rfl, by decide +kernel, rfl, by decide +kernel, by decide +kernel⟩
theorem ok_put_number {f C fc : Addr} {fd fdc : FuncData} (F : Fun K "put_number" "KeptRow.put_number" s_put_number f fd) (TC : TxtC K mg C) (M_change_to : MethAt K C "change_to" "KeptRow.change_to" s_change_to ["self", "row"] fc fdc) (G_change_to : FnOk P w K mg base CX0 6 fc fdc ["self", "row"] (spChange C)) : FnOk P w K mg base CX0 7 f fd ["self", "number"] (spPut C) := by
  refine F.ok sc_put_number (fun vs H Q E h => ?_) (fun cdv A outer s H vs Q E hr h => ?_)
  · obtain ⟨x, p, ns, tot, n, rfl, _⟩ := h
    rfl
  · obtain ⟨x, p, ns, tot, n, rfl, KA, hl, k⟩ := h
    obtain ⟨dx, hx⟩ := KA.ob
    refine ⟨_, (pss_one (ps_ret (pe_meth (pv 0) TC.cl M_change_to.mt G_change_to (hr.mono (by first | decide | exact Nat.le_refl _)) M_change_to.bd .nil pass0 (pa_cons (pe_op oCatB (pe_fld (pv 0) rfl) (pe_tup (pa_cons (pv 1) pa_nil))) pa_nil)))), ?_⟩
    refine ⟨_, rfl, x, dx, _, rfl, hx, flds_no _ _ (by decide +kernel) (by decide +kernel), _, rfl, x, C, dx, _, _, rfl, hx, TC.cl, TC.nN, flds_num _ _, _, rfl, by show 1 ≤ sizeLine; decide, fun q1 hq1 => ?_⟩
    refine ⟨p, q1, _, _, rfl, rfl, (upd_ne (ne_of_none KA.rw.1 hq1)).trans KA.rw.1, upd_same, size_le (by rw [List.length_map]; simp only [List.length_cons, List.length_nil]; omega), fun q2 H2 S2 hq2 => ?_⟩
    have S : Same H H2 := (Same.lay hq1).trans S2
    have hr2 : RowAt H2 q2 (ns ++ [n]) := ⟨by rw [hq2, List.map_append]; rfl, by rw [List.length_append]; simp only [List.length_cons, List.length_nil]; omega⟩
    exact ⟨x, p, q2, ns, _, tot, rfl, KA.same S, hr2, fun H3 KB k3 => k q2 H3 KB (Kp.trans (Kp.of S) k3)⟩
theorem sc_take_number : FnScope ["self"] ["self"] (defScope s_take_number) := ⟨rfl, rfl, rfl, by decide +kernel, rfl, by decide +kernel, by decide +kernel⟩
theorem ok_take_number {f C fc : Addr} {fd fdc : FuncData} (F : Fun K "take_number" "KeptRow.take_number" s_take_number f fd) (TC : TxtC K mg C) (M_change_to : MethAt K C "change_to" "KeptRow.change_to" s_change_to ["self", "row"] fc fdc) (G_change_to : FnOk P w K mg base CX0 6 fc fdc ["self", "row"] (spChange C)) : FnOk P w K mg base CX0 7 f fd ["self"] (spTake' C) := by
  refine F.ok sc_take_number (fun vs H Q E h => ?_) (fun cdv A outer s H vs Q E hr h => ?_)
  · obtain ⟨x, p, ns, tot, rfl, _⟩ := h
    rfl
  · obtain ⟨x, p, ns, tot, rfl, KA, hl, k⟩ := h
    obtain ⟨dx, hx⟩ := KA.ob
    refine ⟨_, (pss_cons (ps_if (pt_not (pt_tup (pe_fld (pv 0) rfl)))
        (pss_one ps_no)
        pss_nil)
      (pss_one (ps_ret (pe_meth (pv 0) TC.cl M_change_to.mt G_change_to (hr.mono (by first | decide | exact Nat.le_refl _)) M_change_to.bd .nil pass0 (pa_cons (pe_slice slTB (pe_fld (pv 0) rfl) po_none (po_some (pe_un un_neg pe_int))) pa_nil))))), ?_⟩
    have hne : (!(ns.map V.int).isEmpty) = true := by cases ns with
      | nil => simp at hl
      | cons _ _ => rfl
    refine ⟨_, rfl, x, C, dx, _, _, rfl, hx, TC.cl, TC.nN, flds_num _ _, p, _, rfl, KA.rw.1, ?_⟩
    rw [hne]
    refine iteF ?_
    refine ⟨_, rfl, x, dx, _, rfl, hx, flds_no _ _ (by decide +kernel) (by decide +kernel), _, rfl, x, C, dx, _, _, rfl, hx, TC.cl, TC.nN, flds_num _ _, 1, rfl, _, rfl, p, _, rfl, KA.rw.1, fun q2 H2 S2 hq2 => ?_⟩
    have hr2 : RowAt H2 q2 ns.dropLast := ⟨by rw [hq2, cutV_map, cut_last ns hl], by rw [List.length_dropLast]; have := KA.rw.2; omega⟩
    exact ⟨x, p, q2, ns, _, tot, rfl, KA.same S2, hr2, fun H3 KB k3 => k q2 H3 KB (Kp.trans (Kp.of S2) k3)⟩
theorem sc_lead_number : FnScope ["self", "place", "number"] ["self", "place", "number"] (defScope s_lead_number) := ⟨rfl, rfl, rfl, by decide +kernel, rfl, by decide +kernel, by decide +kernel⟩
theorem ok_lead_number {f C fc fl : Addr} {fd fdc fdl : FuncData} (F : Fun K "lead_number" "KeptRow.lead_number" s_lead_number f fd) (T : Txt mg) (TC : TxtC K mg C) (M_change_to : MethAt K C "change_to" "KeptRow.change_to" s_change_to ["self", "row"] fc fdc) (G_change_to : FnOk P w K mg base CX0 6 fc fdc ["self", "row"] (spChange C))
    (D_row_led : DefAt K mg "row_led" s_row_led ["row", "place", "number"] fl fdl) : FnOk P w K mg base CX0 7 f fd ["self", "place", "number"] (spLead C) := by
  have G_row_led : FnOk P w K mg base CX0 1 fl fdl ["row", "place", "number"] spLed := ok_row_led D_row_led.fn T
  refine F.ok sc_lead_number (fun vs H Q E h => ?_) (fun cdv A outer s H vs Q E hr h => ?_)
  · obtain ⟨x, p, ns, tot, n, pl, rfl, _⟩ := h
    rfl
  · obtain ⟨x, p, ns, tot, n, pl, rfl, KA, hl, k⟩ := h
    obtain ⟨dx, hx⟩ := KA.ob
    refine ⟨_, (pss_one (ps_ret (pe_meth (pv 0) TC.cl M_change_to.mt G_change_to (hr.mono (by first | decide | exact Nat.le_refl _)) M_change_to.bd .nil pass0 (pa_cons (pe_call G_row_led (hr.mono (by first | decide | exact Nat.le_refl _)) rfl D_row_led.mg D_row_led.fn.kp D_row_led.bd .nil pass0 (pa_cons (pe_fld (pv 0) rfl) (pa_cons (pv 1) (pa_cons (pv 2) pa_nil)))) pa_nil)))), ?_⟩
    refine ⟨_, rfl, x, dx, _, rfl, hx, flds_no _ _ (by decide +kernel) (by decide +kernel), _, rfl, x, C, dx, _, _, rfl, hx, TC.cl, TC.nN, flds_num _ _, _, rfl, _, rfl, p, ns, pl, n, rfl, KA.rw, hl, fun q2 H2 hr2 S2 => ?_⟩
    exact ⟨x, p, q2, ns, _, tot, rfl, KA.same S2, hr2, fun H3 KB k3 => k q2 H3 KB (Kp.trans (Kp.of S2) k3)⟩
end
end My

namespace My
open PySem L2
def spLStr : Sp := fun vs H Q _ => ∃ p ns, vs = [.ref p] ∧ RowAt H p ns ∧ ∀ q xs H', H q = none → H' q = some (.lst xs) → TupsAt (g3 ns) H' xs (prs ns.length) → Same H H' → Q (.ref q) H'
section
variable {P : Program} {w : World} {K : PySem.W.Frag} {mg : Str → Option Value} {base : Heap}
abbrev s_law_stretches : Stmt := top 19
theorem sc_law_stretches : FnScope ["row", "found", "low", "total", "high"] ["row"] (defScope s_law_stretches) := ⟨rfl, rfl, rfl, by decide +kernel, rfl, by decide +kernel, by decide +kernel⟩
theorem ok_law_stretches {f : Addr} {fd : FuncData} (F : Fun K "_law_stretches" "_law_stretches" s_law_stretches f fd) (T : Txt mg) : FnOk P w K mg base CX0 1 f fd ["row"] spLStr := by
  refine F.ok sc_law_stretches (fun vs H Q E h => ?_) (fun cdv A outer s H vs Q E hr h => ?_)
  · obtain ⟨p, ns, rfl, _⟩ := h
    rfl
  · obtain ⟨p, ns, rfl, ⟨hp, hl⟩, k⟩ := h
    refine ⟨_, (pss_cons (ps_set (i := 1) sc_law_stretches.nd rfl (Or.inl rfl) (pe_lst pa_nil))
      (pss_cons (ps_for PassesOwn.never rfl (pi_range1 (by rfl) T.b_range (pa_cons (pe_callB (cLen (K := K) rfl) (by rfl) T.b_len PyProof.Rows.Boot.«len» (pa_cons (pv 0) pa_nil)) pa_nil)) (pg_name (i := 2) sc_law_stretches.nd rfl (Or.inl rfl))
        (pss_cons (ps_set (i := 3) sc_law_stretches.nd rfl (Or.inl rfl) pe_int)
        (pss_one (ps_for PassesOwn.never rfl (pi_range2 (by rfl) T.b_range (pa_cons (pe_op op_add (pv 2) pe_int) (pa_cons (pe_op op_add (pe_callB (cLen (K := K) rfl) (by rfl) T.b_len PyProof.Rows.Boot.«len» (pa_cons (pv 0) pa_nil)) pe_int) pa_nil))) (pg_name (i := 4) sc_law_stretches.nd rfl (Or.inl rfl))
          (pss_cons (ps_set (i := 3) sc_law_stretches.nd rfl (Or.inl rfl) (pe_op op_add (pv 3) (pe_ix (ixT (K := K) rfl) (pv 0) (pe_op op_sub (pv 4) pe_int) (fun _ _ => rfl))))
          (pss_one (ps_expr (pe_bm PySem.F.plainAttrs_list PySem.F.slot_list_append PySem.F.type_list_append mt_append (pv 1) (pa_cons (pe_tup (pa_cons (pv 2) (pa_cons (pv 4) (pa_cons (pv 3) pa_nil)))) pa_nil)))))))))
      (pss_one (ps_ret (pv 1))))), ?_⟩
    have hlm : (ns.map V.int).length = ns.length := List.length_map _
    refine ⟨by show 0 ≤ sizeLine; decide, fun l hl1 => ?_⟩
    have S1 : Same H (upd H l (.lst [])) := Same.lay hl1
    refine ⟨_, rfl, p, _, rfl, .inr (SqT.of (S1 _ _ hp)), _, rfl, by omega, by omega, for_range (n := ((ns.map V.int).length : Int).toNat) (fun i σ H' => ∃ (v2 v3 v4 : Option V) (xs : List V), σ = [some (.ref p), some (.ref l), v2, v3, v4] ∧ H' l = some (.lst xs) ∧ TupsAt (g3 ns) H' xs (prsTo ns.length i) ∧ xs.length ≤ i * 1000 ∧ Same H H') ?_ ?_ ?_⟩
    · exact ⟨none, none, none, [], rfl, upd_same, TupsAt.nil, by simp, S1⟩
    · rintro i σ H' hi ⟨v2, v3, v4, xs, rfl, ha, ht, hx, S'⟩
      refine ⟨_, rfl, _, _, rfl, rfl, _, rfl, p, _, rfl, .inr (SqT.of (S' _ _ hp)), _, _, rfl, rfl, _, _, rfl, ⟨by omega, by omega, by omega, by omega⟩, ?_⟩
      have ej : ((((ns.map V.int).length : Int) + 1) - (0 + (i : Int) + 1)).toNat = ns.length - i := by omega
      rw [ej]
      refine for_range (fun j σ H' => ∃ (v4 : Option V) (xs : List V), σ = [some (.ref p), some (.ref l), some (.int (0 + (i : Int))), some (.int (psum ns (i + j) - psum ns i)), v4] ∧ H' l = some (.lst xs) ∧ TupsAt (g3 ns) H' xs (prsTo ns.length i ++ from1 i j) ∧ xs.length ≤ i * 1000 + j ∧ Same H H') ?_ ?_ ?_
      · refine ⟨v4, xs, ?_, ha, by simpa [from1] using ht, by omega, S'⟩
        rw [Nat.add_zero, Int.sub_self]; rfl
      · rintro j σ H2 hj ⟨v4, xs, rfl, ha, ht, hx, S'⟩
        have hij : i + j < ns.length := by omega
        have hn : ns[i + j]? = some ns[i + j] := List.getElem?_eq_getElem hij
        have hat : atI (ns.map V.int) (0 + (i : Int) + 1 + (j : Int) - 1) = some (.int ns[i + j]) := by
          rw [show (0 : Int) + (i : Int) + 1 + (j : Int) - 1 = ((i + j : Nat) : Int) by omega]
          exact atI_nat (by rw [List.getElem?_map, hn]; rfl)
        refine ⟨_, rfl, _, rfl, _, rfl, _, _, rfl, rfl, p, _, _, _, rfl, rfl, SqT.of (S' _ _ hp), hat, _, _, rfl, rfl, ?_⟩
        refine ⟨_, rfl, .inl ⟨rfl, _, SqL.of ha⟩, _, rfl, _, rfl, _, rfl, by show 3 ≤ sizeLine; decide, fun a hna => ⟨l, xs, _, rfl, rfl, (upd_ne (ne_of_none ha hna)).trans ha, size_lt (by omega), ?_⟩⟩
        have e3 : psum ns (i + j) - psum ns i + ns[i + j] = psum ns (i + 1 + j) - psum ns i := by
          rw [show i + 1 + j = i + j + 1 by omega, psum_succ hn]; omega
        refine ⟨some (.int (0 + (i : Int) + 1 + (j : Int))), xs ++ [.ref a], ?_, upd_same, ?_, by rw [List.length_append]; simp only [List.length_cons, List.length_nil]; omega, ?_⟩
        · rw [show i + (j + 1) = i + 1 + j by omega, ← e3]; rfl
        · have e1 : (0 : Int) + (i : Int) = ((i : Nat) : Int) := by omega
          have e2 : (0 : Int) + (i : Int) + 1 + (j : Int) = ((i + 1 + j : Nat) : Int) := by omega
          rw [from1_succ, ← List.append_assoc]
          refine TupsAt.snoc (ht.mono fun b zs e => ?_) ?_
          · rw [upd_ne (ne_of e ha (by intro z; cases z)), upd_ne (ne_of_none e hna)]; exact e
          · rw [upd_ne (Ne.symm (ne_of_none ha hna)), upd_same, e2, e1]
            show some (HO.tup [V.int (i : Int), V.int ((i + 1 + j : Nat) : Int), V.int (psum ns (i + j) - psum ns i + ns[i + j])]) = _
            rw [e3]; rfl
        · exact fun b o e => by rw [upd_ne (ne_of_none e hl1), upd_ne (ne_of_none (S' b o e) hna)]; exact S' b o e
      · rintro σ H2 ⟨v4, xs, rfl, ha, ht, hx, S'⟩
        exact ⟨_, _, _, xs, rfl, ha, by rw [prsTo_succ]; exact ht, by omega, S'⟩
    · rintro σ H' ⟨v2, v3, v4, xs, rfl, ha, ht, hx, S'⟩
      have e : (((ns.map V.int).length : Int)).toNat = ns.length := by omega
      rw [e] at ht
      exact ⟨_, rfl, k l xs H' hl1 ha ht S'⟩
end
end My

namespace My
open PySem L2
/-! ### each stretch has one sum -/
def sOf (ns : List Int) (p : Nat × Nat) : Int := psum ns p.2 - psum ns p.1
theorem one_of : ∀ {ms : List Int} {x : Int}, ms.Nodup → x ∈ ms → (ms.map fun m => if x = m then 1 else 0).sum = 1
  | m :: ms, x, hn, hx => by
    obtain ⟨h1, h2⟩ := List.nodup_cons.mp hn
    rw [List.map_cons, List.sum_cons]
    by_cases e : x = m
    · subst e
      have z : (ms.map fun m => if x = m then 1 else 0) = ms.map fun _ => 0 := List.map_congr_left fun m hm => if_neg fun e => h1 (by rw [e]; exact hm)
      have zs : ∀ l : List Int, (l.map fun _ => (0 : Nat)).sum = 0 := fun l => by induction l with
        | nil => rfl
        | cons a l ih => rw [List.map_cons, List.sum_cons, ih]
      rw [z, zs, if_pos rfl]
    · rw [if_neg e, one_of h2 ((List.mem_cons.mp hx).resolve_left e)]
theorem sum_split : ∀ {ms : List Int} (f g : Int → Nat), (ms.map fun m => f m + g m).sum = (ms.map f).sum + (ms.map g).sum
  | [], _, _ => rfl
  | m :: ms, f, g => by
    rw [List.map_cons, List.sum_cons, List.map_cons, List.sum_cons, List.map_cons, List.sum_cons, sum_split f g]
    omega
theorem parts_all {ms : List Int} (hn : ms.Nodup) (f : Nat × Nat → Int) : ∀ {ps : List (Nat × Nat)}, (∀ p ∈ ps, f p ∈ ms) → (ms.map fun m => (ps.filter fun p => decide (f p = m)).length).sum = ps.length
  | [], _ => by
    have zs : ∀ l : List Int, (l.map fun _ => (0 : Nat)).sum = 0 := fun l => by induction l with
      | nil => rfl
      | cons a l ih => rw [List.map_cons, List.sum_cons, ih]
    exact zs ms
  | p :: ps, h => by
    have ih := parts_all hn f (ps := ps) fun q hq => h q (List.mem_cons_of_mem _ hq)
    have e : (ms.map fun m => ((p :: ps).filter fun p => decide (f p = m)).length) = ms.map fun m => (if f p = m then 1 else 0) + (ps.filter fun p => decide (f p = m)).length := List.map_congr_left fun m _ => by
      rw [List.filter_cons]
      by_cases e : f p = m
      · rw [if_pos (decide_eq_true e), if_pos e, List.length_cons]; omega
      · rw [if_neg (fun z => e (of_decide_eq_true z)), if_neg e]; omega
    rw [e, sum_split, one_of hn (h p List.mem_cons_self), ih, List.length_cons]
    omega
theorem prsTo_cnt (n : Nat) : ∀ i, i ≤ n → 2 * (prsTo n i).length + i * i = 2 * (n * i) + i
  | 0, _ => by simp [prsTo]
  | i + 1, h => by
    have ih := prsTo_cnt n i (by omega)
    rw [prsTo_succ, List.length_append]
    have e : (from1 i (n - i)).length = n - i := by unfold from1; simp
    rw [e, Nat.mul_succ n i, show (i + 1) * (i + 1) = i * i + 2 * i + 1 by rw [Nat.mul_succ, Nat.succ_mul]; omega]
    generalize n * i = x at ih ⊢
    generalize i * i = y at ih ⊢
    omega
theorem prs_cnt (n : Nat) : (n : Int) * ((n : Int) + 1) / 2 = ((prs n).length : Int) := by
  have h := prsTo_cnt n n (Nat.le_refl _)
  have e : (n : Int) * ((n : Int) + 1) = ((n * n + n : Nat) : Int) := by rw [Int.mul_add, Int.mul_one]; simp
  rw [e]
  unfold prs
  generalize n * n = y at h ⊢
  omega

theorem cast_sum (l : List Int) (f : Int → Nat) : (l.map fun m => ((f m : Nat) : Int)).sum = (((l.map f).sum : Nat) : Int) := by
  induction l with
  | nil => rfl
  | cons a l ih => rw [List.map_cons, List.sum_cons, ih, List.map_cons, List.sum_cons, Int.natCast_add]
/-- all sums of a row are among the told ones -/
def Cov (ts ns : List Int) : Prop := ∀ p ∈ prs ns.length, sOf ns p ∈ ts
theorem cnt_all {ns ts : List Int} (hn : ts.Nodup) (hm : Cov ts ns) : (ts.map (cnt ns)).sum = (ns.length : Int) * ((ns.length : Int) + 1) / 2 := by
  have h1 := parts_all hn (sOf ns) (ps := prs ns.length) hm
  have h2 : (ts.map (cnt ns)).sum = (((ts.map fun m => ((prs ns.length).filter fun p => decide (sOf ns p = m)).length).sum : Nat) : Int) := cast_sum ts fun m => ((prs ns.length).filter fun p => decide (sOf ns p = m)).length
  rw [h2, h1, prs_cnt]
theorem sum_sub (ts : List Int) (f g : Int → Int) : (ts.map fun t => f t - g t).sum = (ts.map f).sum - (ts.map g).sum := by
  induction ts with
  | nil => rfl
  | cons a l ih => rw [List.map_cons, List.sum_cons, ih, List.map_cons, List.sum_cons, List.map_cons, List.sum_cons]; omega
theorem tri (n : Int) : (n + 1) * (n + 1 + 1) / 2 = n * (n + 1) / 2 + (n + 1) := by
  have h : (n + 1) * (n + 1 + 1) = n * (n + 1) + (n + 1) * 2 := by rw [Int.mul_add (n + 1) (n + 1) 1, Int.add_mul n 1 (n + 1)]; omega
  rw [h, Int.add_mul_ediv_right _ _ (by decide)]
/-! bounds -/
def Bd (ns : List Int) : Prop := ∀ n ∈ ns, -1000000000000 ≤ n ∧ n ≤ 1000000000000
theorem psum_bd {ns : List Int} (h : Bd ns) (lo : Nat) : ∀ d, lo + d ≤ ns.length → -1000000000000 * (d : Int) ≤ psum ns (lo + d) - psum ns lo ∧ psum ns (lo + d) - psum ns lo ≤ 1000000000000 * (d : Int)
  | 0, _ => by rw [Nat.add_zero]; omega
  | d + 1, hd => by
    have ih := psum_bd h lo d (by omega)
    have hi : lo + d < ns.length := by omega
    have hn : ns[lo + d]? = some ns[lo + d] := List.getElem?_eq_getElem hi
    have hb := h _ (List.getElem_mem hi)
    rw [← Nat.add_assoc, psum_succ hn]
    omega
theorem sOf_bd {ns : List Int} (h : Bd ns) (hl : ns.length ≤ 21) {p : Nat × Nat} (hp : p ∈ prs ns.length) : sOf ns p < 10 ^ (Int.toNat 14) - 1 := by
  obtain ⟨lo, hi⟩ := p
  obtain ⟨h1, h2⟩ := prs_mem hp
  obtain ⟨d, rfl⟩ : ∃ d, hi = lo + d := ⟨hi - lo, by omega⟩
  have := psum_bd h lo d h2
  have e : (10 : Int) ^ (Int.toNat 14) = 100000000000000 := by decide
  rw [e]
  show psum ns (lo + d) - psum ns lo < _
  omega
theorem cnt_none {ns : List Int} {t : Int} (h : ∀ p ∈ prs ns.length, sOf ns p < t) : cnt ns t = 0 := by
  unfold cnt hitsBy
  rw [List.filter_eq_nil_iff.mpr]
  · rfl
  · intro p hp e
    have e : sOf ns p = t := of_decide_eq_true e
    have := h p hp
    omega
theorem last_of {ts : List Int} {t : Int} (hs : ts.Pairwise (· < ·)) (ht : t ∈ ts) (hm : ∀ x ∈ ts, x ≤ t) : ∃ us, ts = us ++ [t] := by
  have hne : ts ≠ [] := fun e => by subst e; simp at ht
  have e := List.dropLast_concat_getLast hne
  refine ⟨ts.dropLast, ?_⟩
  have hl : ts.getLast hne = t := by
    have h1 := hm _ (List.getLast_mem hne)
    rw [← e] at ht hs
    rcases List.mem_append.mp ht with z | z
    · have := (List.pairwise_append.mp hs).2.2 t z _ (List.mem_singleton.mpr rfl)
      omega
    · exact (List.mem_singleton.mp z).symm
  rw [← hl]; exact e.symm
/-! the first ones -/
def fsOf (ns ts : List Int) : List (Nat × Nat) := ts.filterMap fun t => firstOf (hitsBy ns (eqT t))
theorem first_sum {ns : List Int} {t : Int} {p : Nat × Nat} (h : firstOf (hitsBy ns (eqT t)) = some p) : p ∈ prs ns.length ∧ sOf ns p = t := by
  have := List.mem_of_getElem? h
  obtain ⟨h1, h2⟩ := List.mem_filter.mp this
  exact ⟨h1, of_decide_eq_true h2⟩
theorem fs_mem {ns ts : List Int} {p : Nat × Nat} (h : p ∈ fsOf ns ts) : p ∈ prs ns.length ∧ sOf ns p ∈ ts := by
  obtain ⟨t, h1, h2⟩ := List.mem_filterMap.mp h
  obtain ⟨h3, h4⟩ := first_sum h2
  exact ⟨h3, by rw [h4]; exact h1⟩
theorem fs_nodup (ns : List Int) : ∀ {ts : List Int}, ts.Nodup → (fsOf ns ts).Nodup
  | [], _ => List.nodup_nil
  | t :: ts, h => by
    obtain ⟨h1, h2⟩ := List.nodup_cons.mp h
    unfold fsOf
    rw [List.filterMap_cons]
    cases e : firstOf (hitsBy ns (eqT t)) with
    | none => exact fs_nodup ns h2
    | some p =>
      refine List.nodup_cons.mpr ⟨fun hp => ?_, fs_nodup ns h2⟩
      obtain ⟨_, h4⟩ := fs_mem hp
      rw [(first_sum e).2] at h4
      exact h1 h4
theorem prs_head {n : Nat} (h : 0 < n) : ∃ r, prs n = (0, 1) :: r := by
  obtain ⟨m, rfl⟩ : ∃ m, n = m + 1 := ⟨n - 1, by omega⟩
  unfold prs prsTo
  rw [List.range_succ_eq_map, List.flatMap_cons]
  unfold from1
  rw [Nat.sub_zero, List.range_succ_eq_map, List.map_cons, List.cons_append]
  exact ⟨_, rfl⟩
theorem fs_first {ns ts : List Int} (hc : Cov ts ns) (hl : 0 < ns.length) : (0, 1) ∈ fsOf ns ts := by
  obtain ⟨r, hr⟩ := prs_head hl
  refine List.mem_filterMap.mpr ⟨sOf ns (0, 1), hc _ (by rw [hr]; exact List.mem_cons_self ..), ?_⟩
  unfold firstOf hitsBy
  have hh : hb ns (eqT (sOf ns (0, 1))) (0, 1) = true := decide_eq_true rfl
  rw [hr, List.filter_cons_of_pos hh]; rfl
/-! a dict's int keys -/
theorem keys_put {kvs : List (Key × V)} {keys : List Int} (h : kvs.map (·.1) = keys.map Sum.inl) (k : Int) (v : V) : ∃ keys' : List Int, (putK kvs (Sum.inl k) v).map (·.1) = keys'.map Sum.inl ∧ (∀ x, x ∈ keys' ↔ x = k ∨ x ∈ keys) ∧ keys'.length ≤ keys.length + 1 := by
  unfold putK
  split
  · next e =>
    obtain ⟨kv, h1, h2⟩ := List.any_eq_true.mp e
    have h2 := of_decide_eq_true h2
    refine ⟨keys, ?_, fun x => ⟨fun z => .inr z, fun z => ?_⟩, by omega⟩
    · rw [List.map_map, ← h]
      refine List.map_congr_left fun kv _ => ?_
      show (if kv.1 = Sum.inl k then (kv.1, v) else kv).1 = kv.1
      split <;> rfl
    · rcases z with rfl | z
      · have : (Sum.inl x : Key) ∈ keys.map (Sum.inl : Int → Key) := by rw [← h]; exact List.mem_map.mpr ⟨kv, h1, h2⟩
        obtain ⟨y, y1, y2⟩ := List.mem_map.mp this
        cases y2; exact y1
      · exact z
  · refine ⟨keys ++ [k], by rw [List.map_append, List.map_append, h]; rfl, fun x => ?_, by rw [List.length_append]; exact Nat.le_refl _⟩
    rw [List.mem_append, List.mem_singleton]
    exact ⟨fun z => z.elim .inr .inl, fun z => z.elim .inr .inl⟩
end My

namespace My
open PySem L2
theorem seq_all {s1 s2 : TS} {D : Ends} {σ : St} {H : Hp} (Mid : St → Hp → Prop) (h1 : ∀ D' : Ends, (∀ σ' H', Mid σ' H' → D'.nx σ' H') → s1 D' σ H) (h2 : ∀ σ' H', Mid σ' H' → s2 D σ' H') : tSeq s1 s2 D σ H := h1 _ h2
/-- a deed: a way, a place, a number -/
abbrev Deed := Int × Int × Int
def gD (d : Deed) : List V := [.int d.1, .int d.2.1, .int d.2.2]
def Do (d : Deed) (ns ms : List Int) : Prop := (d.1 = 0 ∧ ns.length < 1000 ∧ ms = ns ++ [d.2.2]) ∨ (d.1 = 1 ∧ 0 < ns.length ∧ ms = ns.dropLast) ∨ (d.1 = 2 ∧ ∃ p : Nat, d.2.1 = p ∧ p < ns.length ∧ ms = ns.set p d.2.2)
/-- kept rows in a list: the first i of them have the one row, the others the other one -/
structure KsAt (C : Addr) (H : Hp) (xs : List V) (ts : List Int) (i : Nat) (ms ns : List Int) : Prop where
  len : xs.length = ts.length
  nd : xs.Nodup
  row : ∀ j t, ts[j]? = some t → ∃ x p, xs[j]? = some (.ref x) ∧ KeptAt C H x p (if j < i then ms else ns) t
def OthK (xs : List V) (H H' : Hp) : Prop := ∀ b o, H b = some o → V.ref b ∉ xs → H' b = some o
theorem OthK.trans {xs : List V} {H H1 H2 : Hp} (a : OthK xs H H1) (b : OthK xs H1 H2) : OthK xs H H2 := fun c o e n => b c o (a c o e n) n
theorem OthK.of {xs : List V} {H H' : Hp} (s : Same H H') : OthK xs H H' := fun b o e _ => s b o e
theorem KsAt.same {C : Addr} {H H' : Hp} {xs : List V} {ts : List Int} {i : Nat} {ms ns : List Int} (h : KsAt C H xs ts i ms ns) (s : Same H H') : KsAt C H' xs ts i ms ns :=
  ⟨h.len, h.nd, fun j t e => let ⟨x, p, h1, h2⟩ := h.row j t e; ⟨x, p, h1, h2.same s⟩⟩
theorem KsAt.all {C : Addr} {H : Hp} {xs : List V} {ts : List Int} {ms ns : List Int} (h : KsAt C H xs ts ts.length ms ns) (os : List Int) : KsAt C H xs ts 0 os ms :=
  ⟨h.len, h.nd, fun j t e => by
    obtain ⟨x, p, h1, h2⟩ := h.row j t e
    rw [if_pos (List.getElem?_eq_some_iff.mp e).1] at h2
    exact ⟨x, p, h1, by rw [if_neg (Nat.not_lt_zero _)]; exact h2⟩⟩
theorem KsAt.ins {C : Addr} {H : Hp} {xs : List V} {ts : List Int} {i : Nat} {ms ns : List Int} (h : KsAt C H xs ts i ms ns) {b : Addr} (hb : V.ref b ∈ xs) : ∃ dx p t, H b = some (.ins C dx (flds p t)) := by
  obtain ⟨j, hj⟩ := List.mem_iff_getElem?.mp hb
  have hlt : j < ts.length := by rw [← h.len]; exact (List.getElem?_eq_some_iff.mp hj).1
  obtain ⟨x, p, e1, ⟨dx, e2⟩, _⟩ := h.row j _ (List.getElem?_eq_getElem hlt)
  rw [hj] at e1
  cases e1
  exact ⟨dx, p, _, e2⟩
theorem KsAt.nl {C : Addr} {H : Hp} {xs zs : List V} {ts : List Int} {i : Nat} {ms ns : List Int} {b : Addr} (h : KsAt C H xs ts i ms ns) (e : H b = some (.lst zs)) : V.ref b ∉ xs := fun hb => by
  obtain ⟨dx, p, t, e'⟩ := h.ins hb
  rw [e] at e'; cases e'
theorem KsAt.nt {C : Addr} {H : Hp} {xs zs : List V} {ts : List Int} {i : Nat} {ms ns : List Int} {b : Addr} (h : KsAt C H xs ts i ms ns) (e : H b = some (.tup zs)) : V.ref b ∉ xs := fun hb => by
  obtain ⟨dx, p, t, e'⟩ := h.ins hb
  rw [e] at e'; cases e'
theorem KsAt.step {C : Addr} {H H' : Hp} {xs : List V} {ts : List Int} {i : Nat} {ms ns : List Int} {x q : Addr} {t : Int} (h : KsAt C H xs ts i ms ns) (hx : xs[i]? = some (.ref x)) (ht : ts[i]? = some t) (KA : ∃ p, KeptAt C H x p ns t) (KB : KeptAt C H' x q ms t) (k : Kp x H H') : KsAt C H' xs ts (i + 1) ms ns := by
  obtain ⟨p0, KA⟩ := KA
  refine ⟨h.len, h.nd, fun j u e => ?_⟩
  by_cases hj : j = i
  · subst hj
    rw [ht] at e
    cases e
    exact ⟨x, q, hx, by rw [if_pos (Nat.lt_succ_self _)]; exact KB⟩
  · obtain ⟨y, p, e1, e2⟩ := h.row j u e
    have ny : y ≠ x := fun z => by
      subst z
      exact hj ((List.getElem?_inj (List.getElem?_eq_some_iff.mp e1).1 h.nd).mp (e1.trans hx.symm))
    refine ⟨y, p, e1, ?_⟩
    have ei : (if j < i + 1 then ms else ns) = if j < i then ms else ns := by
      by_cases z : j < i
      · rw [if_pos z, if_pos (by omega)]
      · rw [if_neg z, if_neg (by omega)]
    rw [ei]
    obtain ⟨⟨dx, e3⟩, e4⟩ := e2
    exact ⟨⟨dx, k _ _ e3 ny⟩, k _ _ e4.1 (KA.nt e4.1), e4.2⟩
theorem OthK.step {xs : List V} {i : Nat} {H H1 H2 : Hp} {x : Addr} (a : OthK xs H H1) (hx : xs[i]? = some (.ref x)) (k : Kp x H1 H2) : OthK xs H H2 := fun b o e n => k b o (a b o e n) fun z => n (by rw [z]; exact List.mem_of_getElem? hx)
theorem sum_take {ts : List Int} {i : Nat} {t : Int} (f : Int → Int) (h : ts[i]? = some t) : ((ts.take (i + 1)).map f).sum = ((ts.take i).map f).sum + f t := by
  rw [List.take_add_one, h, List.map_append, List.sum_append]
  simp
def grown (ts ns ms : List Int) : Int := (ts.map fun t => cnt ms t - cnt ns t).sum
def spGrown (C : Addr) : Sp := fun vs H Q _ => ∃ (l a : Addr) (xs : List V) (ts ns ms : List Int) (d : Deed), vs = [.ref l, .ref a] ∧ H l = some (.lst xs) ∧ H a = some (.tup (gD d)) ∧ KsAt C H xs ts 0 ms ns ∧ Do d ns ms ∧ ∀ H', KsAt C H' xs ts ts.length ms ns → OthK xs H H' → Q (.int (grown ts ns ms)) H'
section
variable {P : Program} {w : World} {K : PySem.W.Frag} {mg : Str → Option Value} {base : Heap}
abbrev s_law_grown : Stmt := top 20
theorem sc_law_grown : FnScope ["kept", "deed", "way", "place", "number", "grown", "one"] ["kept", "deed"] (defScope s_law_grown) := ⟨rfl, rfl, rfl, by decide +kernel, rfl, by decide +kernel, by decide +kernel⟩
theorem ok_law_grown {f C f1 f2 f3 : Addr} {fd fd1 fd2 fd3 : FuncData} (F : Fun K "_law_grown" "_law_grown" s_law_grown f fd) (TC : TxtC K mg C) (M_put_number : MethAt K C "put_number" "KeptRow.put_number" s_put_number ["self", "number"] f1 fd1) (G_put_number : FnOk P w K mg base CX0 7 f1 fd1 ["self", "number"] (spPut C))
    (M_take_number : MethAt K C "take_number" "KeptRow.take_number" s_take_number ["self"] f2 fd2) (G_take_number : FnOk P w K mg base CX0 7 f2 fd2 ["self"] (spTake' C)) (M_lead_number : MethAt K C "lead_number" "KeptRow.lead_number" s_lead_number ["self", "place", "number"] f3 fd3) (G_lead_number : FnOk P w K mg base CX0 7 f3 fd3 ["self", "place", "number"] (spLead C)) :
    FnOk P w K mg base CX0 8 f fd ["kept", "deed"] (spGrown C) := by
  refine F.ok sc_law_grown (fun vs H Q E h => ?_) (fun cdv A outer s H vs Q E hr h => ?_)
  · obtain ⟨l, a, xs, ts, ns, ms, d, rfl, _⟩ := h
    rfl
  · obtain ⟨l, a, xs, ts, ns, ms, ⟨w, pl, n⟩, rfl, hl, ha, KS, hd, k⟩ := h
    refine ⟨_, (pss_cons (ps_asg (pv 1) (pgT (K := K) (n := 3) rfl rfl (pgs_cons (pg_name (i := 2) sc_law_grown.nd rfl (Or.inl rfl)) (pgs_cons (pg_name (i := 3) sc_law_grown.nd rfl (Or.inl rfl)) (pgs_cons (pg_name (i := 4) sc_law_grown.nd rfl (Or.inl rfl)) pgs_nil)))))
      (pss_cons (ps_set (i := 5) sc_law_grown.nd rfl (Or.inl rfl) pe_int)
      (pss_cons (ps_for PassesOwn.never rfl (piL (K := K) rfl (pv 0)) (pg_name (i := 6) sc_law_grown.nd rfl (Or.inl rfl))
        (pss_one (ps_if (pt_cmpR op_eq (pv 2) pe_int (nomark _))
          (pss_one (ps_set (i := 5) sc_law_grown.nd rfl (Or.inl rfl) (pe_op op_add (pv 5) (pe_meth (pv 6) TC.cl M_put_number.mt G_put_number (hr.mono (by first | decide | exact Nat.le_refl _)) M_put_number.bd .nil pass0 (pa_cons (pv 4) pa_nil)))))
          (pss_one (ps_if (pt_cmpR op_eq (pv 2) pe_int (nomark _))
            (pss_one (ps_set (i := 5) sc_law_grown.nd rfl (Or.inl rfl) (pe_op op_add (pv 5) (pe_meth0 (pv 6) TC.cl M_take_number.mt G_take_number (hr.mono (by first | decide | exact Nat.le_refl _)) M_take_number.bd .nil pass0))))
            (pss_one (ps_set (i := 5) sc_law_grown.nd rfl (Or.inl rfl) (pe_op op_add (pv 5) (pe_meth (pv 6) TC.cl M_lead_number.mt G_lead_number (hr.mono (by first | decide | exact Nat.le_refl _)) M_lead_number.bd .nil pass0 (pa_cons (pv 3) (pa_cons (pv 4) pa_nil)))))))))))
      (pss_one (ps_ret (pv 5)))))), ?_⟩
    refine ⟨_, rfl, a, _, rfl, SqT.of ha, rfl, _, _, rfl, _, _, rfl, _, _, rfl, rfl, ?_⟩
    refine ⟨_, rfl, l, rfl, ⟨_, SqL.of hl⟩, for_list (xs := xs) (fun i σ H' => ∃ v6, σ = [some (.ref l), some (.ref a), some (.int w), some (.int pl), some (.int n), some (.int (((ts.take i).map fun t => cnt ms t - cnt ns t).sum)), v6] ∧ KsAt C H' xs ts i ms ns ∧ OthK xs H H') ?_ ?_ ?_ ?_⟩
    · exact ⟨none, rfl, KS, fun b o e _ => e⟩
    · rintro i σ H' _ ⟨v6, rfl, _, OK⟩
      exact SqL.of (OK _ _ hl (KS.nl hl))
    · rintro i y σ H' hy ⟨v6, rfl, KI, OK⟩
      have hi : i < ts.length := by rw [← KS.len]; exact (List.getElem?_eq_some_iff.mp hy).1
      have ht := List.getElem?_eq_getElem hi
      generalize ts[i] = t at ht
      obtain ⟨x, p, e1, KA⟩ := KI.row i t ht
      rw [if_neg (Nat.lt_irrefl _)] at KA
      rw [hy] at e1
      have e1 : y = .ref x := Option.some.inj e1
      subst e1
      obtain ⟨dx, hx⟩ := KA.ob
      have no : ∀ {m : Str}, ¬ m = "total" → ¬ m = "numbers" → (flds p t).lookup m = none := fun h1 h2 => flds_no _ _ h1 h2
      have fin : ∀ (q : Addr) (H2 : Hp), KeptAt C H2 x q ms t → Kp x H' H2 → ∃ v6', [some (V.ref l), some (.ref a), some (.int w), some (.int pl), some (.int n), some (.int (((ts.take i).map fun t => cnt ms t - cnt ns t).sum + (cnt ms t - cnt ns t))), some (.ref x)] = [some (.ref l), some (.ref a), some (.int w), some (.int pl), some (.int n), some (.int (((ts.take (i + 1)).map fun t => cnt ms t - cnt ns t).sum)), v6'] ∧ KsAt C H2 xs ts (i + 1) ms ns ∧ OthK xs H H2 := fun q H2 KB k2 => by
        refine ⟨some (.ref x), ?_, KI.step hy ht ⟨p, KA⟩ KB k2, OK.step hy k2⟩
        rw [sum_take (fun t => cnt ms t - cnt ns t) ht]
      rcases hd with ⟨e, hl', rfl⟩ | ⟨e, hl', rfl⟩ | ⟨e, p2, e2, hl', rfl⟩
      · have e : w = 0 := e
        subst e
        refine ⟨_, rfl, rfl, _, rfl, iteT ?_⟩
        exact ⟨_, rfl, _, rfl, x, dx, _, rfl, hx, no (by decide +kernel) (by decide +kernel), _, rfl, x, p, ns, t, _, rfl, KA, hl', fun q H2 KB k2 => ⟨_, _, rfl, rfl, fin q H2 KB k2⟩⟩
      · have e : w = 1 := e
        subst e
        refine ⟨_, rfl, rfl, _, rfl, iteF ⟨_, rfl, rfl, _, rfl, iteT ?_⟩⟩
        exact ⟨_, rfl, _, rfl, x, dx, _, rfl, hx, no (by decide +kernel) (by decide +kernel), x, p, ns, t, rfl, KA, hl', fun q H2 KB k2 => ⟨_, _, rfl, rfl, fin q H2 KB k2⟩⟩
      · have e : w = 2 := e
        subst e
        have e2 : pl = (p2 : Int) := e2
        subst e2
        refine ⟨_, rfl, rfl, _, rfl, iteF ⟨_, rfl, rfl, _, rfl, iteF ?_⟩⟩
        exact ⟨_, rfl, _, rfl, x, dx, _, rfl, hx, no (by decide +kernel) (by decide +kernel), _, rfl, _, rfl, x, p, ns, t, _, p2, rfl, KA, hl', fun q H2 KB k2 => ⟨_, _, rfl, rfl, fin q H2 KB k2⟩⟩
    · rintro σ H' ⟨v6, rfl, KI, OK⟩
      rw [KS.len] at KI
      refine ⟨_, rfl, ?_⟩
      rw [KS.len, List.take_length]
      exact k H' KI OK
end
end My

namespace My
open PySem L2
theorem same_new {H : Hp} {x dx : Addr} {o o' : HO} (nx : H x = none) (ndx : H dx = none) : Same H (upd (upd H dx o') x o) := fun b ob e => by rw [upd_ne (ne_of_none e nx), upd_ne (ne_of_none e ndx)]; exact e
def spLaw (K : PySem.W.Frag) : Sp := fun vs H Q _ => ∃ (a : Addr) (ns : List Int), vs = [.ref a] ∧ SqL K H a (ns.map V.int) ∧ ns.length ≤ 63 ∧ ∀ H', Q (.bl true) H'
theorem KsAt.kept {C : Addr} {H H' : Hp} {xs : List V} {ts : List Int} {i : Nat} {ms ns : List Int} (h : KsAt C H xs ts i ms ns) (k : ∀ b o, H b = some o → (∀ zs, o ≠ .lst zs) → H' b = some o) : KsAt C H' xs ts i ms ns :=
  ⟨h.len, h.nd, fun j t e => by
    obtain ⟨x, p, h1, ⟨dx, h2⟩, h3⟩ := h.row j t e
    exact ⟨x, p, h1, ⟨dx, k _ _ h2 (fun zs z => by cases z)⟩, ⟨k _ _ h3.1 (fun zs z => by cases z), h3.2⟩⟩⟩
theorem KsAt.snoc {C : Addr} {H : Hp} {xs : List V} {ts : List Int} {ms ns : List Int} {x p : Addr} {t : Int} (h : KsAt C H xs ts 0 ms ns) (hx : V.ref x ∉ xs) (KA : KeptAt C H x p ns t) : KsAt C H (xs ++ [.ref x]) (ts ++ [t]) 0 ms ns := by
  refine ⟨by rw [List.length_append, List.length_append, h.len]; rfl, ?_, fun j u e => ?_⟩
  · rw [List.nodup_append]
    refine ⟨h.nd, List.nodup_cons.mpr ⟨by simp, List.nodup_nil⟩, fun a ha b hb e => ?_⟩
    rw [List.mem_singleton] at hb
    subst hb; subst e
    exact hx ha
  · by_cases hj : j < ts.length
    · rw [List.getElem?_append_left hj] at e
      obtain ⟨y, q, e1, e2⟩ := h.row j u e
      exact ⟨y, q, by rw [List.getElem?_append_left (by rw [h.len]; exact hj)]; exact e1, e2⟩
    · rw [List.getElem?_append_right (by omega)] at e
      have hz : j - ts.length = 0 := by
        have := (List.getElem?_eq_some_iff.mp e).1
        simp only [List.length_cons, List.length_nil] at this
        omega
      rw [hz] at e
      have e : t = u := by simpa using e
      subst e
      exact ⟨x, p, by rw [List.getElem?_append_right (by rw [h.len]; omega), h.len, hz]; rfl, by rw [if_neg (Nat.not_lt_zero _)]; exact KA⟩
theorem KsAt.size {C : Addr} {H : Hp} {xs : List V} {ts : List Int} {i : Nat} {ms ns : List Int} (h : KsAt C H xs ts i ms ns) (hl : ts.length ≤ 4000) : xs.length ≤ 1000000 := by rw [h.len]; omega
theorem flat_ints (ns : List Int) : (ns.map V.int).all flatV = true := by
  rw [List.all_eq_true]; intro x hx; obtain ⟨i, _, rfl⟩ := List.mem_map.mp hx; rfl
theorem fs_take {ns ts : List Int} {i : Nat} {t : Int} (h : ts[i]? = some t) : fsOf ns (ts.take (i + 1)) = fsOf ns (ts.take i) ++ (match firstOf (hitsBy ns (eqT t)) with | none => [] | some p => [p]) := by
  unfold fsOf
  rw [List.take_add_one, h, List.filterMap_append]
  show _ ++ List.filterMap _ [t] = _
  rw [List.filterMap_cons]
  cases firstOf (hitsBy ns (eqT t)) <;> rfl
theorem tups_paired {H : Hp} {xs : List V} {cs : List (Nat × Nat)} (h : TupsAt g2 H xs cs) : Paired (HPr H) xs cs := by
  have go : ∀ (xs : List V) (cs : List (Nat × Nat)), TupsAt g2 H xs cs → Paired (HPr H) xs cs := by
    intro xs
    induction xs with
    | nil =>
      intro cs h
      cases cs with
      | nil => exact .nil
      | cons _ _ => have := h.1; simp at this
    | cons x xs ih =>
      intro cs h
      cases cs with
      | nil => have := h.1; simp at this
      | cons c cs =>
        obtain ⟨a, e1, e2⟩ := h.2 0 c rfl
        have e1 : x = .ref a := by simpa using e1
        refine .cons ⟨a, e1, e2⟩ (ih cs ⟨by have := h.1; simpa using this, fun i p e => ?_⟩)
        have := h.2 (i + 1) p (by simpa using e)
        simpa using this
  exact go xs cs h
theorem prs_small {n : Nat} (h : n ≤ 21) : (prs n).length ≤ 231 := by
  have e := prsTo_cnt n n (Nat.le_refl _)
  have h2 : n * n ≤ 21 * 21 := Nat.mul_le_mul h h
  unfold prs
  generalize n * n = y at e h2
  omega
theorem keys_len {kvs : List (Key × V)} {keys : List Int} (h : kvs.map (·.1) = keys.map Sum.inl) : kvs.length = keys.length := by
  have := congrArg List.length h
  simpa using this
theorem KsAt.any {C : Addr} {H : Hp} {xs : List V} {ts ms ns : List Int} (h : KsAt C H xs ts 0 ms ns) (os : List Int) : KsAt C H xs ts 0 os ns :=
  ⟨h.len, h.nd, fun j t e => by
    obtain ⟨x, p, h1, h2⟩ := h.row j t e
    rw [if_neg (Nat.not_lt_zero _)] at h2
    exact ⟨x, p, h1, by rw [if_neg (Nat.not_lt_zero _)]; exact h2⟩⟩
/-- the sum of what is told of each -/
theorem KsAt.cnts {C : Addr} {K : PySem.W.Frag} {H : Hp} {l ac : Addr} {xs : List V} {ts ms ns : List Int} {b : TB} {g : TG} {t : TT} {N : St → Hp → Prop} (KS : KsAt C H xs ts 0 ms ns) (hl : H l = some (.lst xs)) (hac : H ac = none) (htl : ts.length ≤ 4000)
    (hb : ∀ (x : Addr) (p : Addr) (v : Option V) (t' : Int) (H' : Hp) (zs : List V) (R : St → Hp → Prop), KeptAt C H' x p ns t' → H' ac = some (.lst zs) → zs.length < 1000000 → (∀ H2, Same H' H2 → R [some (.ref x)] (upd H2 ac (.lst (zs ++ [.int (cnt ns t')])))) → g (.ref x) [v] H' fun σ2 H2 => t σ2 H2 fun k H3 => if k = true then b σ2 H3 R else R σ2 H3)
    (hd : ∀ (v : Option V) (H' : Hp), H' ac = some (.lst ((ts.map (cnt ns)).map V.int)) → Same H H' → N [v] H') : bWalk (Itl K l) g t b N [none] (upd H ac (.lst [])) := by
  refine walk_list (xs := xs) (fun i σ H' => ∃ (v : Option V), σ = [v] ∧ H' ac = some (.lst (((ts.take i).map (cnt ns)).map V.int)) ∧ Same H H') ?_ ?_ ?_ ?_
  · exact ⟨none, rfl, upd_same, Same.lay hac⟩
  · rintro i σ H' _ ⟨v, rfl, ha, S'⟩
    exact SqL.of (S' _ _ hl)
  · rintro i y σ H' hy ⟨v, rfl, ha, S'⟩
    have hi : i < ts.length := by rw [← KS.len]; exact (List.getElem?_eq_some_iff.mp hy).1
    have ht := List.getElem?_eq_getElem hi
    generalize ts[i] = t' at ht
    obtain ⟨x, p, e1, KA⟩ := KS.row i t' ht
    rw [if_neg (Nat.not_lt_zero _)] at KA
    rw [hy] at e1
    have e1 : y = .ref x := Option.some.inj e1
    subst e1
    refine hb x p v t' H' _ _ (KA.same S') ha (by rw [List.length_map, List.length_map, List.length_take]; omega) fun H2 S2 => ⟨_, rfl, ?_, fun b o e => by rw [upd_ne (ne_of_none e hac)]; exact S2 _ _ (S' _ _ e)⟩
    rw [upd_same, take_succ ht, List.map_append, List.map_append]; rfl
  · rintro σ H' ⟨v, rfl, ha, S'⟩
    rw [KS.len, List.take_length] at ha
    exact hd v H' ha S'
section
variable {P : Program} {w : World} {K : PySem.W.Frag} {mg : Str → Option Value} {base : Heap}
abbrev s_law : Stmt := top 21
theorem sc_law : FnScope ["script", "row", "number", "new", "place", "led", "longer", "other", "totals", "some", "low", "high", "total", "kept", "many", "firsts"] ["script"] (defScope s_law) := ⟨rfl, rfl, rfl, by decide +kernel, rfl, by decide +kernel, by decide +kernel⟩
theorem ok_law {f C f1 f2 f3 f5 f7 f8 f9 f11 f12 f13 f14 f15 m1 m2 m3 m4 m5 m6 m7 m8 : Addr} {fd fd1 fd2 fd3 fd5 fd7 fd8 fd9 fd11 fd12 fd13 fd14 fd15 md1 md2 md3 md4 md5 md6 md7 md8 : FuncData} (F : Fun K "law" "law" s_law f fd) (T : Txt mg) (TC : TxtC K mg C) (MK : Mk K C m1)
    (M_init : MethAt K C "__init__" "KeptRow.__init__" s_init ["self", "row", "total"] m1 md1) (M_put_number : MethAt K C "put_number" "KeptRow.put_number" s_put_number ["self", "number"] m2 md2) (M_take_number : MethAt K C "take_number" "KeptRow.take_number" s_take_number ["self"] m3 md3)
    (M_lead_number : MethAt K C "lead_number" "KeptRow.lead_number" s_lead_number ["self", "place", "number"] m4 md4) (M_change_to : MethAt K C "change_to" "KeptRow.change_to" s_change_to ["self", "row"] m5 md5) (M_row_now : MethAt K C "row_now" "KeptRow.row_now" s_row_now ["self"] m6 md6)
    (M_count_now : MethAt K C "count_now" "KeptRow.count_now" s_count_now ["self"] m7 md7) (M_first_now : MethAt K C "first_now" "KeptRow.first_now" s_first_now ["self"] m8 md8)
    (D_sums_ahead : DefAt K mg "sums_ahead" s_sums_ahead ["row"] f1 fd1) (D_stretches_of : DefAt K mg "stretches_of" s_stretches_of ["row"] f2 fd2) (D_summed_stretches : DefAt K mg "summed_stretches" s_summed_stretches ["row"] f3 fd3) (D_first_of : DefAt K mg "first_of" s_first_of ["stretches"] f5 fd5)
    (D_all_with : DefAt K mg "all_with" s_all_with ["row", "total"] f7 fd7) (D_count_with : DefAt K mg "count_with" s_count_with ["row", "total"] f8 fd8) (D_first_with : DefAt K mg "first_with" s_first_with ["row", "total"] f9 fd9) (D_row_led : DefAt K mg "row_led" s_row_led ["row", "place", "number"] f11 fd11)
    (D__law_number : DefAt K mg "_law_number" s_law_number ["script", "k"] f12 fd12) (D__law_row : DefAt K mg "_law_row" s_law_row ["script", "start", "most"] f13 fd13) (D__law_stretches : DefAt K mg "_law_stretches" s_law_stretches ["row"] f14 fd14) (D__law_grown : DefAt K mg "_law_grown" s_law_grown ["kept", "deed"] f15 fd15) :
    FnOk P w K mg base CX0 9 f fd ["script"] (spLaw K) := by
  have G_summed_stretches : FnOk P w K mg base CX0 2 f3 fd3 ["row"] spSummed := ok_summed_stretches D_summed_stretches.fn T D_sums_ahead D_stretches_of
  have G_all_with : FnOk P w K mg base CX0 3 f7 fd7 ["row", "total"] spAll := ok_all_with D_all_with.fn T D_summed_stretches G_summed_stretches
  have G_count_with : FnOk P w K mg base CX0 4 f8 fd8 ["row", "total"] spCount := ok_count_with D_count_with.fn T D_all_with G_all_with
  have G_first_of : FnOk P w K mg base CX0 2 f5 fd5 ["stretches"] (spPick firstOf) := ok_first_of D_first_of.fn T
  have G_first_with : FnOk P w K mg base CX0 4 f9 fd9 ["row", "total"] (spAllOpt firstOf) := ok_first_with D_first_with.fn T D_all_with G_all_with D_first_of G_first_of
  have G_init : FnOk P w K mg base CX0 1 m1 md1 ["self", "row", "total"] (spInit C) := ok_init M_init.fn T TC
  have G_row_now : FnOk P w K mg base CX0 1 m6 md6 ["self"] (spRowNow C) := ok_row_now M_row_now.fn TC
  have G_count_now : FnOk P w K mg base CX0 5 m7 md7 ["self"] (spCountNow C) := ok_count_now M_count_now.fn TC D_count_with G_count_with
  have G_first_now : FnOk P w K mg base CX0 5 m8 md8 ["self"] (spOptNow C firstOf) := ok_first_now M_first_now.fn TC D_first_with G_first_with
  have G_change_to : FnOk P w K mg base CX0 6 m5 md5 ["self", "row"] (spChange C) := ok_change_to M_change_to.fn TC M_count_now G_count_now
  have G_put_number : FnOk P w K mg base CX0 7 m2 md2 ["self", "number"] (spPut C) := ok_put_number M_put_number.fn TC M_change_to G_change_to
  have G_take_number : FnOk P w K mg base CX0 7 m3 md3 ["self"] (spTake' C) := ok_take_number M_take_number.fn TC M_change_to G_change_to
  have G_lead_number : FnOk P w K mg base CX0 7 m4 md4 ["self", "place", "number"] (spLead C) := ok_lead_number M_lead_number.fn T TC M_change_to G_change_to D_row_led
  have G__law_number : FnOk P w K mg base CX0 1 f12 fd12 ["script", "k"] (spNum K) := ok_number D__law_number.fn T
  have G__law_row : FnOk P w K mg base CX0 2 f13 fd13 ["script", "start", "most"] (spRow K) := ok_row D__law_row.fn T D__law_number
  have G__law_stretches : FnOk P w K mg base CX0 1 f14 fd14 ["row"] spLStr := ok_law_stretches D__law_stretches.fn T
  have G__law_grown : FnOk P w K mg base CX0 8 f15 fd15 ["kept", "deed"] (spGrown C) := ok_law_grown D__law_grown.fn TC M_put_number G_put_number M_take_number G_take_number M_lead_number G_lead_number
  refine F.ok sc_law (fun vs H Q E h => ?_) (fun cdv A outer s H vs Q E hr h => ?_)
  · obtain ⟨a, ns, rfl, _⟩ := h
    rfl
  · obtain ⟨a, scr, rfl, hS0, hlen, k⟩ := h
    have hu := hr.units0
    have hu64 := hr.units
    have hu2 := (Room.in1 (k := 7) hr).units0
    have hS : Scr K H a scr := ⟨hS0, hlen⟩
    refine ⟨_, (pss_cons (ps_set (i := 1) sc_law.nd rfl (Or.inr rfl) (pe_call G__law_row (hr.mono (by first | decide | exact Nat.le_refl _)) rfl D__law_row.mg D__law_row.fn.kp D__law_row.bd .nil pass0 (pa_cons (pv 0) (pa_cons pe_int (pa_cons pe_int pa_nil)))))
      (pss_cons (ps_set (i := 2) sc_law.nd rfl (Or.inl rfl) (pe_call G__law_number (hr.mono (by first | decide | exact Nat.le_refl _)) rfl D__law_number.mg D__law_number.fn.kp D__law_number.bd .nil pass0 (pa_cons (pv 0) (pa_cons pe_int pa_nil))))
      (pss_cons (ps_set (i := 3) sc_law.nd rfl (Or.inl rfl) (pe_ix (ixL (K := K) rfl) (pe_lst (pa_cons (pe_op op_sub (pe_op op_mod (pv 2) pe_int) pe_int) (pa_cons (pe_op op_mul (pe_op op_sub (pv 2) pe_int) (pe_op op_pow pe_int pe_int)) (pa_cons pe_int (pa_cons (pe_ix (ixT (K := K) rfl) (pe_op oCatB (pv 1) (pe_tup (pa_cons pe_int pa_nil))) pe_int (fun _ _ => rfl)) pa_nil))))) (pe_op op_mod (pe_call G__law_number (hr.mono (by first | decide | exact Nat.le_refl _)) rfl D__law_number.mg D__law_number.fn.kp D__law_number.bd .nil pass0 (pa_cons (pv 0) (pa_cons pe_int pa_nil))) pe_int) (fun _ _ => rfl)))
      (pss_cons (ps_set (i := 4) sc_law.nd rfl (Or.inl rfl) (pe_op op_mod (pe_call G__law_number (hr.mono (by first | decide | exact Nat.le_refl _)) rfl D__law_number.mg D__law_number.fn.kp D__law_number.bd .nil pass0 (pa_cons (pv 0) (pa_cons pe_int pa_nil))) (pe_op op_add (pe_callB (cLen (K := K) rfl) (by rfl) T.b_len PyProof.Rows.Boot.«len» (pa_cons (pv 1) pa_nil)) pe_int)))
      (pss_cons (ps_set (i := 5) sc_law.nd rfl (Or.inl rfl) (pe_ix (ixL (K := K) rfl) (pe_lst (pa_cons (pe_op op_sub (pe_op op_mod (pe_call G__law_number (hr.mono (by first | decide | exact Nat.le_refl _)) rfl D__law_number.mg D__law_number.fn.kp D__law_number.bd .nil pass0 (pa_cons (pv 0) (pa_cons pe_int pa_nil))) pe_int) pe_int) (pa_cons pe_int pa_nil))) (pe_op op_mod (pv 2) pe_int) (fun _ _ => rfl)))
      (pss_cons (ps_set (i := 6) sc_law.nd rfl (Or.inl rfl) (pe_op oCatB (pv 1) (pe_tup (pa_cons (pv 3) pa_nil))))
      (pss_cons (ps_set (i := 7) sc_law.nd rfl (Or.inr rfl) (pe_op oCatB (pe_op oCatB (pe_slice slTB (pv 6) po_none (po_some (pv 4))) (pe_tup (pa_cons (pv 5) pa_nil))) (pe_slice slTB (pv 6) (po_some (pe_op op_add (pv 4) pe_int)) po_none)))
      (pss_cons (ps_set (i := 8) sc_law.nd rfl (Or.inl rfl) pe_dnewK)
      (pss_cons (ps_for PassesOwn.never rfl (piT (K := K) rfl (pe_tup (pa_cons (pv 1) (pa_cons (pv 6) (pa_cons (pv 7) (pa_cons (pe_slice slTB (pv 7) po_none (po_some (pe_un un_neg pe_int))) pa_nil)))))) (pg_name (i := 9) sc_law.nd rfl (Or.inl rfl))
        (pss_one (ps_for PassesOwn.never rfl (piL (K := K) rfl (pe_call G__law_stretches (hr.mono (by first | decide | exact Nat.le_refl _)) rfl D__law_stretches.mg D__law_stretches.fn.kp D__law_stretches.bd .nil pass0 (pa_cons (pv 9) pa_nil))) (pgT (K := K) (n := 3) rfl rfl (pgs_cons (pg_name (i := 10) sc_law.nd rfl (Or.inl rfl)) (pgs_cons (pg_name (i := 11) sc_law.nd rfl (Or.inl rfl)) (pgs_cons (pg_name (i := 12) sc_law.nd rfl (Or.inl rfl)) pgs_nil))))
          (pss_one (ps_dput hu2 (pv 8) (pv 12) pe_bl rfl)))))
      (pss_cons (ps_dput hu2 (pv 8) (pe_op op_sub (pe_op op_pow pe_int pe_int) pe_int) pe_bl rfl)
      (pss_cons (ps_setComp (i := 13) (hN := sc_law.nd) (hy := rfl) (hx := rfl) (N := ["total", "row"]) (cap := [none, some 1]) (hc := rfl) (hok := (show blkOk ["script", "row", "number", "new", "place", "led", "longer", "other", "totals", "some", "low", "high", "total", "kept", "many", "firsts"] (defScope s_law) ["total", "row"] [none, some 1] _ = true by decide +kernel) ) (hi := (piL (K := K) rfl (pe_callB (call_sortDK rfl) (by rfl) T.b_sorted PyProof.Rows.Boot.«sorted» (pa_cons (pv 8) pa_nil)))) (hb := fun cl C s3 H3 fp => ⟨(pg_name (i := 0) (show (["total", "row"] : List Str).Nodup by decide +kernel) rfl (Or.inl rfl)), pts_nil, fun it acc => (paf_emit rfl (pe_make MK G_init (hr.mono (by first | decide | exact Nat.le_refl _)) rfl TC.mgC M_init.bd .nil pass0 (pa_cons (pv 1) (pa_cons (pv 0) pa_nil))))⟩))
      (pss_cons (ps_set (i := 14) sc_law.nd rfl (Or.inl rfl) (pe_callB (cLen (K := K) rfl) (by rfl) T.b_len PyProof.Rows.Boot.«len» (pa_cons (pv 1) pa_nil)))
      (pss_cons (ps_if (PW.pt (pw_or (pt_cmpR op_ne (pe_callB (cSum (K := K) rfl rfl false) (by rfl) T.b_sum PyProof.Rows.Boot.«sum» (pa_cons (pe_comp (N := ["one"]) (cap := [none]) rfl (show blkOk ["script", "row", "number", "new", "place", "led", "longer", "other", "totals", "some", "low", "high", "total", "kept", "many", "firsts"] (defScope s_law) ["one"] [none] _ = true by decide +kernel) (piL (K := K) rfl (pv 13)) (fun cl C s3 H3 fp => ⟨(pg_name (i := 0) (show (["one"] : List Str).Nodup by decide +kernel) rfl (Or.inl rfl)), pts_nil, fun it acc => (paf_emit rfl (pe_meth0 (pv 0) TC.cl M_count_now.mt G_count_now (hr.mono (by first | decide | exact Nat.le_refl _)) M_count_now.bd .nil pass0))⟩)) pa_nil)) (pe_op op_fdiv (pe_op op_mul (pv 14) (pe_op op_add (pv 14) pe_int)) pe_int) (nomark _)) (pw_or1 (pt_cmpR op_ne (pe_meth0 (pe_ix (ixL (K := K) rfl) (pv 13) (pe_un un_neg pe_int) (fun _ _ => rfl)) TC.cl M_count_now.mt G_count_now (hr.mono (by first | decide | exact Nat.le_refl _)) M_count_now.bd .nil pass0) pe_int (nomark _)))))
        (pss_one (ps_ret pe_bl))
        pss_nil)
      (pss_cons (ps_if (PW.pt (pw_or (pt_cmpR op_ne (pe_call G__law_grown (hr.mono (by first | decide | exact Nat.le_refl _)) rfl D__law_grown.mg D__law_grown.fn.kp D__law_grown.bd .nil pass0 (pa_cons (pv 13) (pa_cons (pe_tup (pa_cons pe_int (pa_cons pe_int (pa_cons (pv 3) pa_nil)))) pa_nil))) (pe_op op_add (pv 14) pe_int) (nomark _)) (pw_or1 (pt_cmpR op_ne (pe_call G__law_grown (hr.mono (by first | decide | exact Nat.le_refl _)) rfl D__law_grown.mg D__law_grown.fn.kp D__law_grown.bd .nil pass0 (pa_cons (pv 13) (pa_cons (pe_tup (pa_cons pe_int (pa_cons (pv 4) (pa_cons (pv 5) pa_nil)))) pa_nil))) pe_int (nomark _)))))
        (pss_one (ps_ret pe_bl))
        pss_nil)
      (pss_cons (ps_if (pt_cmpR op_ne (pe_callB (cSum (K := K) rfl rfl false) (by rfl) T.b_sum PyProof.Rows.Boot.«sum» (pa_cons (pe_comp (N := ["one"]) (cap := [none]) rfl (show blkOk ["script", "row", "number", "new", "place", "led", "longer", "other", "totals", "some", "low", "high", "total", "kept", "many", "firsts"] (defScope s_law) ["one"] [none] _ = true by decide +kernel) (piL (K := K) rfl (pv 13)) (fun cl C s3 H3 fp => ⟨(pg_name (i := 0) (show (["one"] : List Str).Nodup by decide +kernel) rfl (Or.inl rfl)), pts_nil, fun it acc => (paf_emit rfl (pe_meth0 (pv 0) TC.cl M_count_now.mt G_count_now (hr.mono (by first | decide | exact Nat.le_refl _)) M_count_now.bd .nil pass0))⟩)) pa_nil)) (pe_op op_fdiv (pe_op op_mul (pe_op op_add (pv 14) pe_int) (pe_op op_add (pv 14) pe_int)) pe_int) (nomark _))
        (pss_one (ps_ret pe_bl))
        pss_nil)
      (pss_cons (ps_if (PW.pt (pw_or (pt_cmpR op_ne (pe_call G__law_grown (hr.mono (by first | decide | exact Nat.le_refl _)) rfl D__law_grown.mg D__law_grown.fn.kp D__law_grown.bd .nil pass0 (pa_cons (pv 13) (pa_cons (pe_tup (pa_cons pe_int (pa_cons pe_int (pa_cons pe_int pa_nil)))) pa_nil))) (pe_op op_sub (pe_op op_sub pe_int (pv 14)) pe_int) (nomark _)) (pw_or1 (pt_cmpR (oNeNil (K := K) rfl hu) (pe_comp (N := ["one", "other"]) (cap := [none, some 7]) rfl (show blkOk ["script", "row", "number", "new", "place", "led", "longer", "other", "totals", "some", "low", "high", "total", "kept", "many", "firsts"] (defScope s_law) ["one", "other"] [none, some 7] _ = true by decide +kernel) (piL (K := K) rfl (pv 13)) (fun cl C s3 H3 fp => ⟨(pg_name (i := 0) (show (["one", "other"] : List Str).Nodup by decide +kernel) rfl (Or.inl rfl)), (pts_one (pt_cmpR (oNe (K := K) rfl true hu) (pe_meth0 (pv 0) TC.cl M_row_now.mt G_row_now (hr.mono (by first | decide | exact Nat.le_refl _)) M_row_now.bd .nil pass0) (pe_slice slTB (pv 1) po_none (po_some (pe_un un_neg pe_int))) (nomark _))), fun it acc => (paf_emit rfl (pv 0))⟩)) (pe_lst pa_nil) (nomark _)))))
        (pss_one (ps_ret pe_bl))
        pss_nil)
      (pss_cons (ps_setComp (i := 15) (hN := sc_law.nd) (hy := rfl) (hx := rfl) (N := ["one"]) (cap := [none]) (hc := rfl) (hok := (show blkOk ["script", "row", "number", "new", "place", "led", "longer", "other", "totals", "some", "low", "high", "total", "kept", "many", "firsts"] (defScope s_law) ["one"] [none] _ = true by decide +kernel) ) (hi := (piL (K := K) rfl (pv 13))) (hb := fun cl C s3 H3 fp => ⟨(pg_name (i := 0) (show (["one"] : List Str).Nodup by decide +kernel) rfl (Or.inl rfl)), (pts_one (pt_cmpR op_notN (pe_meth0 (pv 0) TC.cl M_first_now.mt G_first_now (hr.mono (by first | decide | exact Nat.le_refl _)) M_first_now.bd .nil pass0) pe_non (nomark _))), fun it acc => (paf_emit rfl (pe_meth0 (pv 0) TC.cl M_first_now.mt G_first_now (hr.mono (by first | decide | exact Nat.le_refl _)) M_first_now.bd .nil pass0))⟩))
      (pss_one (ps_ret (pe_and (pe_cmpR op_eq (pe_callB (cLen (K := K) rfl) (by rfl) T.b_len PyProof.Rows.Boot.«len» (pa_cons (pv 15) pa_nil)) (pe_callB (call_lenPS (w := w) rfl) (by rfl) T.b_len PyProof.Rows.Boot.«len» (pa_cons (pe_callTy (call_setPu (K := K) (w := w) rfl rfl rfl hu64) (by rfl) T.b_set PyProof.Rows.Boot.«set» (pa_cons (pv 15) pa_nil)) pa_nil)) (nomark _)) (pe_one (pe_or (pe_cmpR op_eq (pv 14) pe_int (nomark _)) (pe_one (pe_cmpR (oInP (K := K) rfl hu64) (pe_tup (pa_cons pe_int (pa_cons pe_int pa_nil))) (pv 15) (by with_unfolding_all rfl))))))))))))))))))))))))), ?_⟩
    -- row, number
    refine ⟨_, rfl, a, scr, _, _, rfl, hS, by decide, by decide, by decide, by decide, fun p0 ns0 H1 hp0 hn0 hb0 S1 => ?_⟩
    have hn0 : ns0.length ≤ 20 := hn0
    have hb0 : Bd ns0 := hb0
    refine ⟨_, rfl, a, scr, _, rfl, hS.same S1, by decide, by decide, fun nu H2 nu0 nu1 S2' => ?_⟩
    have S2 := S1.trans S2'
    have hr0 : RowAt H2 p0 ns0 := ⟨S2' _ _ hp0, by omega⟩
    have hlm0 : (ns0.map V.int).length = ns0.length := List.length_map _
    dsimp only [gName]
    -- new
    refine seq_all (fun σ H' => ∃ (nw : Int), σ = [some (.ref a), some (.ref p0), some (.int nu), some (.int nw), none, none, none, none, none, none, none, none, none, none, none, none] ∧ (-1000000000000 ≤ nw ∧ nw ≤ 1000000000000) ∧ Same H H' ∧ RowAt H' p0 ns0) (fun D' kk => ?_) ?_
    · refine ⟨_, rfl, _, _, rfl, rfl, (by show (0 : Int) < _; decide), _, _, rfl, rfl, _, rfl, _, _, rfl, rfl, _, _, rfl, rfl, ⟨by decide, by decide, by decide⟩, _, _, rfl, rfl, .inl (by omega), ?_⟩
      refine ⟨_, rfl, by show 1 ≤ sizeLine; decide, fun q5 hq5 => ⟨p0, q5, _, _, rfl, rfl, (hr0.same (Same.lay hq5)).1, upd_same, size_le (by rw [hlm0]; show ns0.length + 1 ≤ 1000000; omega), fun q6 H3 S3 hq6 => ?_⟩⟩
      obtain ⟨z0, hz0, hz1⟩ : ∃ z0, (ns0 ++ [5])[0]? = some z0 ∧ (-1000000000000 ≤ z0 ∧ z0 ≤ 1000000000000) := by
        cases ns0 with
        | nil => exact ⟨5, rfl, by decide⟩
        | cons z r => exact ⟨z, rfl, hb0 z (List.mem_cons_self ..)⟩
      have hat : atI (ns0.map V.int ++ [.int 5]) 0 = some (.int z0) := atI_nat (j := 0) (by rw [show ns0.map V.int ++ [V.int 5] = (ns0 ++ [5]).map V.int by rw [List.map_append]; rfl, List.getElem?_map, hz0]; rfl)
      refine ⟨q6, _, _, _, rfl, rfl, SqT.of hq6, hat, by show 4 ≤ sizeLine; decide, fun l1 hl1 => ?_⟩
      have S3' : Same H2 (upd H3 l1 (.lst ([nu % 7 - 3, (nu - 500000) * 10 ^ (Int.toNat 6), 0, z0].map V.int))) := (Same.lay hq5).trans (S3.trans (Same.lay hl1))
      refine ⟨_, rfl, a, scr, _, rfl, hS.same (S2.trans S3'), by decide, by decide, fun r2 H5 r20 r21 S5 => ?_⟩
      have ⟨w0, w1⟩ := mod_lt r2 4 (by decide)
      obtain ⟨nw, hnw, hin, _⟩ := atI_ints [nu % 7 - 3, (nu - 500000) * 10 ^ (Int.toNat 6), 0, z0] w0 w1
      refine ⟨_, _, rfl, rfl, (by show (0 : Int) < _; decide), l1, _, _, _, rfl, rfl, SqL.of (S5 _ _ upd_same), hnw, kk _ _ ⟨nw, rfl, ?_, S2.trans (S3'.trans S5), hr0.same (S3'.trans S5)⟩⟩
      rw [e6] at hin
      simp only [List.mem_cons, List.not_mem_nil, or_false] at hin
      rcases hin with rfl | rfl | rfl | rfl
      · omega
      · omega
      · decide
      · exact hz1
    rintro σ H3 ⟨nw, rfl, hnw, S3, hr3⟩
    -- place, led
    refine ⟨_, rfl, a, scr, _, rfl, hS.same S3, by decide, by decide, fun r3 H4 r30 r31 S4' => ?_⟩
    have S4 := S3.trans S4'
    have hr4 := hr3.same S4'
    refine ⟨_, rfl, p0, _, rfl, .inr (SqT.of hr4.1), _, _, rfl, rfl, _, _, rfl, rfl, (by show (0 : Int) < _ + 1; omega), ?_⟩
    dsimp only [gName]
    have ⟨pl0, pl1⟩ := mod_lt r3 (((ns0.map V.int).length : Int) + 1) (by omega)
    obtain ⟨pl, hpl⟩ := Int.eq_ofNat_of_zero_le pl0
    rw [hpl] at pl1 ⊢
    have hplt : pl < ns0.length + 1 := by omega
    refine seq_all (fun σ H' => ∃ (ld : Int), σ = [some (.ref a), some (.ref p0), some (.int nu), some (.int nw), some (.int (pl : Int)), some (.int ld), none, none, none, none, none, none, none, none, none, none] ∧ (-1000000000000 ≤ ld ∧ ld ≤ 1000000000000) ∧ Same H H' ∧ RowAt H' p0 ns0) (fun D' kk => ?_) ?_
    · refine ⟨_, rfl, a, scr, _, rfl, hS.same S4, by decide, by decide, fun r4 H5 r40 r41 S5' => ?_⟩
      refine ⟨_, _, rfl, rfl, (by show (0 : Int) < _; decide), _, _, rfl, rfl, by show 2 ≤ sizeLine; decide, fun l2 hl2 => ?_⟩
      have ⟨w0, w1⟩ := mod_lt nu 2 (by decide)
      obtain ⟨ld, hld, hin, _⟩ := atI_ints [r4 % 9 - 4, 0] w0 w1
      refine ⟨_, rfl, _, _, rfl, rfl, (by show (0 : Int) < _; decide), l2, _, _, _, rfl, rfl, SqL.of upd_same, hld, kk _ _ ⟨ld, rfl, ?_, S4.trans (S5'.trans (Same.lay hl2)), hr4.same (S5'.trans (Same.lay hl2))⟩⟩
      simp only [List.mem_cons, List.not_mem_nil, or_false] at hin
      rcases hin with rfl | rfl
      · omega
      · decide
    rintro σ H5 ⟨ld, rfl, hld, S5, hr5⟩
    -- longer
    refine ⟨_, rfl, _, rfl, by show 1 ≤ sizeLine; decide, fun q7 hq7 => ⟨p0, q7, _, _, rfl, rfl, (hr5.same (Same.lay hq7)).1, upd_same, size_le (by rw [hlm0]; show ns0.length + 1 ≤ 1000000; omega), fun p1 H6 S6' hp1 => ?_⟩⟩
    dsimp only [gName]
    have S56 : Same H5 H6 := (Same.lay hq7).trans S6'
    have S6 := S5.trans S56
    have hr6 := hr5.same S56
    have hl1 : (ns0 ++ [nw]).length = ns0.length + 1 := by rw [List.length_append]; rfl
    have hr1 : RowAt H6 p1 (ns0 ++ [nw]) := ⟨by rw [hp1, List.map_append]; rfl, by omega⟩
    have hb1 : Bd (ns0 ++ [nw]) := fun n hn => by
      rcases List.mem_append.mp hn with z | z
      · exact hb0 n z
      · rw [List.mem_singleton.mp z]; exact hnw
    generalize hns1 : ns0 ++ [nw] = ns1 at hl1 hr1 hb1
    -- other
    refine seq_all (fun σ H' => ∃ (p2 : Addr), σ = [some (.ref a), some (.ref p0), some (.int nu), some (.int nw), some (.int (pl : Int)), some (.int ld), some (.ref p1), some (.ref p2), none, none, none, none, none, none, none, none] ∧ RowAt H' p2 (ns1.set pl ld) ∧ Same H6 H') (fun D' kk => ?_) ?_
    · refine ⟨_, rfl, _, rfl, _, rfl, ?_⟩
      obtain ⟨pp, xs, e1, e2, e3⟩ := led_read (Q := fun v H' => D'.nx [some (.ref a), some (.ref p0), some (.int nu), some (.int nw), some (.int (pl : Int)), some (.int ld), some (.ref p1), some v, none, none, none, none, none, none, none, none] H') (n := ld) hr1 (by rw [hl1]; exact hplt) (fun q H' hq S => kk _ _ ⟨q, rfl, hq, S⟩)
      refine ⟨pp, xs, e1, e2, fun q H' S hq => ?_⟩
      have := e3 q H' S hq
      refine ⟨_, rfl, by show 1 ≤ sizeLine; decide, fun q2 hq2 => ?_⟩
      obtain ⟨a', b', us, ws, z1, z2, z3, z4, z5, z6⟩ := this q2 hq2
      refine ⟨a', b', us, ws, z1, z2, z3, z4, z5, fun q3 H3 S3 hq3 => ?_⟩
      obtain ⟨pp', xs', e1', e2', e3'⟩ := z6 q3 H3 S3 hq3
      exact ⟨_, rfl, _, rfl, _, _, rfl, rfl, _, rfl, pp', xs', e1', e2', e3'⟩
    rintro σ H7 ⟨p2, rfl, hr2, S67⟩
    have hl2 : (ns1.set pl ld).length = ns0.length + 1 := by rw [List.length_set, hl1]
    have hb2 : Bd (ns1.set pl ld) := fun n hn => by
      rcases List.mem_or_eq_of_mem_set hn with z | z
      · exact hb1 n z
      · rw [z]; exact hld
    obtain ⟨ns2, hns2⟩ : ∃ ns2, ns1.set pl ld = ns2 := ⟨_, rfl⟩
    rw [hns2] at hr2 hl2 hb2
    have S7 := S6.trans S67
    have hr07 := hr6.same S67
    have hr17 := hr1.same S67
    -- totals = {}
    refine fun d hd => ?_
    dsimp only [gName]
    have hnd : H d = none := S7.free hd
    have S7d := Same.lay (o := .dK []) hd
    refine seq_all (fun σ H' => ∃ (kvs : List (Key × V)) (keys : List Int) (v9 v10 v11 v12 : Option V), σ = [some (.ref a), some (.ref p0), some (.int nu), some (.int nw), some (.int (pl : Int)), some (.int ld), some (.ref p1), some (.ref p2), some (.ref d), v9, v10, v11, v12, none, none, none] ∧ H' d = some (.dK kvs) ∧ kvs.map (·.1) = keys.map Sum.inl ∧ (∀ r ∈ [ns0, ns1, ns2, ns2.dropLast], Cov keys r) ∧ (∀ x ∈ keys, x < 10 ^ (Int.toNat 14) - 1) ∧ keys.length ≤ 3900 ∧ Same H7 H') (fun D' kk => ?_) ?_
    · refine ⟨_, rfl, _, rfl, _, rfl, _, rfl, 1, rfl, _, rfl, p2, _, rfl, (hr2.same S7d).1, fun p3 H8 S8 hp3 => ⟨by show 4 ≤ sizeLine; decide, fun tp htp => ?_⟩⟩
      rw [cutV_map, cut_last ns2 (by omega)] at hp3
      have hps : ∀ q ∈ [(p0, ns0), (p1, ns1), (p2, ns2), (p3, ns2.dropLast)], RowAt (upd H8 tp (.tup [.ref p0, .ref p1, .ref p2, .ref p3])) q.1 q.2 ∧ Bd q.2 ∧ q.2.length ≤ 21 := by
        have hl3 : ns2.dropLast.length = ns0.length := by rw [List.length_dropLast, hl2]; rfl
        intro q hq
        simp only [List.mem_cons, List.not_mem_nil, or_false] at hq
        rcases hq with rfl | rfl | rfl | rfl
        · exact ⟨((hr07.same S7d).same S8).same (Same.lay htp), hb0, by show ns0.length ≤ 21; omega⟩
        · exact ⟨((hr17.same S7d).same S8).same (Same.lay htp), hb1, by show ns1.length ≤ 21; omega⟩
        · exact ⟨((hr2.same S7d).same S8).same (Same.lay htp), hb2, by show ns2.length ≤ 21; omega⟩
        · exact ⟨RowAt.same ⟨hp3, by show ns2.dropLast.length ≤ 1000; omega⟩ (Same.lay htp), fun n hn => hb2 n (List.dropLast_subset _ hn), by show ns2.dropLast.length ≤ 21; omega⟩
      have hdh : upd H8 tp (.tup [.ref p0, .ref p1, .ref p2, .ref p3]) d = some (.dK []) := Same.lay htp _ _ (S8 _ _ upd_same)
      have S7h : Same H7 (upd H8 tp (.tup [.ref p0, .ref p1, .ref p2, .ref p3])) := S7d.trans (S8.trans (Same.lay htp))
      have htp' := upd_same (H := H8) (a := tp) (o := .tup [.ref p0, .ref p1, .ref p2, .ref p3])
      refine ⟨tp, rfl, ⟨_, SqT.of upd_same⟩, ?_⟩
      generalize upd H8 tp (.tup [.ref p0, .ref p1, .ref p2, .ref p3]) = Hh at hps hdh S7h htp' ⊢
      generalize hpq : [(p0, ns0), (p1, ns1), (p2, ns2), (p3, ns2.dropLast)] = ps at hps
      have hxs : [V.ref p0, .ref p1, .ref p2, .ref p3] = ps.map fun q => V.ref q.1 := by rw [← hpq]; rfl
      have hpl4 : ps.length = 4 := by rw [← hpq]; rfl
      refine for_tup (xs := [.ref p0, .ref p1, .ref p2, .ref p3]) (fun i σ H' => ∃ (v9 v10 v11 v12 : Option V) (kvs : List (Key × V)) (keys : List Int), σ = [some (.ref a), some (.ref p0), some (.int nu), some (.int nw), some (.int (pl : Int)), some (.int ld), some (.ref p1), some (.ref p2), some (.ref d), v9, v10, v11, v12, none, none, none] ∧ H' d = some (.dK kvs) ∧ kvs.map (·.1) = keys.map Sum.inl ∧ (∀ q ∈ ps.take i, Cov keys q.2) ∧ (∀ x ∈ keys, x < 10 ^ (Int.toNat 14) - 1) ∧ keys.length ≤ 300 * i ∧ Kp d Hh H') ?_ ?_ ?_ ?_
      · exact ⟨none, none, none, none, [], [], rfl, hdh, rfl, fun q hq => by simp at hq, fun x hx => by simp at hx, by simp, Kp.refl _⟩
      · rintro i σ H' _ ⟨v9, v10, v11, v12, kvs, keys, rfl, hd', hm', hc', hb', hl', k'⟩
        exact SqT.of (k' _ _ htp' (ne_of htp' hdh (by intro z; cases z)))
      · rintro i y σ H' hy ⟨v9, v10, v11, v12, kvs, keys, rfl, hd', hm', hc', hb', hl', k'⟩
        rw [hxs, List.getElem?_map] at hy
        obtain ⟨⟨pp, row⟩, hq, rfl⟩ := Option.map_eq_some_iff.mp hy
        have hi : i < 4 := by rw [← hpl4]; exact (List.getElem?_eq_some_iff.mp hq).1
        obtain ⟨hrow, hbrow, hlrow⟩ := hps _ (List.mem_of_getElem? hq)
        have hrow : RowAt Hh pp row := hrow
        have hlrow : row.length ≤ 21 := hlrow
        have hbrow : Bd row := hbrow
        have hrow' : RowAt H' pp row := ⟨k' _ _ hrow.1 (ne_of hrow.1 hdh (by intro z; cases z)), hrow.2⟩
        have hsm := prs_small hlrow
        refine ⟨_, rfl, pp, row, rfl, hrow', fun ql ys H2 hnq hql ht S2 => ⟨ql, rfl, ⟨_, SqL.of hql⟩, ?_⟩⟩
        have hd2 := S2 _ _ hd'
        refine for_list (xs := ys) (fun j σ H'' => ∃ (v10 v11 v12 : Option V) (kvs' : List (Key × V)) (keys' : List Int), σ = [some (.ref a), some (.ref p0), some (.int nu), some (.int nw), some (.int (pl : Int)), some (.int ld), some (.ref p1), some (.ref p2), some (.ref d), some (.ref pp), v10, v11, v12, none, none, none] ∧ H'' d = some (.dK kvs') ∧ kvs'.map (·.1) = keys'.map Sum.inl ∧ (∀ x ∈ keys, x ∈ keys') ∧ (∀ p ∈ (prs row.length).take j, sOf row p ∈ keys') ∧ (∀ x ∈ keys', x < 10 ^ (Int.toNat 14) - 1) ∧ keys'.length ≤ 300 * i + j ∧ Kp d H2 H'') ?_ ?_ ?_ ?_
        · exact ⟨v10, v11, v12, kvs, keys, rfl, hd2, hm', fun _ h => h, fun p hp => by simp at hp, hb', by omega, Kp.refl _⟩
        · rintro j σ H3 _ ⟨v10, v11, v12, kvs', keys', rfl, hd3, hm3, ho3, hc3, hb3, hl3, k3⟩
          exact SqL.of (k3 _ _ hql (ne_of hql hd2 (by intro z; cases z)))
        · rintro j y σ H3 hy ⟨v10, v11, v12, kvs', keys', rfl, hd3, hm3, ho3, hc3, hb3, hl3, k3⟩
          have hj : j < (prs row.length).length := by rw [← ht.1]; exact (List.getElem?_eq_some_iff.mp hy).1
          obtain ⟨b, e1, e2⟩ := ht.2 j _ (List.getElem?_eq_getElem hj)
          have hg : (prs row.length)[j]? = some (prs row.length)[j] := List.getElem?_eq_getElem hj
          generalize (prs row.length)[j] = pr at e2 hg
          rw [hy] at e1
          have e1 : y = .ref b := Option.some.inj e1
          subst e1
          have e3 := k3 _ _ e2 (ne_of e2 hd2 (by intro z; cases z))
          refine ⟨b, _, rfl, SqT.of e3, rfl, _, _, rfl, _, _, rfl, _, _, rfl, rfl, ?_⟩
          obtain ⟨keys2, m1, m2, m3⟩ := keys_put hm3 (sOf row pr) (.bl true)
          refine ⟨_, rfl, _, rfl, d, _, rfl, DPut.k (k := Sum.inl (sOf row pr)) hd3 (size_lt (by rw [keys_len hm3]; omega)), ?_⟩
          refine ⟨_, _, _, _, keys2, rfl, upd_same, m1, fun x hx => (m2 x).mpr (.inr (ho3 x hx)), fun p hp => ?_, fun x hx => ?_, by omega, Kp.wr k3⟩
          · rw [take_succ hg] at hp
            rcases List.mem_append.mp hp with z | z
            · exact (m2 _).mpr (.inr (hc3 p z))
            · rw [List.mem_singleton.mp z]; exact (m2 _).mpr (.inl rfl)
          · rcases (m2 x).mp hx with rfl | z
            · exact sOf_bd hbrow hlrow (List.mem_of_getElem? hg)
            · exact hb3 x z
        · rintro σ H3 ⟨v10, v11, v12, kvs', keys', rfl, hd3, hm3, ho3, hc3, hb3, hl3, k3⟩
          rw [ht.1, List.take_length] at hc3
          refine ⟨_, _, _, _, kvs', keys', rfl, hd3, hm3, fun q hq' => ?_, hb3, by rw [ht.1] at hl3; omega, k'.trans (Kp.trans (Kp.of S2) k3)⟩
          rw [take_succ hq] at hq'
          rcases List.mem_append.mp hq' with z | z
          · exact fun p hp => ho3 _ (hc' q z p hp)
          · rw [List.mem_singleton.mp z]; exact hc3
      · rintro σ H' ⟨v9, v10, v11, v12, kvs, keys, rfl, hd', hm', hc', hb', hl', k'⟩
        refine kk _ _ ⟨kvs, keys, v9, v10, v11, v12, rfl, hd', hm', fun r hr' => ?_, hb', Nat.le_trans hl' (by show 300 * 4 ≤ 3900; decide), Kp.same S7h hd k'⟩
        have hr2 : r ∈ ps.map (·.2) := by rw [← hpq]; exact hr'
        obtain ⟨q, h1, rfl⟩ := List.mem_map.mp hr2
        exact hc' q (by rw [List.take_of_length_le (by rw [hpl4]; exact Nat.le_refl _)]; exact h1)
    rintro σ H8 ⟨kvs, keys, v9, v10, v11, v12, rfl, hd8, hm8, hc8, hb8, hl8, S78⟩
    -- totals[10 ** 14 - 1] = True
    obtain ⟨keys9, m1, m2, m3⟩ := keys_put hm8 (10 ^ (Int.toNat 14) - 1) (.bl true)
    refine ⟨_, rfl, _, _, rfl, rfl, ⟨by decide, by decide, by decide⟩, _, _, rfl, rfl, d, _, rfl, DPut.k (k := Sum.inl (10 ^ (Int.toNat 14) - 1)) hd8 (size_lt (by rw [keys_len hm8]; omega)), ?_⟩
    have S79 : Same H7 (upd H8 d (.dK (putK kvs (Sum.inl (10 ^ (Int.toNat 14) - 1)) (.bl true)))) := fun b o e => by rw [upd_ne (ne_of_none e hd)]; exact S78 b o e
    have hd9 := upd_same (H := H8) (a := d) (o := .dK (putK kvs (Sum.inl (10 ^ (Int.toNat 14) - 1)) (.bl true)))
    generalize upd H8 d (.dK (putK kvs (Sum.inl (10 ^ (Int.toNat 14) - 1)) (.bl true))) = H9 at S79 hd9 ⊢
    -- kept
    refine ⟨_, rfl, d, _, keys9, rfl, hd9, m1, by omega, fun lq ts hlq hts hmem => ⟨lq, rfl, ⟨_, SqL.of upd_same⟩, fun acc hacc => ?_⟩⟩
    have nd : ts.Nodup := hts.imp fun h => by omega
    have hcov : ∀ r ∈ [ns0, ns1, ns2, ns2.dropLast], Cov ts r := fun r hr' p hp => (hmem _).mpr ((m2 _).mpr (.inr (hc8 r hr' p hp)))
    have htl : ts.length ≤ 4000 := by
      have := List.Nodup.length_le_of_subset nd fun k hk => (hmem k).mp hk
      omega
    obtain ⟨us, hus⟩ := last_of hts ((hmem _).mpr ((m2 _).mpr (.inl rfl))) fun x hx => by
      rcases (m2 x).mp ((hmem x).mp hx) with rfl | z
      · exact Int.le_refl _
      · exact Int.le_of_lt (hb8 x z)
    have S710 : Same H7 (upd H9 lq (.lst (ts.map V.int))) := S79.trans (Same.lay hlq)
    have hlq' := upd_same (H := H9) (a := lq) (o := .lst (ts.map V.int))
    generalize upd H9 lq (.lst (ts.map V.int)) = H10 at S710 hacc hlq' ⊢
    have hr10 := hr07.same S710
    refine walk_list (xs := ts.map V.int) (fun i σ H' => ∃ (v0 : Option V) (xs : List V), σ = [v0, some (.ref p0)] ∧ H' acc = some (.lst xs) ∧ KsAt C H' xs (ts.take i) 0 [] ns0 ∧ Same H10 H') ?_ ?_ ?_ ?_
    · exact ⟨none, [], rfl, upd_same, ⟨rfl, List.nodup_nil, fun j t e => by simp at e⟩, Same.lay hacc⟩
    · rintro i σ H' _ ⟨v0, xs, rfl, ha, KS, S'⟩
      exact SqL.of (S' _ _ hlq')
    · rintro i y σ H' hy ⟨v0, xs, rfl, ha, KS, S'⟩
      obtain ⟨t, ht, rfl⟩ : ∃ t, ts[i]? = some t ∧ V.int t = y := by rw [List.getElem?_map] at hy; exact Option.map_eq_some_iff.mp hy
      refine ⟨_, rfl, _, rfl, fun x dx nx ndx nex => ⟨x, dx, p0, ns0, t, rfl, upd_same, (hr10.same S').same (same_new nx ndx), fun H5 KA5 k5 => ⟨rfl, ?_⟩⟩⟩
      have S5 : Same H' H5 := fun b o e => k5 b o (same_new nx ndx b o e) (ne_of_none e nx)
      have ha5 := S5 _ _ ha
      have hk : ∀ b o, H5 b = some o → (∀ zs, o ≠ .lst zs) → upd H5 acc (.lst (xs ++ [.ref x])) b = some o := fun b o e nl => by
        rw [upd_ne (ne_of e ha5 (nl _))]; exact e
      refine ⟨xs, ha5, size_lt (by rw [KS.len, List.length_take]; omega), _, _, rfl, upd_same, ?_, fun b o e => by rw [upd_ne (ne_of_none e hacc)]; exact S5 _ _ (S' _ _ e)⟩
      rw [take_succ ht]
      obtain ⟨⟨dx5, e5⟩, e6⟩ := KA5
      refine KsAt.snoc ((KS.same S5).kept hk) (fun hx => ?_) ⟨⟨dx5, hk _ _ e5 (fun zs z => by cases z)⟩, ⟨hk _ _ e6.1 (fun zs z => by cases z), e6.2⟩⟩
      obtain ⟨_, _, _, e7⟩ := KS.ins hx
      rw [nx] at e7; cases e7
    rintro σ H11 ⟨v0, xs, rfl, ha11, KS, S11'⟩
    rw [List.length_map, List.take_length] at KS
    have S711 := S710.trans S11'
    dsimp only [gName]
    -- many
    refine ⟨_, rfl, p0, _, rfl, .inr (SqT.of (hr07.same S711).1), ?_⟩
    dsimp only [gName]
    have no : ∀ {p : Addr} {t : Int} {m : Str}, ¬ m = "total" → ¬ m = "numbers" → (flds p t).lookup m = none := fun h1 h2 => flds_no _ _ h1 h2
    have hl3 : ns2.dropLast.length = ns0.length := by rw [List.length_dropLast, hl2]; rfl
    have cnt0 := cnt_all nd (hcov ns0 (by simp))
    have cnt1 := cnt_all nd (hcov ns1 (by simp))
    have cnt2 := cnt_all nd (hcov ns2 (by simp))
    have cnt3 := cnt_all nd (hcov ns2.dropLast (by simp))
    have r2at := (hr2.same S711).1
    rw [hl1] at cnt1
    rw [hl2] at cnt2
    rw [hl3] at cnt3
    have tr := tri (ns0.length : Int)
    have nlx := KS.nl ha11
    have ntx := KS.nt r2at
    -- if sum(..) != .. or kept[-1].count_now() != 0
    refine seq_all (fun σ H' => σ = [some (.ref a), some (.ref p0), some (.int nu), some (.int nw), some (.int (pl : Int)), some (.int ld), some (.ref p1), some (.ref p2), some (.ref d), v9, v10, v11, v12, some (.ref acc), some (.int ((ns0.map V.int).length : Int)), none] ∧ Same H11 H') (fun D' kk => ?_) ?_
    · refine ⟨_, rfl, acc, rfl, ⟨_, SqL.of ha11⟩, fun ac2 hac2 => KS.cnts ha11 hac2 htl (fun x p v t' H' zs R KA hz hzl hR => ?_) (fun v H12 hz12 S12 => ?_)⟩
      · obtain ⟨dx, hx⟩ := KA.ob
        exact ⟨_, rfl, x, dx, _, rfl, hx, no (by decide +kernel) (by decide +kernel), x, p, ns0, t', rfl, KA, fun H2 S2 => ⟨zs, S2 _ _ hz, size_lt (by omega), hR H2 S2⟩⟩
      refine ⟨ac2, _, rfl, SqB.l hz12, _, rfl, _, rfl, _, _, rfl, rfl, _, _, rfl, rfl, .inl (by rw [hlm0]; omega), _, _, rfl, rfl, ⟨by decide, by decide⟩, rfl, _, rfl, ?_⟩
      refine iteNS (congrArg V.int (by rw [cnt0, hlm0])) ?_
      obtain ⟨x, p, e1, KA⟩ := (KS.same S12).row us.length (10 ^ (Int.toNat 14) - 1) (by rw [hus, List.getElem?_append_right (Nat.le_refl _), Nat.sub_self]; rfl)
      rw [if_neg (Nat.not_lt_zero _)] at KA
      obtain ⟨ys, hys⟩ : ∃ ys, xs = ys ++ [.ref x] := by
        have hxl : xs.length = us.length + 1 := by rw [KS.len, hus, List.length_append]; rfl
        have hne : xs ≠ [] := fun e => by rw [e] at hxl; simp at hxl
        refine ⟨xs.dropLast, ?_⟩
        have e2 := List.dropLast_concat_getLast hne
        rw [List.getLast_eq_getElem] at e2
        have e3 : xs[xs.length - 1]? = some (.ref x) := by rw [hxl]; exact e1
        rw [List.getElem?_eq_getElem (by omega)] at e3
        rw [Option.some.inj e3] at e2
        exact e2.symm
      obtain ⟨dx, hx⟩ := KA.ob
      have hac := S12 _ _ ha11
      rw [hys] at hac
      refine ⟨_, rfl, 1, rfl, acc, _, _, _, rfl, rfl, SqL.of hac, atI_last _ _, x, dx, _, rfl, hx, no (by decide +kernel) (by decide +kernel), x, p, ns0, _, rfl, KA, fun H13 S13 => ⟨rfl, _, rfl, ?_⟩⟩
      refine iteNS (congrArg V.int (cnt_none fun p hp => sOf_bd hb0 (by omega) hp)) ?_
      exact kk _ _ ⟨rfl, S12.trans S13⟩
    rintro σ H12 ⟨rfl, S12⟩
    have KS12 := KS.same S12
    have ha12 := S12 _ _ ha11
    have hc1 : ((ns0.length + 1 : Nat) : Int) = (ns0.length : Int) + 1 := by omega
    rw [hc1] at cnt1 cnt2
    have g01 : grown ts ns0 ns1 = (ns0.length : Int) + 1 := by unfold grown; rw [sum_sub, cnt0, cnt1]; omega
    have g12 : grown ts ns1 ns2 = 0 := by unfold grown; rw [sum_sub, cnt1, cnt2]; omega
    have g23 : grown ts ns2 ns2.dropLast = 0 - (ns0.length : Int) - 1 := by unfold grown; rw [sum_sub, cnt2, cnt3]; omega
    -- if _law_grown(kept, (0, 0, new)) != many + 1 or _law_grown(kept, (2, place, led)) != 0
    refine seq_all (fun σ H' => σ = [some (.ref a), some (.ref p0), some (.int nu), some (.int nw), some (.int (pl : Int)), some (.int ld), some (.ref p1), some (.ref p2), some (.ref d), v9, v10, v11, v12, some (.ref acc), some (.int ((ns0.map V.int).length : Int)), none] ∧ KsAt C H' xs ts 0 [] ns2 ∧ OthK xs H12 H') (fun D' kk => ?_) ?_
    · refine ⟨_, rfl, _, rfl, by show 3 ≤ sizeLine; decide, fun da hda => ⟨acc, da, xs, ts, ns0, ns1, (0, 0, nw), rfl, Same.lay hda _ _ ha12, upd_same, (KS12.any ns1).same (Same.lay hda), .inl ⟨rfl, by omega, hns1.symm⟩, fun H13 KS13 OK13 => ⟨_, rfl, _, _, rfl, rfl, rfl, _, rfl, ?_⟩⟩⟩
      refine iteNS (congrArg V.int (by rw [g01, hlm0])) ?_
      have OK13' : OthK xs H12 H13 := (OthK.of (Same.lay hda)).trans OK13
      have KS13' := KS13.all ns2
      refine ⟨_, rfl, _, rfl, _, rfl, by show 3 ≤ sizeLine; decide, fun db hdb => ⟨acc, db, xs, ts, ns1, ns2, (2, (pl : Int), ld), rfl, Same.lay hdb _ _ (OK13' _ _ ha12 nlx), upd_same, KS13'.same (Same.lay hdb), .inr (.inr ⟨rfl, pl, rfl, by omega, hns2.symm⟩), fun H14 KS14 OK14 => ⟨rfl, _, rfl, ?_⟩⟩⟩
      refine iteNS (congrArg V.int g12) ?_
      exact kk _ _ ⟨rfl, KS14.all [], OK13'.trans ((OthK.of (Same.lay hdb)).trans OK14)⟩
    rintro σ H13 ⟨rfl, KS13, OK13⟩
    have ha13 := OK13 _ _ ha12 nlx
    have r213 := OK13 _ _ (S12 _ _ r2at) ntx
    -- if sum(..) != (many + 1) * (many + 2) // 2
    refine seq_all (fun σ H' => σ = [some (.ref a), some (.ref p0), some (.int nu), some (.int nw), some (.int (pl : Int)), some (.int ld), some (.ref p1), some (.ref p2), some (.ref d), v9, v10, v11, v12, some (.ref acc), some (.int ((ns0.map V.int).length : Int)), none] ∧ Same H13 H') (fun D' kk => ?_) ?_
    · refine ⟨_, rfl, acc, rfl, ⟨_, SqL.of ha13⟩, fun ac2 hac2 => KS13.cnts ha13 hac2 htl (fun x p v t' H' zs R KA hz hzl hR => ?_) (fun v H14 hz14 S14 => ?_)⟩
      · obtain ⟨dx, hx⟩ := KA.ob
        exact ⟨_, rfl, x, dx, _, rfl, hx, no (by decide +kernel) (by decide +kernel), x, p, ns2, t', rfl, KA, fun H2 S2 => ⟨zs, S2 _ _ hz, size_lt (by omega), hR H2 S2⟩⟩
      refine ⟨ac2, _, rfl, SqB.l hz14, _, rfl, _, _, rfl, rfl, _, rfl, _, _, rfl, rfl, _, _, rfl, rfl, .inl (by rw [hlm0]; omega), _, _, rfl, rfl, ⟨by decide, by decide⟩, rfl, _, rfl, ?_⟩
      refine iteNS (congrArg V.int (by rw [cnt2, hlm0]; rfl)) ?_
      exact kk _ _ ⟨rfl, S14⟩
    rintro σ H14 ⟨rfl, S14⟩
    have KS14 := KS13.same S14
    have ha14 := S14 _ _ ha13
    have r214 := S14 _ _ r213
    -- if _law_grown(kept, (1, 0, 0)) != 0 - many - 1 or [..] != []
    refine seq_all (fun σ H' => σ = [some (.ref a), some (.ref p0), some (.int nu), some (.int nw), some (.int (pl : Int)), some (.int ld), some (.ref p1), some (.ref p2), some (.ref d), v9, v10, v11, v12, some (.ref acc), some (.int ((ns0.map V.int).length : Int)), none] ∧ KsAt C H' xs ts 0 [] ns2.dropLast ∧ H' acc = some (.lst xs)) (fun D' kk => ?_) ?_
    · refine ⟨_, rfl, by show 3 ≤ sizeLine; decide, fun da hda => ⟨acc, da, xs, ts, ns2, ns2.dropLast, (1, 0, 0), rfl, Same.lay hda _ _ ha14, upd_same, (KS14.any ns2.dropLast).same (Same.lay hda), .inr (.inl ⟨rfl, by omega, rfl⟩), fun H15 KS15 OK15 => ⟨_, rfl, _, _, rfl, rfl, _, _, rfl, rfl, rfl, _, rfl, ?_⟩⟩⟩
      refine iteNS (congrArg V.int (by rw [g23, hlm0])) ?_
      have KS15' := KS15.all []
      have OK15' : OthK xs H14 H15 := (OthK.of (Same.lay hda)).trans OK15
      have ha15 := OK15' _ _ ha14 nlx
      have r215 := OK15' _ _ r214 ntx
      refine ⟨_, rfl, acc, rfl, ⟨_, SqL.of ha15⟩, fun ac2 hac2 => walk_list (xs := xs) (fun i σ H' => ∃ (v : Option V), σ = [v, some (.ref p2)] ∧ H' ac2 = some (.lst []) ∧ Same H15 H') ?_ ?_ ?_ ?_⟩
      · exact ⟨none, rfl, upd_same, Same.lay hac2⟩
      · rintro i σ H' _ ⟨v, rfl, _, S'⟩
        exact SqL.of (S' _ _ ha15)
      · rintro i y σ H' hy ⟨v, rfl, hz, S'⟩
        have hi : i < ts.length := by rw [← KS.len]; exact (List.getElem?_eq_some_iff.mp hy).1
        obtain ⟨x, p, e1, KA⟩ := (KS15'.same S').row i _ (List.getElem?_eq_getElem hi)
        rw [if_neg (Nat.not_lt_zero _)] at KA
        rw [hy] at e1
        have e1 : y = .ref x := Option.some.inj e1
        subst e1
        obtain ⟨dx, hx⟩ := KA.ob
        refine ⟨_, rfl, x, dx, _, rfl, hx, no (by decide +kernel) (by decide +kernel), x, p, _, _, rfl, KA, ?_⟩
        refine ⟨_, rfl, 1, rfl, _, rfl, p2, _, rfl, S' _ _ r215, fun p3 H3 S3 hp3 => ?_⟩
        rw [cutV_map, cut_last ns2 (by omega)] at hp3
        refine ⟨p, p3, _, _, rfl, rfl, SqB.t (S3 _ _ KA.rw.1), SqB.t hp3, flat_ints _, flat_ints _, _, rfl, ?_⟩
        rw [eqVs_refl (flat_ints _)]
        exact iteF ⟨_, rfl, S3 _ _ hz, S'.trans S3⟩
      · rintro σ H' ⟨v, rfl, hz, S'⟩
        refine ⟨by show 0 ≤ sizeLine; decide, fun e0 he0 => ⟨ac2, e0, [], rfl, rfl, SqL.of (Same.lay he0 _ _ hz), SqL.of upd_same, _, rfl, iteF ?_⟩⟩
        exact kk _ _ ⟨rfl, KS15'.same (S'.trans (Same.lay he0)), Same.lay he0 _ _ (S' _ _ ha15)⟩
    rintro σ H15 ⟨rfl, KS15, ha15⟩
    -- firsts
    refine ⟨_, rfl, acc, rfl, ⟨_, SqL.of ha15⟩, fun ac2 hac2 => walk_list (xs := xs) (fun i σ H' => ∃ (v : Option V) (zs : List V), σ = [v] ∧ H' ac2 = some (.lst zs) ∧ TupsAt g2 H' zs (fsOf ns2.dropLast (ts.take i)) ∧ Same H15 H') ?_ ?_ ?_ ?_⟩
    · exact ⟨none, [], rfl, upd_same, TupsAt.nil, Same.lay hac2⟩
    · rintro i σ H' _ ⟨v, zs, rfl, _, _, S'⟩
      exact SqL.of (S' _ _ ha15)
    · rintro i y σ H' hy ⟨v, zs, rfl, hz, hT, S'⟩
      have hi : i < ts.length := by rw [← KS.len]; exact (List.getElem?_eq_some_iff.mp hy).1
      have ht := List.getElem?_eq_getElem hi
      generalize ts[i] = t at ht
      obtain ⟨x, p, e1, KA⟩ := (KS15.same S').row i t ht
      rw [if_neg (Nat.not_lt_zero _)] at KA
      rw [hy] at e1
      have e1 : y = .ref x := Option.some.inj e1
      subst e1
      obtain ⟨dx, hx⟩ := KA.ob
      have hzl : zs.length ≤ 4000 := by
        rw [hT.1]
        refine Nat.le_trans (List.length_filterMap_le _ _) ?_
        rw [List.length_take]; omega
      refine ⟨_, rfl, x, dx, _, rfl, hx, no (by decide +kernel) (by decide +kernel), x, p, _, t, rfl, KA, fun u H2 hu' S2 => ?_⟩
      have T2 := hT.mono (same_tup S2)
      cases eo : firstOf (hitsBy ns2.dropLast (eqT t)) with
      | none =>
        rw [eo] at hu'
        have hu' : u = .non := hu'
        subst hu'
        refine ⟨rfl, _, rfl, iteF ⟨_, zs, rfl, S2 _ _ hz, ?_, S'.trans S2⟩⟩
        rw [fs_take ht, eo, List.append_nil]
        exact T2
      | some pr =>
        rw [eo] at hu'
        obtain ⟨b, rfl, hb⟩ := hu'
        have KA2 := KA.same S2
        obtain ⟨dx2, hx2⟩ := KA2.ob
        refine ⟨rfl, _, rfl, iteT ⟨_, rfl, x, dx2, _, rfl, hx2, no (by decide +kernel) (by decide +kernel), x, p, _, t, rfl, KA2, fun u2 H3 hu2' S3 => ?_⟩⟩
        rw [eo] at hu2'
        obtain ⟨b2, rfl, hb2'⟩ := hu2'
        have hz3 := S3 _ _ (S2 _ _ hz)
        refine ⟨zs, hz3, size_lt (by omega), _, _, rfl, upd_same, ?_, fun c o e => by rw [upd_ne (ne_of_none e hac2)]; exact S3 _ _ (S2 _ _ (S' _ _ e))⟩
        rw [fs_take ht, eo]
        exact TupsAt.snoc ((T2.mono (same_tup S3)).mono (upd_tup hz3)) (upd_tup hz3 _ _ hb2')
    rintro σ H16 ⟨v, zs, rfl, hz, hT, S16⟩
    rw [KS.len, List.take_length] at hT
    dsimp only [gName]
    have hfl : (fsOf ns2.dropLast ts).length ≤ 4000 := Nat.le_trans (List.length_filterMap_le _ _) htl
    have hfn := fs_nodup ns2.dropLast nd
    have hf70 : ∀ c ∈ fsOf ns2.dropLast ts, c.1 < 70 ∧ c.2 < 70 := fun c hc => by
      have := prs_mem (lo := c.1) (hi := c.2) (fs_mem hc).1
      omega
    -- return
    refine ⟨_, rfl, ac2, _, rfl, .inl (SqL.of hz), _, rfl, ac2, zs, _, rfl, SqL.of hz, tups_paired hT, hfn, hf70, by rw [hT.1]; exact hfl, fun sp hsp => ⟨sp, H16, zs, _, rfl, upd_same, hfl, rfl, ?_⟩⟩
    have S17 := Same.lay (o := SetPO w sp H16 zs (fsOf ns2.dropLast ts)) hsp
    have hz2 := Same.lay (o := SetPO w sp H16 zs (fsOf ns2.dropLast ts)) hsp _ _ hz
    generalize upd H16 sp (SetPO w sp H16 zs (fsOf ns2.dropLast ts)) = H17 at S17 hz2 ⊢
    rw [decide_eq_true (congrArg V.int (by rw [hT.1]))]
    refine ⟨true, rfl, iteT ?_⟩
    refine ⟨_, rfl, rfl, ?_⟩
    by_cases hz0 : ns0.length = 0
    · rw [decide_eq_true (congrArg V.int (show ((ns0.map V.int).length : Int) = 0 by omega))]
      exact ⟨true, rfl, iteT (k _)⟩
    · rw [decide_eq_false (fun z => by injection z with z; omega)]
      refine ⟨false, rfl, iteF ⟨by show 2 ≤ sizeLine; decide, fun tq htq => ⟨_, rfl, ac2, zs, (0, 1), _, rfl, SqL.of (Same.lay htq _ _ hz2), ⟨tq, rfl, upd_same⟩, tups_paired ((hT.mono (same_tup S17)).mono (same_tup (Same.lay htq))), ?_⟩⟩⟩
      rw [if_neg (by decide), decide_eq_true (fs_first (hcov _ (by simp)) (by omega))]
      exact k _
end
end My

namespace My
open PySem L2
theorem all_mk {l : PySem.W.OpenLaw} {w : World} {K : PySem.W.Frag} {h : Heap} {mg : Str → Option Value} {fa C f1 f2 f3 f4 f5 f6 f7 f8 f9 f10 f11 f12 f13 m1 m2 m3 m4 m5 m6 m7 m8 : Addr} (X : K.In h) (G : h.Ns mainGlobals mg) (hfa : mg "law" = some (.ref fa))
    {od1 an1 od2 an2 od3 an3 od4 an4 od5 an5 od6 an6 od7 an7 od8 an8 od9 an9 od10 an10 od11 an11 od12 an12 od13 an13 odm1 anm1 odm2 anm2 odm3 anm3 odm4 anm4 odm5 anm5 odm6 anm6 odm7 anm7 odm8 anm8 : Option Addr} {sl1 sl2 sl3 sl4 sl5 sl6 sl7 sl8 sl9 sl10 sl11 sl12 sl13 slm1 slm2 slm3 slm4 slm5 slm6 slm7 slm8 : Array (Option Value)} {oc1 kV1 dc1 pm1 cd1 ct1 oc2 kV2 dc2 pm2 cd2 ct2 oc3 kV3 dc3 pm3 cd3 ct3 oc4 kV4 dc4 pm4 cd4 ct4 oc5 kV5 dc5 pm5 cd5 ct5 oc6 kV6 dc6 pm6 cd6 ct6 oc7 kV7 dc7 pm7 cd7 ct7 oc8 kV8 dc8 pm8 cd8 ct8 oc9 kV9 dc9 pm9 cd9 ct9 oc10 kV10 dc10 pm10 cd10 ct10 oc11 kV11 dc11 pm11 cd11 ct11 oc12 kV12 dc12 pm12 cd12 ct12 oc13 kV13 dc13 pm13 cd13 ct13 ocm1 kVm1 dcm1 pmm1 cdm1 ctm1 ocm2 kVm2 dcm2 pmm2 cdm2 ctm2 ocm3 kVm3 dcm3 pmm3 cdm3 ctm3 ocm4 kVm4 dcm4 pmm4 cdm4 ctm4 ocm5 kVm5 dcm5 pmm5 cdm5 ctm5 ocm6 kVm6 dcm6 pmm6 cdm6 ctm6 ocm7 kVm7 dcm7 pmm7 cdm7 ctm7 ocm8 kVm8 dcm8 pmm8 cdm8 ctm8 : Value}
    (a1 : PySem.W.nsIn K mainGlobals "sums_ahead" = some (some (.ref f1))) (l1 : K.lookup f1 = some ⟨oc1, od1, .func (PySem.W.fnOf "sums_ahead" "sums_ahead" (defArgs s_sums_ahead) (defBody s_sums_ahead) (defScope s_sums_ahead) .none kV1 dc1 pm1 an1 cd1 ct1), sl1⟩) (c1 : PySem.W.codeIn K cd1 "sums_ahead" = true) (k1 : PySem.W.keepIn K (.ref f1) = true)
    (a2 : PySem.W.nsIn K mainGlobals "stretches_of" = some (some (.ref f2))) (l2 : K.lookup f2 = some ⟨oc2, od2, .func (PySem.W.fnOf "stretches_of" "stretches_of" (defArgs s_stretches_of) (defBody s_stretches_of) (defScope s_stretches_of) .none kV2 dc2 pm2 an2 cd2 ct2), sl2⟩) (c2 : PySem.W.codeIn K cd2 "stretches_of" = true) (k2 : PySem.W.keepIn K (.ref f2) = true)
    (a3 : PySem.W.nsIn K mainGlobals "summed_stretches" = some (some (.ref f3))) (l3 : K.lookup f3 = some ⟨oc3, od3, .func (PySem.W.fnOf "summed_stretches" "summed_stretches" (defArgs s_summed_stretches) (defBody s_summed_stretches) (defScope s_summed_stretches) .none kV3 dc3 pm3 an3 cd3 ct3), sl3⟩) (c3 : PySem.W.codeIn K cd3 "summed_stretches" = true) (k3 : PySem.W.keepIn K (.ref f3) = true)
    (a4 : PySem.W.nsIn K mainGlobals "first_of" = some (some (.ref f4))) (l4 : K.lookup f4 = some ⟨oc4, od4, .func (PySem.W.fnOf "first_of" "first_of" (defArgs s_first_of) (defBody s_first_of) (defScope s_first_of) .none kV4 dc4 pm4 an4 cd4 ct4), sl4⟩) (c4 : PySem.W.codeIn K cd4 "first_of" = true) (k4 : PySem.W.keepIn K (.ref f4) = true)
    (a5 : PySem.W.nsIn K mainGlobals "all_with" = some (some (.ref f5))) (l5 : K.lookup f5 = some ⟨oc5, od5, .func (PySem.W.fnOf "all_with" "all_with" (defArgs s_all_with) (defBody s_all_with) (defScope s_all_with) .none kV5 dc5 pm5 an5 cd5 ct5), sl5⟩) (c5 : PySem.W.codeIn K cd5 "all_with" = true) (k5 : PySem.W.keepIn K (.ref f5) = true)
    (a6 : PySem.W.nsIn K mainGlobals "count_with" = some (some (.ref f6))) (l6 : K.lookup f6 = some ⟨oc6, od6, .func (PySem.W.fnOf "count_with" "count_with" (defArgs s_count_with) (defBody s_count_with) (defScope s_count_with) .none kV6 dc6 pm6 an6 cd6 ct6), sl6⟩) (c6 : PySem.W.codeIn K cd6 "count_with" = true) (k6 : PySem.W.keepIn K (.ref f6) = true)
    (a7 : PySem.W.nsIn K mainGlobals "first_with" = some (some (.ref f7))) (l7 : K.lookup f7 = some ⟨oc7, od7, .func (PySem.W.fnOf "first_with" "first_with" (defArgs s_first_with) (defBody s_first_with) (defScope s_first_with) .none kV7 dc7 pm7 an7 cd7 ct7), sl7⟩) (c7 : PySem.W.codeIn K cd7 "first_with" = true) (k7 : PySem.W.keepIn K (.ref f7) = true)
    (a8 : PySem.W.nsIn K mainGlobals "row_led" = some (some (.ref f8))) (l8 : K.lookup f8 = some ⟨oc8, od8, .func (PySem.W.fnOf "row_led" "row_led" (defArgs s_row_led) (defBody s_row_led) (defScope s_row_led) .none kV8 dc8 pm8 an8 cd8 ct8), sl8⟩) (c8 : PySem.W.codeIn K cd8 "row_led" = true) (k8 : PySem.W.keepIn K (.ref f8) = true)
    (a9 : PySem.W.nsIn K mainGlobals "_law_number" = some (some (.ref f9))) (l9 : K.lookup f9 = some ⟨oc9, od9, .func (PySem.W.fnOf "_law_number" "_law_number" (defArgs s_law_number) (defBody s_law_number) (defScope s_law_number) .none kV9 dc9 pm9 an9 cd9 ct9), sl9⟩) (c9 : PySem.W.codeIn K cd9 "_law_number" = true) (k9 : PySem.W.keepIn K (.ref f9) = true)
    (a10 : PySem.W.nsIn K mainGlobals "_law_row" = some (some (.ref f10))) (l10 : K.lookup f10 = some ⟨oc10, od10, .func (PySem.W.fnOf "_law_row" "_law_row" (defArgs s_law_row) (defBody s_law_row) (defScope s_law_row) .none kV10 dc10 pm10 an10 cd10 ct10), sl10⟩) (c10 : PySem.W.codeIn K cd10 "_law_row" = true) (k10 : PySem.W.keepIn K (.ref f10) = true)
    (a11 : PySem.W.nsIn K mainGlobals "_law_stretches" = some (some (.ref f11))) (l11 : K.lookup f11 = some ⟨oc11, od11, .func (PySem.W.fnOf "_law_stretches" "_law_stretches" (defArgs s_law_stretches) (defBody s_law_stretches) (defScope s_law_stretches) .none kV11 dc11 pm11 an11 cd11 ct11), sl11⟩) (c11 : PySem.W.codeIn K cd11 "_law_stretches" = true) (k11 : PySem.W.keepIn K (.ref f11) = true)
    (a12 : PySem.W.nsIn K mainGlobals "_law_grown" = some (some (.ref f12))) (l12 : K.lookup f12 = some ⟨oc12, od12, .func (PySem.W.fnOf "_law_grown" "_law_grown" (defArgs s_law_grown) (defBody s_law_grown) (defScope s_law_grown) .none kV12 dc12 pm12 an12 cd12 ct12), sl12⟩) (c12 : PySem.W.codeIn K cd12 "_law_grown" = true) (k12 : PySem.W.keepIn K (.ref f12) = true)
    (a13 : PySem.W.nsIn K mainGlobals "law" = some (some (.ref f13))) (l13 : K.lookup f13 = some ⟨oc13, od13, .func (PySem.W.fnOf "law" "law" (defArgs s_law) (defBody s_law) (defScope s_law) .none kV13 dc13 pm13 an13 cd13 ct13), sl13⟩) (c13 : PySem.W.codeIn K cd13 "law" = true) (k13 : PySem.W.keepIn K (.ref f13) = true)
    (aC : PySem.W.nsIn K mainGlobals "KeptRow" = some (some (.ref C)))
    (am1 : PySem.W.findIn K (.ref C) "__init__" = some (some (.ref m1))) (im1 : PySem.W.isFn K (.ref m1) = true) (lm1 : K.lookup m1 = some ⟨ocm1, odm1, .func (PySem.W.fnOf "__init__" "KeptRow.__init__" (defArgs s_init) (defBody s_init) (defScope s_init) .none kVm1 dcm1 pmm1 anm1 cdm1 ctm1), slm1⟩) (cm1 : PySem.W.codeIn K cdm1 "KeptRow.__init__" = true) (km1 : PySem.W.keepIn K (.ref m1) = true)
    (am2 : PySem.W.findIn K (.ref C) "put_number" = some (some (.ref m2))) (im2 : PySem.W.isFn K (.ref m2) = true) (lm2 : K.lookup m2 = some ⟨ocm2, odm2, .func (PySem.W.fnOf "put_number" "KeptRow.put_number" (defArgs s_put_number) (defBody s_put_number) (defScope s_put_number) .none kVm2 dcm2 pmm2 anm2 cdm2 ctm2), slm2⟩) (cm2 : PySem.W.codeIn K cdm2 "KeptRow.put_number" = true) (km2 : PySem.W.keepIn K (.ref m2) = true)
    (am3 : PySem.W.findIn K (.ref C) "take_number" = some (some (.ref m3))) (im3 : PySem.W.isFn K (.ref m3) = true) (lm3 : K.lookup m3 = some ⟨ocm3, odm3, .func (PySem.W.fnOf "take_number" "KeptRow.take_number" (defArgs s_take_number) (defBody s_take_number) (defScope s_take_number) .none kVm3 dcm3 pmm3 anm3 cdm3 ctm3), slm3⟩) (cm3 : PySem.W.codeIn K cdm3 "KeptRow.take_number" = true) (km3 : PySem.W.keepIn K (.ref m3) = true)
    (am4 : PySem.W.findIn K (.ref C) "lead_number" = some (some (.ref m4))) (im4 : PySem.W.isFn K (.ref m4) = true) (lm4 : K.lookup m4 = some ⟨ocm4, odm4, .func (PySem.W.fnOf "lead_number" "KeptRow.lead_number" (defArgs s_lead_number) (defBody s_lead_number) (defScope s_lead_number) .none kVm4 dcm4 pmm4 anm4 cdm4 ctm4), slm4⟩) (cm4 : PySem.W.codeIn K cdm4 "KeptRow.lead_number" = true) (km4 : PySem.W.keepIn K (.ref m4) = true)
    (am5 : PySem.W.findIn K (.ref C) "change_to" = some (some (.ref m5))) (im5 : PySem.W.isFn K (.ref m5) = true) (lm5 : K.lookup m5 = some ⟨ocm5, odm5, .func (PySem.W.fnOf "change_to" "KeptRow.change_to" (defArgs s_change_to) (defBody s_change_to) (defScope s_change_to) .none kVm5 dcm5 pmm5 anm5 cdm5 ctm5), slm5⟩) (cm5 : PySem.W.codeIn K cdm5 "KeptRow.change_to" = true) (km5 : PySem.W.keepIn K (.ref m5) = true)
    (am6 : PySem.W.findIn K (.ref C) "row_now" = some (some (.ref m6))) (im6 : PySem.W.isFn K (.ref m6) = true) (lm6 : K.lookup m6 = some ⟨ocm6, odm6, .func (PySem.W.fnOf "row_now" "KeptRow.row_now" (defArgs s_row_now) (defBody s_row_now) (defScope s_row_now) .none kVm6 dcm6 pmm6 anm6 cdm6 ctm6), slm6⟩) (cm6 : PySem.W.codeIn K cdm6 "KeptRow.row_now" = true) (km6 : PySem.W.keepIn K (.ref m6) = true)
    (am7 : PySem.W.findIn K (.ref C) "count_now" = some (some (.ref m7))) (im7 : PySem.W.isFn K (.ref m7) = true) (lm7 : K.lookup m7 = some ⟨ocm7, odm7, .func (PySem.W.fnOf "count_now" "KeptRow.count_now" (defArgs s_count_now) (defBody s_count_now) (defScope s_count_now) .none kVm7 dcm7 pmm7 anm7 cdm7 ctm7), slm7⟩) (cm7 : PySem.W.codeIn K cdm7 "KeptRow.count_now" = true) (km7 : PySem.W.keepIn K (.ref m7) = true)
    (am8 : PySem.W.findIn K (.ref C) "first_now" = some (some (.ref m8))) (im8 : PySem.W.isFn K (.ref m8) = true) (lm8 : K.lookup m8 = some ⟨ocm8, odm8, .func (PySem.W.fnOf "first_now" "KeptRow.first_now" (defArgs s_first_now) (defBody s_first_now) (defScope s_first_now) .none kVm8 dcm8 pmm8 anm8 cdm8 ctm8), slm8⟩) (cm8 : PySem.W.codeIn K cdm8 "KeptRow.first_now" = true) (km8 : PySem.W.keepIn K (.ref m8) = true)
    (pg : PySem.W.plainGet K C Str.empty = true) (hd : PySem.W.hasDictIn K C = true) (po : PySem.W.plainOver K C = true) (sa : PySem.W.findIn K (.ref C) "__setattr__" = some (some (.builtin "object.__setattr__"))) (mk : PySem.W.makesIn K C = true) (kc : PySem.W.keepIn K (.ref C) = true)
    (no_numbers : PySem.W.findIn K (.ref C) "numbers" = some none)
    (no_total : PySem.W.findIn K (.ref C) "total" = some none)
    (z_len : PySem.W.nsIn K mainGlobals "len" = some none)
    (z_sum : PySem.W.nsIn K mainGlobals "sum" = some none)
    (z_range : PySem.W.nsIn K mainGlobals "range" = some none)
    (z_tuple : PySem.W.nsIn K mainGlobals "tuple" = some none)
    (z_list : PySem.W.nsIn K mainGlobals "list" = some none)
    (z_int : PySem.W.nsIn K mainGlobals "int" = some none)
    (z_str : PySem.W.nsIn K mainGlobals "str" = some none)
    (z_bool : PySem.W.nsIn K mainGlobals "bool" = some none)
    (z_isinstance : PySem.W.nsIn K mainGlobals "isinstance" = some none)
    (z_min : PySem.W.nsIn K mainGlobals "min" = some none)
    (z_max : PySem.W.nsIn K mainGlobals "max" = some none)
    (z_zip : PySem.W.nsIn K mainGlobals "zip" = some none)
    (z_reversed : PySem.W.nsIn K mainGlobals "reversed" = some none)
    (z_sorted : PySem.W.nsIn K mainGlobals "sorted" = some none)
    (z_abs : PySem.W.nsIn K mainGlobals "abs" = some none)
    (z_all : PySem.W.nsIn K mainGlobals "all" = some none)
    (z_any : PySem.W.nsIn K mainGlobals "any" = some none)
    (z_set : PySem.W.nsIn K mainGlobals "set" = some none)
    (z_ValueError : PySem.W.nsIn K mainGlobals "ValueError" = some none)
    : ∃ fd : FuncData, (∀ (s : Shared) (v : Value), BindsTo s fd ⟨[v], []⟩ [("script", v)]) ∧ ∀ base : Heap, K.In base → base.Ns mainGlobals mg → FnOk l.prog w K mg base CX0 9 fa fd ["script"] (spLaw K) := by
  have e := hfa.symm.trans (PySem.W.mg_of X G a13)
  cases e
  have T : Txt mg := ⟨PySem.W.mg_none_of X G z_len, PySem.W.mg_none_of X G z_sum, PySem.W.mg_none_of X G z_range, PySem.W.mg_none_of X G z_tuple, PySem.W.mg_none_of X G z_list, PySem.W.mg_none_of X G z_int, PySem.W.mg_none_of X G z_str, PySem.W.mg_none_of X G z_bool, PySem.W.mg_none_of X G z_isinstance, PySem.W.mg_none_of X G z_min, PySem.W.mg_none_of X G z_max, PySem.W.mg_none_of X G z_zip, PySem.W.mg_none_of X G z_reversed, PySem.W.mg_none_of X G z_sorted, PySem.W.mg_none_of X G z_abs, PySem.W.mg_none_of X G z_all, PySem.W.mg_none_of X G z_any, PySem.W.mg_none_of X G z_set, PySem.W.mg_none_of X G z_ValueError⟩
  have TC : TxtC K mg C := ⟨⟨pg, hd, po, sa⟩, no_numbers, no_total, PySem.W.mg_of X G aC⟩
  have F1 := fun_mk (st := s_sums_ahead) l1 c1 k1
  have b1 := F1.binds (ps := ["row"]) fun _ _ _ _ _ _ us hl => match us, hl with | [_], _ => rfl
  have D1 : DefAt K mg "sums_ahead" s_sums_ahead ["row"] f1 _ := ⟨F1, PySem.W.mg_of X G a1, b1⟩
  have F2 := fun_mk (st := s_stretches_of) l2 c2 k2
  have b2 := F2.binds (ps := ["row"]) fun _ _ _ _ _ _ us hl => match us, hl with | [_], _ => rfl
  have D2 : DefAt K mg "stretches_of" s_stretches_of ["row"] f2 _ := ⟨F2, PySem.W.mg_of X G a2, b2⟩
  have F3 := fun_mk (st := s_summed_stretches) l3 c3 k3
  have b3 := F3.binds (ps := ["row"]) fun _ _ _ _ _ _ us hl => match us, hl with | [_], _ => rfl
  have D3 : DefAt K mg "summed_stretches" s_summed_stretches ["row"] f3 _ := ⟨F3, PySem.W.mg_of X G a3, b3⟩
  have F4 := fun_mk (st := s_first_of) l4 c4 k4
  have b4 := F4.binds (ps := ["stretches"]) fun _ _ _ _ _ _ us hl => match us, hl with | [_], _ => rfl
  have D4 : DefAt K mg "first_of" s_first_of ["stretches"] f4 _ := ⟨F4, PySem.W.mg_of X G a4, b4⟩
  have F5 := fun_mk (st := s_all_with) l5 c5 k5
  have b5 := F5.binds (ps := ["row", "total"]) fun _ _ _ _ _ _ us hl => match us, hl with | [_, _], _ => rfl
  have D5 : DefAt K mg "all_with" s_all_with ["row", "total"] f5 _ := ⟨F5, PySem.W.mg_of X G a5, b5⟩
  have F6 := fun_mk (st := s_count_with) l6 c6 k6
  have b6 := F6.binds (ps := ["row", "total"]) fun _ _ _ _ _ _ us hl => match us, hl with | [_, _], _ => rfl
  have D6 : DefAt K mg "count_with" s_count_with ["row", "total"] f6 _ := ⟨F6, PySem.W.mg_of X G a6, b6⟩
  have F7 := fun_mk (st := s_first_with) l7 c7 k7
  have b7 := F7.binds (ps := ["row", "total"]) fun _ _ _ _ _ _ us hl => match us, hl with | [_, _], _ => rfl
  have D7 : DefAt K mg "first_with" s_first_with ["row", "total"] f7 _ := ⟨F7, PySem.W.mg_of X G a7, b7⟩
  have F8 := fun_mk (st := s_row_led) l8 c8 k8
  have b8 := F8.binds (ps := ["row", "place", "number"]) fun _ _ _ _ _ _ us hl => match us, hl with | [_, _, _], _ => rfl
  have D8 : DefAt K mg "row_led" s_row_led ["row", "place", "number"] f8 _ := ⟨F8, PySem.W.mg_of X G a8, b8⟩
  have F9 := fun_mk (st := s_law_number) l9 c9 k9
  have b9 := F9.binds (ps := ["script", "k"]) fun _ _ _ _ _ _ us hl => match us, hl with | [_, _], _ => rfl
  have D9 : DefAt K mg "_law_number" s_law_number ["script", "k"] f9 _ := ⟨F9, PySem.W.mg_of X G a9, b9⟩
  have F10 := fun_mk (st := s_law_row) l10 c10 k10
  have b10 := F10.binds (ps := ["script", "start", "most"]) fun _ _ _ _ _ _ us hl => match us, hl with | [_, _, _], _ => rfl
  have D10 : DefAt K mg "_law_row" s_law_row ["script", "start", "most"] f10 _ := ⟨F10, PySem.W.mg_of X G a10, b10⟩
  have F11 := fun_mk (st := s_law_stretches) l11 c11 k11
  have b11 := F11.binds (ps := ["row"]) fun _ _ _ _ _ _ us hl => match us, hl with | [_], _ => rfl
  have D11 : DefAt K mg "_law_stretches" s_law_stretches ["row"] f11 _ := ⟨F11, PySem.W.mg_of X G a11, b11⟩
  have F12 := fun_mk (st := s_law_grown) l12 c12 k12
  have b12 := F12.binds (ps := ["kept", "deed"]) fun _ _ _ _ _ _ us hl => match us, hl with | [_, _], _ => rfl
  have D12 : DefAt K mg "_law_grown" s_law_grown ["kept", "deed"] f12 _ := ⟨F12, PySem.W.mg_of X G a12, b12⟩
  have F13 := fun_mk (st := s_law) l13 c13 k13
  have Fm1 := fun_mk (st := s_init) lm1 cm1 km1
  have bm1 := Fm1.binds (ps := ["self", "row", "total"]) fun _ _ _ _ _ _ us hl => match us, hl with | [_, _, _], _ => rfl
  have M1 : MethAt K C "__init__" "KeptRow.__init__" s_init ["self", "row", "total"] m1 _ := ⟨Fm1, ⟨am1, im1, km1⟩, bm1⟩
  have Fm2 := fun_mk (st := s_put_number) lm2 cm2 km2
  have bm2 := Fm2.binds (ps := ["self", "number"]) fun _ _ _ _ _ _ us hl => match us, hl with | [_, _], _ => rfl
  have M2 : MethAt K C "put_number" "KeptRow.put_number" s_put_number ["self", "number"] m2 _ := ⟨Fm2, ⟨am2, im2, km2⟩, bm2⟩
  have Fm3 := fun_mk (st := s_take_number) lm3 cm3 km3
  have bm3 := Fm3.binds (ps := ["self"]) fun _ _ _ _ _ _ us hl => match us, hl with | [_], _ => rfl
  have M3 : MethAt K C "take_number" "KeptRow.take_number" s_take_number ["self"] m3 _ := ⟨Fm3, ⟨am3, im3, km3⟩, bm3⟩
  have Fm4 := fun_mk (st := s_lead_number) lm4 cm4 km4
  have bm4 := Fm4.binds (ps := ["self", "place", "number"]) fun _ _ _ _ _ _ us hl => match us, hl with | [_, _, _], _ => rfl
  have M4 : MethAt K C "lead_number" "KeptRow.lead_number" s_lead_number ["self", "place", "number"] m4 _ := ⟨Fm4, ⟨am4, im4, km4⟩, bm4⟩
  have Fm5 := fun_mk (st := s_change_to) lm5 cm5 km5
  have bm5 := Fm5.binds (ps := ["self", "row"]) fun _ _ _ _ _ _ us hl => match us, hl with | [_, _], _ => rfl
  have M5 : MethAt K C "change_to" "KeptRow.change_to" s_change_to ["self", "row"] m5 _ := ⟨Fm5, ⟨am5, im5, km5⟩, bm5⟩
  have Fm6 := fun_mk (st := s_row_now) lm6 cm6 km6
  have bm6 := Fm6.binds (ps := ["self"]) fun _ _ _ _ _ _ us hl => match us, hl with | [_], _ => rfl
  have M6 : MethAt K C "row_now" "KeptRow.row_now" s_row_now ["self"] m6 _ := ⟨Fm6, ⟨am6, im6, km6⟩, bm6⟩
  have Fm7 := fun_mk (st := s_count_now) lm7 cm7 km7
  have bm7 := Fm7.binds (ps := ["self"]) fun _ _ _ _ _ _ us hl => match us, hl with | [_], _ => rfl
  have M7 : MethAt K C "count_now" "KeptRow.count_now" s_count_now ["self"] m7 _ := ⟨Fm7, ⟨am7, im7, km7⟩, bm7⟩
  have Fm8 := fun_mk (st := s_first_now) lm8 cm8 km8
  have bm8 := Fm8.binds (ps := ["self"]) fun _ _ _ _ _ _ us hl => match us, hl with | [_], _ => rfl
  have M8 : MethAt K C "first_now" "KeptRow.first_now" s_first_now ["self"] m8 _ := ⟨Fm8, ⟨am8, im8, km8⟩, bm8⟩
  exact ⟨PySem.W.fnOf "law" "law" (defArgs s_law) (defBody s_law) (defScope s_law) .none kV13 dc13 pm13 an13 cd13 ct13, fun s v => .of_eq rfl, fun base _ _ => ok_law F13 T TC ⟨mk, am1, im1, kc⟩ M1 M2 M3 M4 M5 M6 M7 M8 D1 D2 D3 D4 D5 D6 D7 D8 D9 D10 D11 D12⟩
theorem walk {l : PySem.W.OpenLaw} {q : Program} {loose : List Str} {XP : (Str → Option Value) → Heap → Prop} {YP : World → Heap → Prop} {d : DefRec} {K : Params → PySem.W.Frag} (hn : l.most = some 63) (hdf : d.params.defaults = [])
    (hY : ∀ (w : World) (h : Heap), YP w h → (K w.params).In h)
    (F : ∀ (w : World) (mg : Str → Option Value) (fa : Addr) (h : Heap), (K w.params).In h → h.Ns mainGlobals mg → mg d.name = some (.ref fa) →
      ∃ fd : FuncData, (∀ (s : Shared) (u : Value), BindsTo s fd ⟨[u], []⟩ [("script", u)]) ∧ ∀ base : Heap, (K w.params).In base → base.Ns mainGlobals mg → FnOk l.prog w (K w.params) mg base CX0 9 fa fd ["script"] (spLaw (K w.params))) :
    PySem.W.WalkO q loose XP YP l.row.toRowW d [] (fun f vs => PySem.call f vs) :=
  L2.walk_of (n := 63) (k := 9) (x := "script") (CX := fun _ => CX0) (sp := fun w => spLaw (K w.params)) hn (by decide) hdf ⟨rfl, by decide, by decide⟩ hY F (fun _ _ a ns hl _ hS => ⟨a, ns, rfl, hS, hl, fun _ => rfl⟩) fun _ _ _ _ _ z => z
end My
open PySem PySem.W PyProof.Rows
set_option maxRecDepth 100000 in
set_option maxHeartbeats 0 in
theorem PySem.Challenge.cw_toldsums_k34_whole_kept_for_all_sums_holds : PySem.Challenge.rw_toldsums_k34_whole_kept_for_all_sums.Holds := by
  w_on; o_law; k_head; (case hw => w_witness2)
  k_fill
  refine My.walk (l := PySem.Challenge.rw_toldsums_k34_whole_kept_for_all_sums) rfl rfl (fun w h Y => PySem.W.kIn_of Y) ?F
  case F =>
    intro w mg fa h KX G hmg
    refine' My.all_mk KX G hmg ?a1 ?l1 ?c1 ?k1 ?a2 ?l2 ?c2 ?k2 ?a3 ?l3 ?c3 ?k3 ?a4 ?l4 ?c4 ?k4 ?a5 ?l5 ?c5 ?k5 ?a6 ?l6 ?c6 ?k6 ?a7 ?l7 ?c7 ?k7 ?a8 ?l8 ?c8 ?k8 ?a9 ?l9 ?c9 ?k9 ?a10 ?l10 ?c10 ?k10 ?a11 ?l11 ?c11 ?k11 ?a12 ?l12 ?c12 ?k12 ?a13 ?l13 ?c13 ?k13 ?aC ?am1 ?im1 ?lm1 ?cm1 ?km1 ?am2 ?im2 ?lm2 ?cm2 ?km2 ?am3 ?im3 ?lm3 ?cm3 ?km3 ?am4 ?im4 ?lm4 ?cm4 ?km4 ?am5 ?im5 ?lm5 ?cm5 ?km5 ?am6 ?im6 ?lm6 ?cm6 ?km6 ?am7 ?im7 ?lm7 ?cm7 ?km7 ?am8 ?im8 ?lm8 ?cm8 ?km8 ?pg ?hd ?po ?sa ?mk ?kc ?no_numbers ?no_total ?z_len ?z_sum ?z_range ?z_tuple ?z_list ?z_int ?z_str ?z_bool ?z_isinstance ?z_min ?z_max ?z_zip ?z_reversed ?z_sorted ?z_abs ?z_all ?z_any ?z_set ?z_ValueError
    (case a1 => k_is)
    (case l1 => k_is)
    (case c1 => k_is)
    (case k1 => k_is)
    (case a2 => k_is)
    (case l2 => k_is)
    (case c2 => k_is)
    (case k2 => k_is)
    (case a3 => k_is)
    (case l3 => k_is)
    (case c3 => k_is)
    (case k3 => k_is)
    (case a4 => k_is)
    (case l4 => k_is)
    (case c4 => k_is)
    (case k4 => k_is)
    (case a5 => k_is)
    (case l5 => k_is)
    (case c5 => k_is)
    (case k5 => k_is)
    (case a6 => k_is)
    (case l6 => k_is)
    (case c6 => k_is)
    (case k6 => k_is)
    (case a7 => k_is)
    (case l7 => k_is)
    (case c7 => k_is)
    (case k7 => k_is)
    (case a8 => k_is)
    (case l8 => k_is)
    (case c8 => k_is)
    (case k8 => k_is)
    (case a9 => k_is)
    (case l9 => k_is)
    (case c9 => k_is)
    (case k9 => k_is)
    (case a10 => k_is)
    (case l10 => k_is)
    (case c10 => k_is)
    (case k10 => k_is)
    (case a11 => k_is)
    (case l11 => k_is)
    (case c11 => k_is)
    (case k11 => k_is)
    (case a12 => k_is)
    (case l12 => k_is)
    (case c12 => k_is)
    (case k12 => k_is)
    (case a13 => k_is)
    (case l13 => k_is)
    (case c13 => k_is)
    (case k13 => k_is)
    (case aC => k_is)
    (case am1 => k_is)
    (case im1 => k_is)
    (case lm1 => k_is)
    (case cm1 => k_is)
    (case km1 => k_is)
    (case am2 => k_is)
    (case im2 => k_is)
    (case lm2 => k_is)
    (case cm2 => k_is)
    (case km2 => k_is)
    (case am3 => k_is)
    (case im3 => k_is)
    (case lm3 => k_is)
    (case cm3 => k_is)
    (case km3 => k_is)
    (case am4 => k_is)
    (case im4 => k_is)
    (case lm4 => k_is)
    (case cm4 => k_is)
    (case km4 => k_is)
    (case am5 => k_is)
    (case im5 => k_is)
    (case lm5 => k_is)
    (case cm5 => k_is)
    (case km5 => k_is)
    (case am6 => k_is)
    (case im6 => k_is)
    (case lm6 => k_is)
    (case cm6 => k_is)
    (case km6 => k_is)
    (case am7 => k_is)
    (case im7 => k_is)
    (case lm7 => k_is)
    (case cm7 => k_is)
    (case km7 => k_is)
    (case am8 => k_is)
    (case im8 => k_is)
    (case lm8 => k_is)
    (case cm8 => k_is)
    (case km8 => k_is)
    (case pg => k_is)
    (case hd => k_is)
    (case po => k_is)
    (case sa => k_is)
    (case mk => k_is)
    (case kc => k_is)
    (case no_numbers => k_is)
    (case no_total => k_is)
    (case z_len => k_is)
    (case z_sum => k_is)
    (case z_range => k_is)
    (case z_tuple => k_is)
    (case z_list => k_is)
    (case z_int => k_is)
    (case z_str => k_is)
    (case z_bool => k_is)
    (case z_isinstance => k_is)
    (case z_min => k_is)
    (case z_max => k_is)
    (case z_zip => k_is)
    (case z_reversed => k_is)
    (case z_sorted => k_is)
    (case z_abs => k_is)
    (case z_all => k_is)
    (case z_any => k_is)
    (case z_set => k_is)
    (case z_ValueError => k_is)

