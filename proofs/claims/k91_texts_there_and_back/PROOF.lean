import PyProof.Rows.All
import Wide.All
import OpenK.AllK
import Wide.FinOn
import Lean
import PyProof.EqAt
import PyProof.EqKinds
import PyProof.TupleCall
import KE.KTryMore
import PyProof.ExcAttrAll.ValueError
import KE.KRevIter
import PyProof.SetNew
import PyProof.SetRoads
import PyProof.Rows.SetObj
import PyProof.DictCompW
import PyProof.DictItems
import PyProof.Rows.SetFrom
import PyProof.ListRange
import PyProof.Rows.Range3
import KE.IntBitsLaws
import PyProof.AttrMissHeap
import PyProof.FactsAll.bool_1
import KE.KDictOf
import PyProof.DictRoadsH
import PyProof.P3Eq
import PyProof.Rows.SortStr
import PyProof.Rows.SortWalk
import PyProof.FactsAll.set
import PyProof.CollectWalk
import PyProof.WalkInts
import PyProof.CollectIter
import KE.KMinBuiltin
import PyProof.Rows.CallKwBuiltin
import KE.KIntText
import KE.IntTextLaws
import PyProof.Rows.StrNews2
import Wide.Txt
import PyProof.FString5
import KE.RegKIsAll
import KE.RegKTryMore
import PySem.Challenge.RW_callbinds_k91_texts_there_and_back
set_option Elab.async false
set_option linter.all false
set_option maxRecDepth 100000
/-! THE HAND LAYER, for ints, bools, texts, own classes, LISTS and tuples (index, slices, in, append, pop ..), calls, loops. Paste it whole ahead of your own text; what your proof does not reach may be deleted. -/
namespace L2
open PySem PySem.Spec PyProof.Rows

/-- a key: an int or a str -/
abbrev Key := Sum Int Str
def keyIs : Key → Value → Bool
  | .inl k, v => Value.isInt k v
  | .inr x, v => Value.isStrOf x v
def keyH (w : World) : Key → Int
  | .inl k => hashInt k
  | .inr x => hashStr w x
theorem keyIs_shape : ∀ {k : Key} {v : Value}, keyIs k v = true → (∃ i t, k = Sum.inl i ∧ v = Value.int i t) ∨ (∃ x t, k = Sum.inr x ∧ v = Value.str x t)
  | .inl i, v, h => by
    obtain ⟨t, e⟩ := Value.isInt_shape (k := i) (v := v) h
    exact .inl ⟨i, t, rfl, e⟩
  | .inr x, v, h => by
    obtain ⟨t, e⟩ := Value.isStrOf_shape (x := x) (v := v) h
    exact .inr ⟨x, t, rfl, e⟩
theorem keyIs_int (i : Int) (t : Tok) : keyIs (.inl i) (.int i t) = true := by simp [keyIs, Value.isInt]
theorem keyIs_str (x : Str) (t : Tok) : keyIs (.inr x) (.str x t) = true := by simp [keyIs, Value.isStrOf]
theorem key_ll (a b : Int) : decide ((Sum.inl a : Key) = Sum.inl b) = (a == b) := by
  by_cases e : a = b
  · subst e; simp
  · have h : ¬ (Sum.inl a : Key) = Sum.inl b := fun q => e (Sum.inl.inj q)
    rw [decide_eq_false h]
    exact (beq_eq_false_iff_ne.mpr e).symm
theorem key_rr (a b : Str) : decide ((Sum.inr a : Key) = Sum.inr b) = decide (a = b) := by
  by_cases e : a = b
  · subst e; simp
  · have h : ¬ (Sum.inr a : Key) = Sum.inr b := fun q => e (Sum.inr.inj q)
    rw [decide_eq_false h, decide_eq_false e]
theorem key_lr (a : Int) (b : Str) : decide ((Sum.inl a : Key) = Sum.inr b) = false := decide_eq_false (fun q => nomatch q)
theorem key_rl (a : Str) (b : Int) : decide ((Sum.inr a : Key) = Sum.inl b) = false := decide_eq_false (fun q => nomatch q)

def mixKind (prog : Program) (w : World) : PySem.KeyKind prog w Key where
  is := keyIs
  hash := keyH w
  inj := fun v a b ha hb => by
    rcases keyIs_shape ha with ⟨i, t, rfl, rfl⟩ | ⟨x, t, rfl, rfl⟩
    · rcases keyIs_shape hb with ⟨j, u, rfl, e⟩ | ⟨y, u, rfl, e⟩
      · injection e with e1 _; rw [e1]
      · exact nomatch e
    · rcases keyIs_shape hb with ⟨j, u, rfl, e⟩ | ⟨y, u, rfl, e⟩
      · exact nomatch e
      · injection e with e1 _; rw [e1]
  byValue := fun k v h => by
    rcases keyIs_shape h with ⟨i, t, rfl, rfl⟩ | ⟨x, t, rfl, rfl⟩ <;> rfl
  pyHash := fun hv h => by
    rcases keyIs_shape hv with ⟨i, t, rfl, rfl⟩ | ⟨x, t, rfl, rfl⟩
    · exact wpAny_pyHash_int h
    · exact wpAny_pyHash_str h
  eqBool := fun hu hv h => by
    rcases keyIs_shape hu with ⟨i, t, rfl, rfl⟩ | ⟨x, t, rfl, rfl⟩
    · rcases keyIs_shape hv with ⟨j, u, rfl, rfl⟩ | ⟨y, u, rfl, rfl⟩
      · rw [key_ll] at h; exact wpAny_eqBool_int h
      · rw [key_lr] at h; exact SeqAt.EqAt.int_str i t y u _ _ _ _ h
    · rcases keyIs_shape hv with ⟨j, u, rfl, rfl⟩ | ⟨y, u, rfl, rfl⟩
      · rw [key_rl] at h; exact SeqAt.EqAt.str_int x t j u _ _ _ _ h
      · rw [key_rr] at h; exact wpAny_eqBool_str h
  «strs» := fun k x t v h => by
    rcases keyIs_shape h with ⟨i, u, rfl, e⟩ | ⟨y, u, rfl, e⟩
    · exact nomatch e
    · injection e with e1 _
      subst e1
      cases v <;> rfl

theorem mixKind_int (prog : Program) (w : World) (i : Int) (t : Tok) : (mixKind prog w).is (.inl i) (.int i t) = true := keyIs_int i t
theorem mixKind_str (prog : Program) (w : World) (x : Str) (t : Tok) : (mixKind prog w).is (.inr x) (.str x t) = true := keyIs_str x t
end L2

namespace L2
open PySem PySem.Spec PyProof.Rows

/-- a value, without the heap -/
inductive V where
  | non | bl (b : Bool) | int (i : Int) | str (x : Str) | byt (b : Array UInt8) | flt (b : UInt64) | ref (a : Addr) | ty (n : String)
  deriving DecidableEq

def RelV : V → Value → Prop
  | .non, u => u = Value.none
  | .bl b, u => u = Value.bool b
  | .int i, u => ∃ t, u = Value.int i t
  | .str x, u => ∃ t, u = Value.str x t
  | .byt b, u => ∃ t, u = Value.bytes b t
  | .flt b, u => ∃ t, u = Value.float b t
  | .ref a, u => u = Value.ref a
  | .ty n, u => u = Value.type n

abbrev Vals : List V → List Value → Prop := Paired RelV
theorem Vals.length {xs : List V} {us : List Value} (r : Vals xs us) : xs.length = us.length := Paired.length r
theorem Vals.get : ∀ {xs : List V} {us : List Value} {i : Nat} {x : V}, Vals xs us → xs[i]? = some x → ∃ u, us[i]? = some u ∧ RelV x u
  | _, _, _, _, .nil, e => by simp at e
  | _, _, 0, _, .cons r _, e => by simp at e; subst e; exact ⟨_, rfl, r⟩
  | _, _, i + 1, x, .cons _ t, e => by
    obtain ⟨u, h1, h2⟩ := Vals.get (i := i) (x := x) t (by simpa using e)
    exact ⟨u, by simpa using h1, h2⟩
theorem Vals.append : ∀ {xs ys : List V} {us ws : List Value}, Vals xs us → Vals ys ws → Vals (xs ++ ys) (us ++ ws)
  | _, _, _, _, .nil, s => s
  | _, _, _, _, .cons r t, s => .cons r (Vals.append t s)
theorem Vals.take : ∀ {xs : List V} {us : List Value} (n : Nat), Vals xs us → Vals (xs.take n) (us.take n)
  | _, _, 0, _ => .nil
  | _, _, _ + 1, .nil => .nil
  | _, _, n + 1, .cons r t => .cons r (Vals.take n t)
theorem Vals.drop : ∀ {xs : List V} {us : List Value} (n : Nat), Vals xs us → Vals (xs.drop n) (us.drop n)
  | _, _, 0, r => r
  | _, _, _ + 1, .nil => .nil
  | _, _, n + 1, .cons _ t => Vals.drop n t
def RelO : Option V → Option Value → Prop
  | some v, some u => RelV v u
  | none, none => True
  | _, _ => False
def KV {κ : Type} : List (κ × V) → List (κ × Value) → Prop := Paired fun (p : κ × V) (q : κ × Value) => p.1 = q.1 ∧ RelV p.2 q.2

/-- a key of a dict (00_mix): an int or a text -/
def kV : Key → V
  | .inl i => .int i
  | .inr x => .str x

/-- what stands at a tracked address -/
inductive HO where
  /-- a list -/
  | lst (xs : List V)
  /-- a tuple (never changes) -/
  | tup (xs : List V)
  /-- a dict whose keys are ints and texts; one whose keys are tuples of ints and texts (the empty one is both) -/
  | dK (kvs : List (Key × V)) | dT (kvs : List (List Key × V))
  /-- a set of ints: its members, its size -/
  | set (S : Int → Bool) (n : Nat)
  /-- an instance of the class at C, its dict at dx, its attributes -/
  | ins (C dx : Addr) (fs : List (Str × V))
  /-- the dict of the instance at x -/
  | own (x : Addr)
  /-- the dict of an exception -/
  | xd (fs : List (Str × V))
  /-- a bound method, f of x -/
  | met (f x : Addr)
  /-- a range object lo, lo + 1, .. below hi -/
  | rng (lo hi : Int)
  /-- a thing that is known to the object (the script; a dict while a loop walks it): read, never written while it is so -/
  | frz (o : Obj) (u : HO)
  /-- a code object's table -/
  | tbl (ps : Array Value)
  /-- any other thing, by what is true of its one object (a def of one's own: SetO a S n := HO.ext fun h => ..) -/
  | ext (φ : Heap → Prop)

abbrev Hp := Addr → Option HO
def upd (H : Hp) (a : Addr) (o : HO) : Hp := fun b => if b = a then some o else H b
theorem upd_same {H : Hp} {a : Addr} {o : HO} : upd H a o a = some o := by unfold upd; rw [if_pos rfl]
theorem upd_ne {H : Hp} {a b : Addr} {o : HO} (h : b ≠ a) : upd H a o b = H b := by unfold upd; rw [if_neg h]
theorem upd_upd {H : Hp} {a : Addr} {o u : HO} : upd (upd H a o) a u = upd H a u := by
  funext b; unfold upd; split <;> rfl
/-- two objects of different content stand apart -/
theorem ne_of {H : Hp} {a b : Addr} {o u : HO} (h : H a = some o) (h' : H b = some u) (d : o ≠ u) : a ≠ b := by
  intro e; subst e; rw [h] at h'; exact d (Option.some.inj h')
theorem ne_of_none {H : Hp} {a b : Addr} {o : HO} (h : H a = some o) (h' : H b = none) : a ≠ b := by
  intro e; subst e; rw [h] at h'; cases h'

section
variable (P : Program) (w : World)
def ObjOk (H : Hp) (h : Heap) (a : Addr) : HO → Prop
  | .lst xs => xs.length ≤ sizeLine ∧ ∃ (its : List Value) (n : Nat), Vals xs its ∧ h.get? a = some { cls := .type "list", data := .seq its.toArray n }
  | .tup xs => xs.length ≤ sizeLine ∧ ∃ its : List Value, Vals xs its ∧ IsTup h a its.toArray
  | .dK kvs => kvs.length ≤ sizeLine ∧ (a == sysModules) = false ∧ ∃ vs, KV kvs vs ∧ h.DictOf (mixKind P w) a vs
  | .dT kvs => kvs.length ≤ sizeLine ∧ (a == sysModules) = false ∧ ∃ xs : List (List Key × Addr × Value),
      Paired (fun (p : List Key × V) (q : List Key × Addr × Value) => p.1 = q.1 ∧ H q.2.1 = some (.tup (p.1.map kV)) ∧ RelV p.2 q.2.2) kvs xs ∧
      ∃ o es ep, h.get? a = some o ∧ o.ExactDict ∧ o.data = .dict es ep ∧ es.toList = xs.map (entryOfKey (tupleKind (mixKind P w))) ∧ (xs.map (·.1)).Nodup
  | .set S n => h.SetOf (intKind P w) a S n
  | .ins C dx fs => H dx = some (.own a) ∧ fs.length ≤ 1000 ∧ dx ≠ a ∧ h.get? a = some (PySem.W.instObj C dx) ∧
      ∃ mA, h.Ns1 dx mA ∧ (∀ f, RelO (fs.lookup f) (mA f)) ∧ PySem.Within mA (fs.map (·.1))
  | .own _ => ∃ o, h.get? a = some o
  | .xd fs => ∃ mA, h.Ns1 a mA ∧ ∀ f, RelO (fs.lookup f) (mA f)
  | .rng lo hi => ∃ t u v, h.get? a = some { cls := .type "range", data := .fields #[.int lo t, .int hi u, .int 1 v] }
  | .frz o u => h.get? a = some o ∧ ObjOk H h a u
  | .tbl ps => h.get? a = some { cls := .none, data := .fields ps }
  | .met f x => h.get? a = some (PySem.W.methodObj (.ref f) (.ref x))
  | .ext φ => φ h ∧ (∃ o, h.get? a = some o) ∧ ∀ h1 h2 : Heap, φ h1 → (∀ o, h1.get? a = some o → h2.get? a = some o) → φ h2
/-- the abstract heap is held -/
def HOk (H : Hp) (h : Heap) : Prop := ∀ a o, H a = some o → ObjOk P w H h a o
end

section
variable {P : Program} {w : World} {H H' : Hp} {h h' : Heap} {a : Addr} {o : HO}
theorem ObjOk.lt (x : ObjOk P w H h a o) : a < h.objs.size := by
  cases o with
  | lst xs => obtain ⟨_, _, _, _, e⟩ := x; exact Heap.lt_size e
  | tup xs => obtain ⟨_, _, _, p⟩ := x; exact p.lt
  | dK kvs => obtain ⟨_, _, _, _, o, _, _, e, _⟩ := x; exact Heap.lt_size e
  | dT kvs => obtain ⟨_, _, _, _, o, _, _, e, _⟩ := x; exact Heap.lt_size e
  | set S n => obtain ⟨o, _, _, _, e, _⟩ := x; exact Heap.lt_size e
  | ins C dx fs => obtain ⟨_, _, _, e, _⟩ := x; exact Heap.lt_size e
  | own y => obtain ⟨_, e⟩ := x; exact Heap.lt_size e
  | xd fs => obtain ⟨_, ⟨_, _, _, e, _⟩, _⟩ := x; exact Heap.lt_size e
  | rng lo hi => obtain ⟨_, _, _, e⟩ := x; exact Heap.lt_size e
  | frz ob u => obtain ⟨e, _⟩ := x; exact Heap.lt_size e
  | tbl ps => exact Heap.lt_size (show h.get? a = some _ from x)
  | met f y => exact Heap.lt_size (show h.get? a = some _ from x)
  | ext φ => obtain ⟨_, ⟨_, e⟩, _⟩ := x; exact Heap.lt_size e
theorem Paired.mapP {α β : Type} {F G : α → β → Prop} : ∀ {l₁ : List α} {l₂ : List β}, Paired F l₁ l₂ → (∀ a b, F a b → G a b) → Paired G l₁ l₂
  | _, _, .nil, _ => .nil
  | _, _, .cons r t, f => .cons (f _ _ r) (Paired.mapP t f)
theorem Paired.imp' {α β : Type} {F G : α → β → Prop} (f : ∀ a b, F a b → G a b) {l₁ : List α} {l₂ : List β} (r : Paired F l₁ l₂) : Paired G l₁ l₂ := Paired.mapP r f
/-- what an object's description leans on: its own object, its own dict, the tuples -/
theorem ObjOk.stay (x : ObjOk P w H h a o) (k : ∀ b u, (b = a ∨ H b = some (.own a)) → h.get? b = some u → h'.get? b = some u)
    (ho : ∀ b, H b = some (.own a) → H' b = some (.own a)) (ht : ∀ b xs, H b = some (.tup xs) → H' b = some (.tup xs)) : ObjOk P w H' h' a o := by
  induction o with
  | lst xs => obtain ⟨z, its, n, r, e⟩ := x; exact ⟨z, its, n, r, k _ _ (.inl rfl) e⟩
  | tup xs => obtain ⟨z, its, r, ob, e, c⟩ := x; exact ⟨z, its, r, ob, k _ _ (.inl rfl) e, c⟩
  | dK kvs => obtain ⟨z, y, vs, r, ob, es, ep, e, c⟩ := x; exact ⟨z, y, vs, r, ob, es, ep, k _ _ (.inl rfl) e, c⟩
  | dT kvs =>
    obtain ⟨z, y, xs, r, ob, es, ep, e, c⟩ := x
    exact ⟨z, y, xs, Paired.mapP r fun p q z => ⟨z.1, ht _ _ z.2.1, z.2.2⟩, ob, es, ep, k _ _ (.inl rfl) e, c⟩
  | set S n => obtain ⟨ob, es, ep, t, e, c⟩ := x; exact ⟨ob, es, ep, t, k _ _ (.inl rfl) e, c⟩
  | ins C dx fs =>
    obtain ⟨d, z, ne, e, mA, ⟨od, es, ep, e2, c⟩, r⟩ := x
    exact ⟨ho _ d, z, ne, k _ _ (.inl rfl) e, mA, ⟨od, es, ep, k _ _ (.inr d) e2, c⟩, r⟩
  | own y => obtain ⟨ob, e⟩ := x; exact ⟨ob, k _ _ (.inl rfl) e⟩
  | xd fs => obtain ⟨mA, ⟨od, es, ep, e, c⟩, r⟩ := x; exact ⟨mA, ⟨od, es, ep, k _ _ (.inl rfl) e, c⟩, r⟩
  | rng lo hi => obtain ⟨t, u, v, e⟩ := x; exact ⟨t, u, v, k _ _ (.inl rfl) e⟩
  | frz ob u ih => obtain ⟨e, q⟩ := x; exact ⟨k _ _ (.inl rfl) e, ih q⟩
  | tbl ps =>
    have e : h.get? a = some { cls := .none, data := .fields ps } := x
    show h'.get? a = some { cls := .none, data := .fields ps }
    exact k a _ (.inl rfl) e
  | met f y =>
    have e : h.get? a = some (PySem.W.methodObj (.ref f) (.ref y)) := x
    show h'.get? a = some (PySem.W.methodObj (.ref f) (.ref y))
    exact k a _ (.inl rfl) e
  | ext φ => obtain ⟨p, ⟨o, e⟩, st⟩ := x; exact ⟨st _ _ p fun o q => k _ _ (.inl rfl) q, ⟨o, k _ _ (.inl rfl) e⟩, st⟩
theorem HOk.lt (x : HOk P w H h) (e : H a = some o) : a < h.objs.size := (x a o e).lt
theorem HOk.fresh (x : HOk P w H h) (e : h.objs.size ≤ a) : H a = none := by
  cases q : H a with
  | none => rfl
  | some u => exact absurd (Nat.lt_of_lt_of_le (x.lt q) e) (Nat.lt_irrefl _)
/-- every object of the heap is kept -/
theorem HOk.kept (x : HOk P w H h) (k : ∀ b u, h.get? b = some u → h'.get? b = some u) : HOk P w H h' := fun a o e =>
  (x a o e).stay (fun b u _ q => k b u q) (fun _ q => q) fun _ _ q => q
/-- a new object is laid and tracked -/
theorem HOk.laid (x : HOk P w H h) (k : ∀ b u, h.get? b = some u → h'.get? b = some u) (hp : h.objs.size ≤ a) (new : ObjOk P w (upd H a o) h' a o) : HOk P w (upd H a o) h' := fun b u e => by
  have hn := x.fresh hp
  by_cases hb : b = a
  · subst hb; rw [upd_same] at e; cases e; exact new
  · rw [upd_ne hb] at e
    exact (x b u e).stay (fun c v _ q => k c v q) (fun c q => by rw [upd_ne (ne_of_none q hn)]; exact q) fun c xs q => by rw [upd_ne (ne_of_none q hn)]; exact q
end

/-- what may be read as u: it is u, or a known u -/
def Rd (H : Hp) (a : Addr) (u : HO) : Prop := H a = some u ∨ ∃ o, H a = some (.frz o u)
theorem Rd.ok {P : Program} {w : World} {H : Hp} {h : Heap} {a : Addr} {u : HO} (r : Rd H a u) (x : HOk P w H h) : ObjOk P w H h a u := by
  rcases r with r | ⟨o, r⟩
  · exact x a u r
  · obtain ⟨_, q⟩ := x a _ r
    exact q
/-- what may be written -/
def Mut : Option HO → Prop
  | some (.lst _) => True
  | some (.dK _) => True
  | some (.dT _) => True
  | some (.set _ _) => True
  | some (.ins _ _ _) => True
  | some (.ext _) => True
  | _ => False
section
variable {P : Program} {w : World} {H : Hp} {h h' : Heap} {x e : Addr} {o' : HO}
/-- the object at e is changed: x itself, or the dict of the instance x -/
theorem HOk.write (ok : HOk P w H h) (mu : Mut (H x)) (he : e = x ∨ H e = some (.own x)) (k : ∀ b u, b ≠ e → h.get? b = some u → h'.get? b = some u) (heo : ∃ u, h'.get? e = some u)
    (new : ObjOk P w (upd H x o') h' x o') : HOk P w (upd H x o') h' := fun b u q => by
  have nown : ∀ c y, H c = some (.own y) → c ≠ x := fun c y r z => by subst z; rw [r] at mu; exact mu
  have ntup : ∀ c xs, H c = some (.tup xs) → c ≠ x := fun c xs r z => by subst z; rw [r] at mu; exact mu
  by_cases hb : b = x
  · subst hb; rw [upd_same] at q; cases q; exact new
  · rw [upd_ne hb] at q
    by_cases hbe : b = e
    · have q' : H b = some (.own x) := by
        rcases he with z | z
        · exact absurd (hbe.trans z) hb
        · rw [hbe]; exact z
      rw [q] at q'; cases q'
      obtain ⟨v, hv⟩ := heo
      exact ⟨v, by rw [hbe]; exact hv⟩
    · refine (ok b u q).stay (fun c v hc r => k c v ?_ r) (fun c r => by rw [upd_ne (nown c b r)]; exact r) fun c xs r => by rw [upd_ne (ntup c xs r)]; exact r
      rcases hc with rfl | hc
      · exact hbe
      · rintro rfl
        rcases he with z | z
        · exact nown c b hc z
        · rw [hc] at z; cases z; exact hb rfl
end

/-! ### kept unless tracked; of the frames at fs (the callers') the slots may change (an exception that passes writes there); of the records at ex (iterators) nothing is said -/
structure Un (fs ex : List Addr) (H H' : Hp) (h h' : Heap) : Prop where
  keep : ∀ b o, h.get? b = some o → H b = none → b ∉ fs → b ∉ ex → h'.get? b = some o
  slot : ∀ b o, h.get? b = some o → H b = none → b ∈ fs → b ∉ ex → ∃ sl, h'.get? b = some { o with slots := sl }
  free : ∀ b o, h.get? b = some o → H b = none → b ∉ ex → H' b = none
  there : ∀ b o, h.get? b = some o → b ∉ ex → ∃ o', h'.get? b = some o'
  tups : ∀ b xs, H b = some (.tup xs) → H' b = some (.tup xs)
  frzs : ∀ b o u, H b = some (.frz o u) → H' b = some (.frz o u)
  tbls : ∀ b ps, H b = some (.tbl ps) → ∃ more, H' b = some (.tbl (ps ++ more))
section
variable {fs fs' ex ex' : List Addr} {H H1 H2 : Hp} {h h1 h2 h' : Heap} {a x e : Addr} {o : HO}
theorem Un.any (u : Un fs ex H H1 h h1) {b : Addr} {ob : Obj} (q : h.get? b = some ob) (n : H b = none) (hx : b ∉ ex) : ∃ sl, h1.get? b = some { ob with slots := sl } := by
  by_cases hb : b ∈ fs
  · exact u.slot b ob q n hb hx
  · exact ⟨ob.slots, u.keep b ob q n hb hx⟩
theorem Un.kept (k : ∀ b u, h.get? b = some u → h'.get? b = some u) : Un fs ex H H h h' :=
  ⟨fun b ob q _ _ _ => k b ob q, fun b ob q _ _ _ => ⟨ob.slots, k b ob q⟩, fun _ _ _ n _ => n, fun b ob q _ => ⟨ob, k b ob q⟩, fun _ _ q => q, fun _ _ _ q => q, fun _ ps q => ⟨#[], by rw [q]; simp⟩⟩
theorem Un.refl : Un fs ex H H h h := Un.kept fun _ _ q => q
theorem Un.laid (k : ∀ b u, h.get? b = some u → h'.get? b = some u) (hp : h.objs.size ≤ a) (hn : H a = none) : Un fs ex H (upd H a o) h h' where
  keep := fun b u q _ _ _ => k b u q
  slot := fun b u q _ _ _ => ⟨u.slots, k b u q⟩
  free := fun b u q n _ => by rw [upd_ne (Nat.ne_of_lt (Nat.lt_of_lt_of_le (Heap.lt_size q) hp))]; exact n
  there := fun b u q _ => ⟨u, k b u q⟩
  tups := fun b xs q => by rw [upd_ne (ne_of_none q hn)]; exact q
  frzs := fun b u xs q => by rw [upd_ne (ne_of_none q hn)]; exact q
  tbls := fun b ps q => ⟨#[], by rw [upd_ne (ne_of_none q hn), q]; simp⟩
theorem Un.write (mu : Mut (H x)) (he : e = x ∨ H e = some (.own x)) (k : ∀ b u, b ≠ e → h.get? b = some u → h'.get? b = some u) (heo : ∃ u, h'.get? e = some u) : Un fs ex H (upd H x o) h h' := by
  have hx : ∀ b, H b = none → b ≠ x := fun b n z => by subst z; rw [n] at mu; exact mu
  have hb : ∀ b, H b = none → b ≠ e := fun b n z => by
    subst z
    rcases he with r | r
    · exact hx b n r
    · rw [n] at r; cases r
  have hm : ∀ b u, H b = some u → ¬ Mut (some u) → b ≠ x := fun b u q nm z => by subst z; rw [q] at mu; exact nm mu
  refine ⟨fun b u q n _ _ => k b u (hb b n) q, fun b u q n _ _ => ⟨u.slots, k b u (hb b n) q⟩, fun b u q n _ => by rw [upd_ne (hx b n)]; exact n, fun b u q _ => ?_,
    fun b xs q => by rw [upd_ne (hm b _ q fun z => z)]; exact q, fun b u xs q => by rw [upd_ne (hm b _ q fun z => z)]; exact q, fun b ps q => ⟨#[], by rw [upd_ne (hm b _ q fun z => z), q]; simp⟩⟩
  by_cases hbe : b = e
  · subst hbe; exact heo
  · exact ⟨u, k b u hbe q⟩
end

/-! ### the heap without what is tracked -/
def trk (h : Heap) (H : Hp) : List Addr := (List.range h.objs.size).filter fun a => (H a).isSome
def hidT (h : Heap) (H : Hp) : Heap := PySem.W.hideAll h (trk h H)
theorem hidT_size (h : Heap) (H : Hp) : (hidT h H).objs.size = h.objs.size := PySem.W.hideAll_size _ _
theorem hidT_get {h : Heap} {H : Hp} {b : Addr} {o : Obj} (e : h.get? b = some o) (n : H b = none) : (hidT h H).get? b = some o :=
  PySem.W.hideAll_get _ e fun hm => by
    have q : (H b).isSome = true := (List.mem_filter.mp hm).2
    rw [n] at q; simp at q
theorem of_hidT {h : Heap} {H : Hp} {b : Addr} {o : Obj} (e : (hidT h H).get? b = some o) : h.get? b = some o ∧ H b = none := by
  have e' : h.get? b = some o := PySem.W.of_hideAll (trk h H) e
  refine ⟨e', ?_⟩
  cases q : H b with
  | none => rfl
  | some x =>
    have hm : b ∈ trk h H := List.mem_filter.mpr ⟨List.mem_range.mpr (Heap.lt_size e'), by simp [q]⟩
    have z : (hidT h H).get? b = none := PySem.W.hideAll_none (trk h H) hm
    rw [z] at e; cases e

/-! ### OpenK's ledger, filled with every new object but one -/
def allNews (g h : Heap) (L : Addr) : List (Addr × Obj) := (List.range h.objs.size).filterMap fun a => if a = L ∨ (g.get? a).isSome = true then none else (h.get? a).map fun o => (a, o)
def rest (g h : Heap) (L d : Addr) : List (Addr × Obj) := (allNews g h L).filter fun p => decide (p.1 ≠ d)
end L2

namespace L2
open PySem PySem.Spec PyProof.Rows

/-- the module's facts, over the base: the heap at the law's entry without what is tracked there -/
structure Mod (K : PySem.W.Frag) (mg : Str → Option Value) (base : Heap) : Prop where
  kin : K.In base
  glob : base.Ns mainGlobals mg
  blt : ∃ mb, base.Ns builtinsNs mb ∧ ∀ x : Str, x ≠ "__name__" → mb x = bootBuiltins x
  nolimit : base.NoLimit

/-- the context: a def's body (or a comprehension's block) running. base: fixed through the whole law; s₀, H₀: the entry; outer: the frames whose slots others may change (a def's callers); stack: all frames that run;
   ex: iterators that were made ahead of the entry and are walked here (a comprehension's); fn: the names whose cells were made at the entry (a def: all; a comprehension's block: its own); calm: not within an except suite; pn: pins that every state bears; xe: what is wanted of an exception that leaves the code -/
structure Cx where
  prog : Program
  w : World
  K : PySem.W.Frag
  mg : Str → Option Value
  base : Heap
  A : Around
  N : List Str
  s₀ : Shared
  H₀ : Hp
  env : Env
  outer : List Env
  stack : List Env
  ex : List Addr
  fn : Str → Bool
  calm : Bool
  pn : List (Addr × Obj)
  xe : Value → Shared → Prop
/-- the callers' frames -/
def frs (l : List Env) : List Addr := l.filterMap (·.frame)
abbrev Cx.fs (X : Cx) : List Addr := frs X.outer

def Vis (sc : Scope) (x : Str) : Prop := sc.names.lookup x = some .local ∨ sc.names.lookup x = some .cell ∨ sc.names.lookup x = some .free
def Loc (sc : Scope) (x : Str) : Prop := sc.names.lookup x = some .local ∨ sc.names.lookup x = some .cell
def Look (env : Env) (h : Heap) (m : Str → Option Value) (x : Str) (u : Value) : Prop :=
  (env.kindOf x = some .local ∧ m x = some u) ∨ ((env.kindOf x = some .cell ∨ env.kindOf x = some .free) ∧ ∃ c, env.cells.lookup x = some c ∧ h.IsCell c (some u))

structure Cx.Ok (X : Cx) : Prop where
  mod : Mod X.K X.mg X.base
  kind : X.env.scope.kind = .function
  glob : X.env.globals = mainGlobals
  blt : X.env.builtins = builtinsNs
  above : X.s₀.heap.objs.size ≤ X.env.locals
  inj : ∀ x y c, X.env.cells.lookup x = some c → X.env.cells.lookup y = some c → x = y
  has : ∀ x, (X.env.kindOf x = some .cell ∨ X.env.kindOf x = some .free) → ∃ c, X.env.cells.lookup x = some c
  cab : ∀ x c, X.fn x = true → X.env.cells.lookup x = some c → X.s₀.heap.objs.size ≤ c
  hd : X.calm = true → X.A.handled = none
  frames : X.A.frames = some X.stack
  stk : X.stack = X.outer ∨ (X.stack = X.env :: X.outer ∧ X.env.frame = some X.env.locals)
  exf : ∀ b ∈ X.ex, b ≠ X.env.locals ∧ ∀ x c, X.env.cells.lookup x = some c → c ≠ b
  bs : ∀ b o, X.base.get? b = some o → X.s₀.heap.get? b = some o ∧ X.H₀ b = none
  bsz : X.base.objs.size ≤ X.s₀.heap.objs.size
  noex : ∀ b o, X.base.get? b = some o → b ∉ X.ex
  exfs : ∀ b ∈ X.ex, b ∉ X.fs
  funs : X.s₀.heap.FunFrames X.base X.outer
  frf : ∀ b ∈ X.fs, X.H₀ b = none

structure Inv (X : Cx) (pins : List (Addr × Obj)) (σ : List (Option V)) (H : Hp) (s : Shared) : Prop where
  ok : X.Ok
  os : s.os = X.s₀.os
  bare : AllBare s.gens
  base : Un X.fs X.ex X.H₀ H X.s₀.heap s.heap
  loc : ∃ m, s.heap.Ns X.env.locals m ∧ ∀ (i : Nat) (x : Str) (v : V), X.N[i]? = some x → σ[i]? = some (some v) → Vis X.env.scope x → ∃ u, RelV v u ∧ Look X.env s.heap m x u
  cell : ∀ x c, X.env.cells.lookup x = some c → ∃ v, s.heap.IsCell c v
  free : H X.env.locals = none
  freeC : ∀ x c, X.env.cells.lookup x = some c → H c = none
  pin : ∀ p ∈ X.pn ++ pins, s.heap.get? p.1 = some p.2 ∧ H p.1 = none ∧ p.1 ≠ X.env.locals ∧ p.1 ∉ X.fs ∧ ∀ v, p.2.data ≠ .cell v
  hok : HOk X.prog X.w H s.heap
  len : σ.length = X.N.length

section
variable {X : Cx} {pins : List (Addr × Obj)} {σ : List (Option V)} {H H' : Hp} {s : Shared} {h' : Heap}

theorem Cx.Ok.nofr (ok : X.Ok) {b : Addr} {o : Obj} (e : X.base.get? b = some o) : b ∉ X.fs := fun hb => by
  have := (ok.funs.mem hb).1
  rw [e] at this; cases this
theorem Inv.bs (I : Inv X pins σ H s) : ∀ b o, X.base.get? b = some o → s.heap.get? b = some o ∧ H b = none := fun b o e =>
  ⟨I.base.keep b o (I.ok.bs b o e).1 (I.ok.bs b o e).2 (I.ok.nofr e) (I.ok.noex b o e), I.base.free b o (I.ok.bs b o e).1 (I.ok.bs b o e).2 (I.ok.noex b o e)⟩
theorem Inv.bk (I : Inv X pins σ H s) : ∀ b o, X.base.get? b = some o → s.heap.get? b = some o := fun b o e => (I.bs b o e).1
theorem Inv.mod (I : Inv X pins σ H s) : Mod X.K X.mg X.base := I.ok.mod
theorem Inv.kIn (I : Inv X pins σ H s) : X.K.In s.heap := I.ok.mod.kin.keeps I.bk
theorem Inv.lt (I : Inv X pins σ H s) : X.env.locals < s.heap.objs.size := let ⟨_, hn, _⟩ := I.loc; hn.lt
theorem Inv.sz (I : Inv X pins σ H s) : X.s₀.heap.objs.size ≤ s.heap.objs.size := Nat.le_trans I.ok.above (Nat.le_of_lt I.lt)
theorem Inv.nofs (I : Inv X pins σ H s) {a : Addr} (h : s.heap.objs.size ≤ a) : a ∉ X.fs := fun hb => by
  obtain ⟨_, o, ho, _⟩ := I.ok.funs.mem hb
  exact absurd (Nat.lt_of_lt_of_le (Heap.lt_size ho) (Nat.le_trans I.sz h)) (Nat.lt_irrefl _)
theorem Inv.cne (I : Inv X pins σ H s) : ∀ x c, X.env.cells.lookup x = some c → c ≠ X.env.locals := fun x c e z => by
  obtain ⟨v, o, ho, hd⟩ := I.cell x c e
  obtain ⟨m, ⟨o', es, ep, ho', hd', _⟩, _⟩ := I.loc
  rw [z, ho'] at ho; cases ho; rw [hd'] at hd; cases hd
theorem Inv.funs (I : Inv X pins σ H s) : s.heap.FunFrames X.base X.outer := by
  have all : ∀ (l : List Env), (∀ b ∈ frs l, b ∈ X.fs) → X.s₀.heap.FunFrames X.base l → s.heap.FunFrames X.base l := by
    intro l
    induction l with
    | nil => intro _ _; trivial
    | cons env r ih =>
      intro hs hl
      obtain ⟨hk, ⟨L, o, hf, hn, ho, hd⟩, hr⟩ := hl
      have hL : L ∈ X.fs := hs L (by unfold frs; rw [List.filterMap_cons, hf]; exact List.mem_cons_self)
      obtain ⟨sl, e⟩ := I.base.slot L o ho (I.ok.frf L hL) hL fun z => I.ok.exfs L z hL
      exact ⟨hk, ⟨L, _, hf, hn, e, hd⟩, ih (fun b hb => hs b (by unfold frs; rw [List.filterMap_cons, hf]; exact List.mem_cons_of_mem _ hb)) hr⟩
  exact all X.outer (fun _ hb => hb) I.ok.funs

/-- the frames that run, for a call -/
theorem Inv.stack (I : Inv X pins σ H s) : s.heap.FunFrames X.base X.stack := by
  rcases I.ok.stk with e | ⟨e, hf⟩
  · rw [e]; exact I.funs
  · rw [e]
    obtain ⟨m, hn, _⟩ := I.loc
    refine .cons (by rw [I.ok.kind]; decide) hf hn ?_ I.funs
    exact Heap.get?_none_of_le (Nat.le_trans I.ok.bsz I.ok.above)
theorem Inv.stkSub (I : Inv X pins σ H s) : ∀ b ∈ frs X.stack, b ∈ X.env.locals :: X.fs := fun b hb => by
  rcases I.ok.stk with e | ⟨e, hf⟩
  · rw [e] at hb; exact List.mem_cons_of_mem _ hb
  · rw [e] at hb
    unfold frs at hb
    rw [List.filterMap_cons, hf] at hb
    exact hb
theorem Inv.stkFree (I : Inv X pins σ H s) : ∀ b ∈ frs X.stack, H b = none := fun b hb => by
  rcases List.mem_cons.mp (I.stkSub b hb) with e | hb
  · rw [e]; exact I.free
  · obtain ⟨_, o, ho, _⟩ := I.ok.funs.mem hb
    exact I.base.free b o ho (I.ok.frf b hb) fun z => I.ok.exfs b z hb

/-- THE STEP: the untracked objects but the frame and the records at ch are kept (the callers' frames up to slots), the frame's map is kept, the new abstract heap is held -/
theorem Inv.step {g' : Array GenState} {t' : Nat} {d' : Drawn} {ch : List Addr} (I : Inv X pins σ H s)
    (hch : ∀ b ∈ ch, (b ∈ X.ex ∨ X.s₀.heap.objs.size ≤ b) ∧ b ≠ X.env.locals ∧ (∀ x c, X.env.cells.lookup x = some c → c ≠ b) ∧ ∀ p ∈ X.pn ++ pins, p.1 ≠ b)
    (keep : ∀ b o, b ≠ X.env.locals → b ∉ X.fs → b ∉ ch → s.heap.get? b = some o → H b = none → h'.get? b = some o)
    (slot : ∀ b o, b ≠ X.env.locals → b ∈ X.fs → b ∉ ch → s.heap.get? b = some o → H b = none → ∃ sl, h'.get? b = some { o with slots := sl }) (free : ∀ b o, b ∉ ch → s.heap.get? b = some o → H b = none → H' b = none)
    (there : ∀ b o, b ∉ ch → s.heap.get? b = some o → ∃ o', h'.get? b = some o')
    (tups : ∀ b xs, H b = some (.tup xs) → H' b = some (.tup xs)) (frzs : ∀ b o u, H b = some (.frz o u) → H' b = some (.frz o u)) (tbls : ∀ b ps, H b = some (.tbl ps) → ∃ more, H' b = some (.tbl (ps ++ more)))
    (ns : ∀ m, s.heap.Ns X.env.locals m → h'.Ns X.env.locals m) (hok : HOk X.prog X.w H' h') (hg : AllBare g') :
    Inv X pins σ H' { s with heap := h', gens := g', drawn := d', toks := t' } := by
  have neL : ∀ b o, X.s₀.heap.get? b = some o → b ≠ X.env.locals := fun b o e => Nat.ne_of_lt (Nat.lt_of_lt_of_le (Heap.lt_size e) I.ok.above)
  have neC : ∀ b o, X.s₀.heap.get? b = some o → b ∉ X.ex → b ∉ ch := fun b o e hx hb => by
    rcases (hch b hb).1 with z | z
    · exact hx z
    · exact absurd (Nat.lt_of_lt_of_le (Heap.lt_size e) z) (Nat.lt_irrefl _)
  have cellK : ∀ x c, X.env.cells.lookup x = some c → ∀ v, s.heap.IsCell c v → h'.IsCell c v := fun x c e v ⟨o, ho, hd⟩ => by
    have nch : c ∉ ch := fun z => (hch c z).2.2.1 x c e rfl
    by_cases hc : c ∈ X.fs
    · obtain ⟨sl, q⟩ := slot c o (I.cne x c e) hc nch ho (I.freeC x c e)
      exact ⟨_, q, hd⟩
    · exact ⟨o, keep c o (I.cne x c e) hc nch ho (I.freeC x c e), hd⟩
  refine ⟨I.ok, I.os, hg, ⟨fun b o e n hb hx => ?_, fun b o e n hb hx => ?_, fun b o e n hx => ?_, fun b o e hx => ?_, fun b xs e => tups b xs (I.base.tups b xs e), fun b o xs e => frzs b o xs (I.base.frzs b o xs e), fun b ps e => ?_⟩, ?_, fun x c e => ?_, ?_, fun x c e => ?_, fun p hp => ?_, hok, I.len⟩
  · exact keep b o (neL b o e) hb (neC b o e hx) (I.base.keep b o e n hb hx) (I.base.free b o e n hx)
  · obtain ⟨sl, e1⟩ := I.base.slot b o e n hb hx
    obtain ⟨sl', e2⟩ := slot b _ (neL b o e) hb (neC b o e hx) e1 (I.base.free b o e n hx)
    exact ⟨sl', e2⟩
  · obtain ⟨o', e1⟩ := I.base.there b o e hx
    exact free b o' (neC b o e hx) e1 (I.base.free b o e n hx)
  · obtain ⟨o', e1⟩ := I.base.there b o e hx
    exact there b o' (neC b o e hx) e1
  · obtain ⟨m1, e1⟩ := I.base.tbls b ps e
    obtain ⟨m2, e2⟩ := tbls b _ e1
    exact ⟨m1 ++ m2, by rw [e2, Array.append_assoc]⟩
  · obtain ⟨m, hn, hl⟩ := I.loc
    refine ⟨m, ns m hn, fun i x v e1 e2 e3 => ?_⟩
    obtain ⟨u, r, l⟩ := hl i x v e1 e2 e3
    refine ⟨u, r, ?_⟩
    rcases l with l | ⟨k, c, e, z⟩
    · exact .inl l
    · exact .inr ⟨k, c, e, cellK x c e _ z⟩
  · obtain ⟨v, z⟩ := I.cell x c e
    exact ⟨v, cellK x c e v z⟩
  · obtain ⟨m, ⟨o, _, _, ho, _⟩, _⟩ := I.loc
    exact free _ o (fun z => (hch _ z).2.1 rfl) ho I.free
  · obtain ⟨v, o, ho, hd⟩ := I.cell x c e
    exact free c o (fun z => (hch c z).2.2.1 x c e rfl) ho (I.freeC x c e)
  · obtain ⟨e, n, ne, nf, d⟩ := I.pin p hp
    have nch : p.1 ∉ ch := fun z => (hch p.1 z).2.2.2 p hp rfl
    exact ⟨keep p.1 p.2 ne nf nch e n, free p.1 p.2 nch e n, ne, nf, d⟩
/-- .. where the frame's own object is kept too -/
theorem Inv.un {t' : Nat} (I : Inv X pins σ H s) (u : Un X.fs [] H H' s.heap h') (hok : HOk X.prog X.w H' h') : Inv X pins σ H' { s with heap := h', toks := t' } := by
  obtain ⟨m, ⟨o, es, ep, ho, r⟩, _⟩ := id I.loc
  obtain ⟨sl, hL⟩ := u.any ho I.free (by simp)
  exact I.step (g' := s.gens) (d' := s.drawn) (ch := []) (fun _ z => nomatch z) (fun b o _ hb _ e n => u.keep b o e n hb (by simp)) (fun b o _ hb _ e n => u.slot b o e n hb (by simp)) (fun b o _ e n => u.free b o e n (by simp)) (fun b o _ e => u.there b o e (by simp)) u.tups u.frzs u.tbls (fun m' hm => by
    obtain ⟨o', es', ep', ho', r'⟩ := hm
    rw [ho] at ho'; cases ho'
    exact ⟨_, es', ep', hL, r'⟩) hok I.bare
/-- behind a call (or a comprehension's block): the slots of this frame may have changed too, the records at ch may have turned -/
theorem Inv.call {g' : Array GenState} {t' : Nat} {d' : Drawn} {ch : List Addr} (I : Inv X pins σ H s) (u : Un (frs X.stack) ch H H' s.heap h') (hok : HOk X.prog X.w H' h') (hg : AllBare g')
    (hch : ∀ b ∈ ch, (b ∈ X.ex ∨ X.s₀.heap.objs.size ≤ b) ∧ b ≠ X.env.locals ∧ (∀ x c, X.env.cells.lookup x = some c → c ≠ b) ∧ ∀ p ∈ X.pn ++ pins, p.1 ≠ b) :
    Inv X pins σ H' { s with heap := h', gens := g', drawn := d', toks := t' } := by
  obtain ⟨m, ⟨o, es, ep, ho, r⟩, _⟩ := id I.loc
  obtain ⟨sl, hL⟩ := u.any ho I.free fun z => (hch _ z).2.1 rfl
  exact I.step (ch := ch) hch (fun b o hL hb hc e n => u.keep b o e n (fun z => (List.mem_cons.mp (I.stkSub b z)).elim hL hb) hc) (fun b o _ _ hc e n => u.any e n hc) (fun b o hc e n => u.free b o e n hc) (fun b o hc e => u.there b o e hc) u.tups u.frzs u.tbls (fun m' hm => by
    obtain ⟨o', es', ep', ho', r'⟩ := hm
    rw [ho] at ho'; cases ho'
    exact ⟨_, es', ep', hL, r'⟩) hok hg
/-- an untracked record of ours (an iterator) has turned -/
theorem Inv.turned {t' : Nat} {it : Addr} (I : Inv X pins σ H s) (k : ∀ b o, b ≠ it → s.heap.get? b = some o → h'.get? b = some o) (hn : H it = none) (hL : it ≠ X.env.locals)
    (h1 : it ∈ X.ex ∨ X.s₀.heap.objs.size ≤ it) (h2 : ∀ x c, X.env.cells.lookup x = some c → c ≠ it) (h3 : ∀ p ∈ X.pn ++ pins, p.1 ≠ it) : Inv X pins σ H { s with heap := h', toks := t' } := by
  have nit : ∀ b u, H b = some u → b ≠ it := fun b u e z => by rw [z, hn] at e; cases e
  refine I.step (g' := s.gens) (d' := s.drawn) (ch := [it]) (fun b hb => ?_) (fun b o _ _ hc e _ => k b o (fun z => hc (by simp [z])) e) (fun b o _ _ hc e _ => ⟨o.slots, k b o (fun z => hc (by simp [z])) e⟩) (fun _ _ _ _ n => n)
    (fun b o hc e => ⟨o, k b o (fun z => hc (by simp [z])) e⟩) (fun _ _ e => e) (fun _ _ _ e => e) (fun b ps e => ⟨#[], by rw [e]; simp⟩) (fun m hm => ?_) (fun b u e => ?_) I.bare
  · have e : b = it := by simpa using hb
    subst e
    exact ⟨h1, hL, h2, h3⟩
  · obtain ⟨o, es, ep, ho, r⟩ := hm
    exact ⟨o, es, ep, k _ o (Ne.symm hL) ho, r⟩
  · refine (I.hok b u e).stay (fun c v hc q => k c v ?_ q) (fun _ q => q) fun _ _ q => q
    rcases hc with z | z
    · rw [z]; exact nit b u e
    · exact nit c _ z
theorem Inv.tok (I : Inv X pins σ H s) (t : Nat) : Inv X pins σ H { s with toks := t } := I.un (h' := s.heap) (t' := t) Un.refl I.hok
/-- all objects kept -/
theorem Inv.kept {t' : Nat} (I : Inv X pins σ H s) (k : ∀ b u, s.heap.get? b = some u → h'.get? b = some u) : Inv X pins σ H { s with heap := h', toks := t' } := I.un (Un.kept k) (I.hok.kept k)
/-- a new object laid and tracked -/
theorem Inv.laid {a : Addr} {o : HO} {t' : Nat} (I : Inv X pins σ H s) (k : ∀ b u, s.heap.get? b = some u → h'.get? b = some u) (hp : s.heap.objs.size ≤ a) (new : ObjOk X.prog X.w (upd H a o) h' a o) :
    Inv X pins σ (upd H a o) { s with heap := h', toks := t' } := I.un (Un.laid k hp (I.hok.fresh hp)) (I.hok.laid k hp new)
/-- an object written -/
theorem Inv.write {x e : Addr} {o : HO} {t' : Nat} (I : Inv X pins σ H s) (mu : Mut (H x)) (he : e = x ∨ H e = some (.own x)) (k : ∀ b u, b ≠ e → s.heap.get? b = some u → h'.get? b = some u) (heo : ∃ u, h'.get? e = some u)
    (new : ObjOk X.prog X.w (upd H x o) h' x o) : Inv X pins σ (upd H x o) { s with heap := h', toks := t' } := I.un (Un.write mu he k heo) (I.hok.write mu he k heo new)
/-- forgetting slots, pins -/
theorem Inv.weak {σ' : List (Option V)} (I : Inv X pins σ H s) (hl : σ'.length = σ.length) (w : ∀ (i : Nat) v, σ'[i]? = some (some v) → σ[i]? = some (some v)) : Inv X pins σ' H s :=
  ⟨I.ok, I.os, I.bare, I.base, let ⟨m, hn, hl'⟩ := I.loc; ⟨m, hn, fun i x v e1 e2 e3 => hl' i x v e1 (w i v e2) e3⟩, I.cell, I.free, I.freeC, I.pin, I.hok, hl.trans I.len⟩
theorem Inv.pins_of {pins' : List (Addr × Obj)} (I : Inv X pins σ H s) (h : ∀ p ∈ pins', s.heap.get? p.1 = some p.2 ∧ H p.1 = none ∧ p.1 ≠ X.env.locals ∧ p.1 ∉ X.fs ∧ ∀ v, p.2.data ≠ .cell v) : Inv X pins' σ H s :=
  ⟨I.ok, I.os, I.bare, I.base, I.loc, I.cell, I.free, I.freeC, fun p hp => (List.mem_append.mp hp).elim (fun z => I.pin p (List.mem_append_left _ z)) (h p), I.hok, I.len⟩

theorem nodup_ix {N : List Str} (hN : N.Nodup) {i j : Nat} {x : Str} (a : N[i]? = some x) (b : N[j]? = some x) : i = j := by
  obtain ⟨h1, e1⟩ := List.getElem?_eq_some_iff.mp a
  obtain ⟨h2, e2⟩ := List.getElem?_eq_some_iff.mp b
  exact (List.getElem_inj hN).mp (e1.trans e2.symm)

/-- a name is stored; what changed -/
theorem store_ok2 {M : Model} {A : Around} {E : Value → Shared → Prop} {i : Nat} {x : Str} {v : V} {u : Value} {Q : Unit → Shared → Prop} (I : Inv X pins σ H s) (hN : X.N.Nodup) (hi : X.N[i]? = some x) (hx : Loc X.env.scope x) (r : RelV v u)
    (h : ∀ s', Inv X pins (σ.set i (some v)) H s' → (∃ a, Heap.SameBut a s.heap s'.heap ∧ (a = X.env.locals ∨ X.env.cells.lookup x = some a)) → Q () s') (hf : X.fn x = true ∨ X.env.scope.names.lookup x = some .local := by first | exact .inl rfl | exact .inr rfl | assumption) : wpAny M A (storeName X.env x u) Q E s := by
  obtain ⟨m, hn, hl⟩ := id I.loc
  have hcls : (X.env.scope.kind == .class || (X.env.scope.kind == .module && X.env.locals != X.env.globals)) = false := by rw [I.ok.kind]; rfl
  have hiσ : i < σ.length := by rw [I.len]; exact (List.getElem?_eq_some_iff.mp hi).1
  have cne := I.cne
  have tracked : ∀ {a : Addr} {h' : Heap}, (∃ o, s.heap.get? a = some o ∧ H a = none) → Heap.SameBut a s.heap h' → HOk X.prog X.w H h' := fun {a h'} ha hs b ob e => by
    obtain ⟨_, _, hfree⟩ := ha
    refine (I.hok b ob e).stay (fun c w' hc q => (hs.2 c ?_).trans q) (fun _ q => q) fun _ _ q => q
    rintro rfl
    rcases hc with rfl | hc
    · rw [hfree] at e; cases e
    · rw [hfree] at hc; cases hc
  rcases hx with hk | hk
  · refine wpAny_storeName_local hk hn (fun h' hn' hs => ?_) hcls
    obtain ⟨oL, _, _, hoL, _⟩ := id hn
    refine h _ ⟨I.ok, I.os, I.bare, ⟨fun b o e n hb hx => ?_, fun b o e n hb hx => ?_, I.base.free, fun b o e hx => ?_, I.base.tups, I.base.frzs, I.base.tbls⟩, ⟨_, hn', fun j y v' e1 e2 e3 => ?_⟩, fun y c e => ?_, I.free, I.freeC, fun p hp => ?_, tracked ⟨oL, hoL, I.free⟩ hs, by simpa using I.len⟩ ⟨_, hs, .inl rfl⟩
    · exact (hs.2 b (Nat.ne_of_lt (Nat.lt_of_lt_of_le (Heap.lt_size e) I.ok.above))).trans (I.base.keep b o e n hb hx)
    · obtain ⟨sl, e1⟩ := I.base.slot b o e n hb hx
      exact ⟨sl, (hs.2 b (Nat.ne_of_lt (Nat.lt_of_lt_of_le (Heap.lt_size e) I.ok.above))).trans e1⟩
    · obtain ⟨o', e1⟩ := I.base.there b o e hx
      exact ⟨o', (hs.2 b (Nat.ne_of_lt (Nat.lt_of_lt_of_le (Heap.lt_size e) I.ok.above))).trans e1⟩
    · by_cases hj : j = i
      · subst hj
        rw [hi] at e1; cases e1
        rw [List.getElem?_set_self hiσ] at e2
        cases e2
        exact ⟨u, r, .inl ⟨hk, by simp⟩⟩
      · rw [List.getElem?_set_ne (Ne.symm hj)] at e2
        obtain ⟨u', r', q⟩ := hl j y v' e1 e2 e3
        refine ⟨u', r', ?_⟩
        rcases q with ⟨k, e⟩ | ⟨k, c, e, z⟩
        · refine .inl ⟨k, ?_⟩
          have : y ≠ x := fun e => hj (nodup_ix hN e1 (e ▸ hi))
          simp [this, e]
        · exact .inr ⟨k, c, e, z.sameBut hs (cne y c e)⟩
    · obtain ⟨w', z⟩ := I.cell y c e
      exact ⟨w', z.sameBut hs (cne y c e)⟩
    · obtain ⟨e, n, ne, nf, d⟩ := I.pin p hp
      exact ⟨(hs.2 p.1 ne).trans e, n, ne, nf, d⟩
  · have hfn : X.fn x = true := by
      rcases hf with z | z
      · exact z
      · rw [z] at hk; cases hk
    obtain ⟨c, hc⟩ := I.ok.has x (.inl hk)
    obtain ⟨w', z⟩ := I.cell x c hc
    refine wpAny_storeName_cell I.ok.kind hk hc z (fun h' hc' hs => ?_)
    obtain ⟨oc, hoc, hocd⟩ := id z
    refine h { s with heap := h' } ⟨I.ok, I.os, I.bare, ⟨fun b o e n hb hx => ?_, fun b o e n hb hx => ?_, I.base.free, fun b o e hx => ?_, I.base.tups, I.base.frzs, I.base.tbls⟩, ⟨m, hn.sameBut hs (Ne.symm (cne x c hc)), fun j y v' e1 e2 e3 => ?_⟩, fun y c' e => ?_, I.free, I.freeC, fun p hp => ?_, tracked ⟨oc, hoc, I.freeC x c hc⟩ hs, by simpa using I.len⟩ ⟨c, hs, .inr hc⟩
    · exact (hs.2 b (Nat.ne_of_lt (Nat.lt_of_lt_of_le (Heap.lt_size e) (I.ok.cab x c hfn hc)))).trans (I.base.keep b o e n hb hx)
    · obtain ⟨sl, e1⟩ := I.base.slot b o e n hb hx
      exact ⟨sl, (hs.2 b (Nat.ne_of_lt (Nat.lt_of_lt_of_le (Heap.lt_size e) (I.ok.cab x c hfn hc)))).trans e1⟩
    · obtain ⟨o', e1⟩ := I.base.there b o e hx
      exact ⟨o', (hs.2 b (Nat.ne_of_lt (Nat.lt_of_lt_of_le (Heap.lt_size e) (I.ok.cab x c hfn hc)))).trans e1⟩
    · by_cases hj : j = i
      · subst hj
        rw [hi] at e1; cases e1
        rw [List.getElem?_set_self hiσ] at e2
        cases e2
        exact ⟨u, r, .inr ⟨.inl hk, c, hc, hc'⟩⟩
      · rw [List.getElem?_set_ne (Ne.symm hj)] at e2
        obtain ⟨u', r', q⟩ := hl j y v' e1 e2 e3
        refine ⟨u', r', ?_⟩
        rcases q with q | ⟨k, c', e, z'⟩
        · exact .inl q
        · refine .inr ⟨k, c', e, z'.sameBut hs ?_⟩
          rintro rfl
          exact hj (nodup_ix hN e1 (I.ok.inj _ _ _ e hc ▸ hi))
    · by_cases hcc : c' = c
      · subst hcc; exact ⟨_, hc'⟩
      · obtain ⟨w2, z2⟩ := I.cell y c' e
        exact ⟨w2, z2.sameBut hs hcc⟩
    · obtain ⟨e, n, ne, nf, d⟩ := I.pin p hp
      refine ⟨(hs.2 p.1 ?_).trans e, n, ne, nf, d⟩
      intro q
      rw [q, hoc] at e
      have q' : oc = p.2 := Option.some.inj e
      exact d w' (by rw [← q']; exact hocd)
theorem store_ok {M : Model} {A : Around} {E : Value → Shared → Prop} {i : Nat} {x : Str} {v : V} {u : Value} {Q : Unit → Shared → Prop} (I : Inv X pins σ H s) (hN : X.N.Nodup) (hi : X.N[i]? = some x) (hx : Loc X.env.scope x) (r : RelV v u)
    (h : ∀ s', Inv X pins (σ.set i (some v)) H s' → Q () s') (hf : X.fn x = true ∨ X.env.scope.names.lookup x = some .local := by first | exact .inl rfl | exact .inr rfl | assumption) : wpAny M A (storeName X.env x u) Q E s :=
  store_ok2 I hN hi hx r (fun s' I' _ => h s' I') hf
/-- behind a call or a block, the state as it is -/
theorem Inv.call' {s' : Shared} {ch : List Addr} (I : Inv X pins σ H s) (ho : s'.os = s.os) (u : Un (frs X.stack) ch H H' s.heap s'.heap) (hok : HOk X.prog X.w H' s'.heap) (hg : AllBare s'.gens)
    (hch : ∀ b ∈ ch, (b ∈ X.ex ∨ X.s₀.heap.objs.size ≤ b) ∧ b ≠ X.env.locals ∧ (∀ x c, X.env.cells.lookup x = some c → c ≠ b) ∧ ∀ p ∈ X.pn ++ pins, p.1 ≠ b) : Inv X pins σ H' s' := by
  obtain ⟨h', g', d', t', o'⟩ := s'
  have e : o' = s.os := ho
  subst e
  exact I.call (g' := g') (t' := t') (d' := d') u hok hg hch
end

/-! ### the judgements -/
/-- an exception: its class, its own dict's address (where it has one), the abstract heap behind it -/
abbrev XK := Value → Option Addr → Hp → Prop
abbrev St := List (Option V)
abbrev VK := V → Hp → Prop
/-- an expression's reading; a test's; an argument list's -/
abbrev TE := St → Hp → VK → Prop
abbrev TT := St → Hp → (Bool → Hp → Prop) → Prop
abbrev TA := St → Hp → (List V → Hp → Prop) → Prop
/-- what is wanted behind a statement -/
structure Ends where
  nx : St → Hp → Prop
  rt : VK
  bk : St → Hp → Prop := fun _ _ => False
  ct : St → Hp → Prop := fun _ _ => False
abbrev TS := Ends → St → Hp → Prop

def EP (X : Cx) (pins : List (Addr × Obj)) (σ : St) (Q : VK) (u : Value) (s' : Shared) : Prop := ∃ v H', Inv X pins σ H' s' ∧ RelV v u ∧ Q v H'
def TP (X : Cx) (pins : List (Addr × Obj)) (σ : St) (Q : Bool → Hp → Prop) (b : Bool) (s' : Shared) : Prop := ∃ H', Inv X pins σ H' s' ∧ Q b H'
def AP (X : Cx) (pins : List (Addr × Obj)) (σ : St) (Q : List V → Hp → Prop) (us : List Value) (s' : Shared) : Prop := ∃ vs H', Inv X pins σ H' s' ∧ Vals vs us ∧ Q vs H'
def SP (X : Cx) (pins : List (Addr × Obj)) (D : Ends) (f : Flow) (s' : Shared) : Prop :=
  match f with
  | .next => ∃ σ' H', Inv X pins σ' H' s' ∧ D.nx σ' H'
  | .brk => ∃ σ' H', Inv X pins σ' H' s' ∧ D.bk σ' H'
  | .cont => ∃ σ' H', Inv X pins σ' H' s' ∧ D.ct σ' H'
  | .ret u => ∃ v σ' H', Inv X pins σ' H' s' ∧ RelV v u ∧ D.rt v H'

structure PE (X : Cx) (e : Expr) (t : TE) : Prop where
  run : ∀ (pins : List (Addr × Obj)) (s : Shared) (σ : St) (H : Hp) (Q : VK), Inv X pins σ H s → t σ H Q → wpAny (model X.prog X.w) X.A (eval e X.env) (EP X pins σ Q) X.xe s
instance {X : Cx} {e : Expr} {t : TE} : CoeFun (PE X e t) (fun _ => ∀ (pins : List (Addr × Obj)) (s : Shared) (σ : St) (H : Hp) (Q : VK), Inv X pins σ H s → t σ H Q → wpAny (model X.prog X.w) X.A (eval e X.env) (EP X pins σ Q) X.xe s) := ⟨PE.run⟩

structure PT (X : Cx) (e : Expr) (t : TT) : Prop where
  run : ∀ (pins : List (Addr × Obj)) (s : Shared) (σ : St) (H : Hp) (Q : Bool → Hp → Prop), Inv X pins σ H s → t σ H Q → wpAny (model X.prog X.w) X.A (isTrue e X.env (eval e X.env)) (TP X pins σ Q) X.xe s
instance {X : Cx} {e : Expr} {t : TT} : CoeFun (PT X e t) (fun _ => ∀ (pins : List (Addr × Obj)) (s : Shared) (σ : St) (H : Hp) (Q : Bool → Hp → Prop), Inv X pins σ H s → t σ H Q → wpAny (model X.prog X.w) X.A (isTrue e X.env (eval e X.env)) (TP X pins σ Q) X.xe s) := ⟨PT.run⟩

/-- a test whatever its 'whole' is (and, or) -/
structure PW (X : Cx) (e : Expr) (t : TT) : Prop where
  run : ∀ (whole : Sem Value) (pins : List (Addr × Obj)) (s : Shared) (σ : St) (H : Hp) (Q : Bool → Hp → Prop), Inv X pins σ H s → t σ H Q → wpAny (model X.prog X.w) X.A (isTrue e X.env whole) (TP X pins σ Q) X.xe s
instance {X : Cx} {e : Expr} {t : TT} : CoeFun (PW X e t) (fun _ => ∀ (whole : Sem Value) (pins : List (Addr × Obj)) (s : Shared) (σ : St) (H : Hp) (Q : Bool → Hp → Prop), Inv X pins σ H s → t σ H Q → wpAny (model X.prog X.w) X.A (isTrue e X.env whole) (TP X pins σ Q) X.xe s) := ⟨PW.run⟩

theorem PW.pt {X : Cx} {e : Expr} {t : TT} (h : PW X e t) : PT X e t := ⟨h _⟩
/-- an argument list (no star), from the left -/
structure PA (X : Cx) (es : List Expr) (t : TA) : Prop where
  run : ∀ (pos : Pos) (pins : List (Addr × Obj)) (s : Shared) (σ : St) (H : Hp) (Q : List V → Hp → Prop), Inv X pins σ H s → t σ H Q → wpAny (model X.prog X.w) X.A (spliced (backTo pos (starEach es X.env))) (AP X pins σ Q) X.xe s
instance {X : Cx} {es : List Expr} {t : TA} : CoeFun (PA X es t) (fun _ => ∀ (pos : Pos) (pins : List (Addr × Obj)) (s : Shared) (σ : St) (H : Hp) (Q : List V → Hp → Prop), Inv X pins σ H s → t σ H Q → wpAny (model X.prog X.w) X.A (spliced (backTo pos (starEach es X.env))) (AP X pins σ Q) X.xe s) := ⟨PA.run⟩

structure PS (X : Cx) (st : Stmt) (t : TS) : Prop where
  run : ∀ (pins : List (Addr × Obj)) (s : Shared) (σ : St) (H : Hp) (D : Ends), Inv X pins σ H s → t D σ H → wpAny (model X.prog X.w) X.A (exec st X.env) (SP X pins D) X.xe s
instance {X : Cx} {st : Stmt} {t : TS} : CoeFun (PS X st t) (fun _ => ∀ (pins : List (Addr × Obj)) (s : Shared) (σ : St) (H : Hp) (D : Ends), Inv X pins σ H s → t D σ H → wpAny (model X.prog X.w) X.A (exec st X.env) (SP X pins D) X.xe s) := ⟨PS.run⟩

structure PSs (X : Cx) (st : List Stmt) (t : TS) : Prop where
  run : ∀ (pins : List (Addr × Obj)) (s : Shared) (σ : St) (H : Hp) (D : Ends), Inv X pins σ H s → t D σ H → wpAny (model X.prog X.w) X.A (execs st X.env) (SP X pins D) X.xe s
instance {X : Cx} {st : List Stmt} {t : TS} : CoeFun (PSs X st t) (fun _ => ∀ (pins : List (Addr × Obj)) (s : Shared) (σ : St) (H : Hp) (D : Ends), Inv X pins σ H s → t D σ H → wpAny (model X.prog X.w) X.A (execs st X.env) (SP X pins D) X.xe s) := ⟨PSs.run⟩

/-- weaken the end -/
theorem thn {α : Type} {t : Sem α} {Q Q' : α → Shared → Prop} {M : Model} {A : Around} {E : Value → Shared → Prop} {s : Shared} (h : wpAny M A t Q E s) (hQ : ∀ a s, Q a s → Q' a s) : wpAny M A t Q' E s := wpAny_mono h hQ fun _ _ x => x
end L2

namespace L2
open PySem PySem.Spec PyProof.Rows
section
variable {X : Cx}

/-! ### names and constants -/
inductive IVar (i : Nat) (σ : St) (H : Hp) (Q : VK) : Prop where
  | mk (v : V) (e : σ[i]? = some (some v)) (q : Q v H)
def tVar (i : Nat) : TE := fun σ H Q => IVar i σ H Q
def tC (v : V) : TE := fun _ H Q => Q v H
theorem pe_var {i : Nat} {x : Str} {pos : Pos} (hN : X.N[i]? = some x) (hv : Vis X.env.scope x) (hd : (x == ("__debug__" : Str)) = false := by decide) (hcd : (x == ("__classdict__" : Str)) = false := by decide) : PE X (.Name x pos) (tVar i) := by
  refine ⟨?_⟩
  intro pins s σ H Q I h
  obtain ⟨v, e, h⟩ := h
  obtain ⟨m, hn, hl⟩ := I.loc
  obtain ⟨u, r, l⟩ := hl i x v hN e hv
  have fin : EP X pins σ Q u s := ⟨v, H, I, r, h⟩
  rcases l with ⟨hk, hm⟩ | ⟨hk, c, hc, hcell⟩
  · exact wpAny_Name (wpAny_loadName_local I.ok.kind hk hn hm fin) hd
  · rcases hk with hk | hk
    · exact wpAny_Name (wpAny_loadName_cell I.ok.kind hk hc hcell fin) hd
    · exact wpAny_Name (wpAny_loadName_free I.ok.kind hk hc hcell fin hcd) hd
theorem pe_int {i j pos} : PE X (.Constant (.int i) j pos) (tC (.int i)) := ⟨fun _ _ _ H _ I h => wpAny_Constant_int ⟨.int i, H, I.tok _, ⟨_, rfl⟩, h⟩⟩
theorem pe_bl {b j pos} : PE X (.Constant (.bool b) j pos) (tC (.bl b)) := ⟨fun _ _ _ H _ I h => Constant_bool ⟨.bl b, H, I, rfl, h⟩⟩
theorem pe_non {j pos} : PE X (.Constant .none j pos) (tC .non) := ⟨fun _ _ _ H _ I h => Constant_none ⟨.non, H, I, rfl, h⟩⟩
theorem pe_str {x j pos} : PE X (.Constant (.str x) j pos) (tC (.str x)) := ⟨fun _ _ _ H _ I h => Calls.Constant_str ⟨.str x, H, I.tok _, ⟨_, rfl⟩, h⟩⟩

/-- a global name of the def -/
def Gl (X : Cx) (x : Str) : Prop := X.env.kindOf x = some .globalImplicit
theorem ld_glob {E : Value → Shared → Prop} {pins : List (Addr × Obj)} {s : Shared} {σ : St} {H : Hp} {x : Str} {u : Value} {pos : Pos} {Q : Value → Shared → Prop} (I : Inv X pins σ H s) (hg : Gl X x) (hm : X.mg x = some u) (h : Q u s)
    (hd : (x == ("__debug__" : Str)) = false := by decide) : wpAny (model X.prog X.w) X.A (eval (.Name x pos) X.env) Q E s :=
  Calls.Name_function_global I.ok.kind hg (Calls.loadGlobal_global (by rw [I.ok.glob]; exact I.mod.glob.keeps I.bk) hm h) hd
theorem ld_blt {E : Value → Shared → Prop} {pins : List (Addr × Obj)} {s : Shared} {σ : St} {H : Hp} {x : Str} {u : Value} {pos : Pos} {Q : Value → Shared → Prop} (I : Inv X pins σ H s) (hg : Gl X x) (hm : X.mg x = none) (hv : bootBuiltins x = some u) (h : Q u s)
    (hn : x ≠ "__name__" := by decide) (hd : (x == ("__debug__" : Str)) = false := by decide) : wpAny (model X.prog X.w) X.A (eval (.Name x pos) X.env) Q E s := by
  obtain ⟨mb, h1, h2⟩ := I.mod.blt
  exact Calls.Name_function_global I.ok.kind hg (Calls.loadGlobal_builtin (by rw [I.ok.glob]; exact I.mod.glob.keeps I.bk) hm (by rw [I.ok.blt]; exact h1.keeps I.bk) ((h2 x hn).trans hv) h) hd
/-- a module's constant, a class, a function, as a value -/
theorem pe_glob {x : Str} {v : V} {u : Value} {pos : Pos} (hg : Gl X x) (hm : X.mg x = some u) (r : RelV v u) (hd : (x == ("__debug__" : Str)) = false := by decide) : PE X (.Name x pos) (tC v) := ⟨fun _ _ _ H _ I h => ld_glob I hg hm ⟨v, H, I, r, h⟩ hd⟩
theorem pe_bltn {x : Str} {v : V} {u : Value} {pos : Pos} (hg : Gl X x) (hm : X.mg x = none) (hv : bootBuiltins x = some u) (r : RelV v u) (hn : x ≠ "__name__" := by decide) (hd : (x == ("__debug__" : Str)) = false := by decide) : PE X (.Name x pos) (tC v) := ⟨fun _ _ _ H _ I h => ld_blt I hg hm hv ⟨v, H, I, r, h⟩ hn hd⟩

/-! ### arithmetic -/
variable {a b : Expr} {ta tb : TE} {pos : Pos}
/-! ### comparisons -/
structure PC (X : Cx) (op : CmpOp) (a b : Expr) (t : TE) : Prop where
  run : ∀ (pins : List (Addr × Obj)) (s : Shared) (σ : St) (H : Hp) (Q : VK), Inv X pins σ H s → t σ H Q →
    wpAny (model X.prog X.w) X.A (eval a X.env) (fun v s₁ => wpAny (model X.prog X.w) X.A (eval b X.env) (fun u s₂ => wpAny (model X.prog X.w) X.A (compareOp op v u) (EP X pins σ Q) X.xe s₂) X.xe s₁) X.xe s
instance {X : Cx} {op : CmpOp} {a b : Expr} {t : TE} : CoeFun (PC X op a b t) (fun _ => ∀ (pins : List (Addr × Obj)) (s : Shared) (σ : St) (H : Hp) (Q : VK), Inv X pins σ H s → t σ H Q →
    wpAny (model X.prog X.w) X.A (eval a X.env) (fun v s₁ => wpAny (model X.prog X.w) X.A (eval b X.env) (fun u s₂ => wpAny (model X.prog X.w) X.A (compareOp op v u) (EP X pins σ Q) X.xe s₂) X.xe s₁) X.xe s) := ⟨PC.run⟩

theorem nobehind (b : Expr) {op : CmpOp} (h : op ≠ .In) (h2 : op ≠ .NotIn) : behindInMarks op b = false := by
  have e1 : (op == CmpOp.In) = false := by cases op <;> first | rfl | exact absurd rfl h
  have e2 : (op == CmpOp.NotIn) = false := by cases op <;> first | rfl | exact absurd rfl h2
  cases b <;> simp [behindInMarks, e1, e2]
/-- is None -/
def tIsN (ta : TE) : TE := fun σ H Q => ta σ H fun x H1 => Q (.bl (decide (x = .non))) H1
theorem RelV.none_iff {x : V} {v : Value} (r : RelV x v) : (v == Value.none) = decide (x = .non) := by
  cases x with
  | non => cases r; rfl
  | bl _ => cases r; rfl
  | int _ => obtain ⟨t, rfl⟩ := r; rfl
  | str _ => obtain ⟨t, rfl⟩ := r; rfl
  | byt _ => obtain ⟨t, rfl⟩ := r; rfl
  | flt _ => obtain ⟨t, rfl⟩ := r; rfl
  | ref _ => cases r; rfl
  | ty _ => cases r; rfl
theorem pc_isN {j pos'} (ha : PE X a ta) : PC X .Is a (.Constant .none j pos') (tIsN ta) := by
  refine ⟨?_⟩
  intro pins s σ H Q I h
  refine thn (ha pins s σ H _ I h) fun v s1 ⟨x, H1, I1, r1, q1⟩ => ?_
  exact Constant_none (is_none_gen ⟨.bl _, H1, I1, by rw [r1.none_iff]; rfl, q1⟩)
/-- a comparison as a value, as a test -/
def tB (t : TE) : TT := fun σ H Q => t σ H fun x H1 => ∃ c, x = .bl c ∧ Q c H1
theorem pt_cmp {op : CmpOp} {t : TE} (h : PC X op a b t) (h1 : behindInMarks op b = false := by first | exact nobehind _ (by decide) (by decide) | rfl) : PT X (.Compare a [op] [b] pos) (tB t) := by
  refine ⟨?_⟩
  intro pins s σ H Q I hw
  refine wpAny_isTrue_Compare1 (thn (h pins s σ H _ I hw) fun v s1 h1 => thn h1 fun u s2 h2 => thn h2 fun c s3 ⟨x, H1, I1, r1, q1⟩ => ?_) h1
  obtain ⟨d, rfl, q⟩ := q1
  cases r1
  exact wpAny_truthy_bool ⟨H1, I1, q⟩
/-- an expression whose value is a bool, as a test -/
theorem pt_val {e : Expr} {t : TE} (h : PE X e t) (he : ∀ whole, isTrue e X.env whole = (do let v ← whole; standAt e.pos; holding [v] (truthy v)) := by intro _; rfl) : PT X e (tB t) := by
  refine ⟨?_⟩
  intro pins s σ H Q I hw
  refine isTrue_plain (thn (h pins s σ H _ I hw) fun v s1 ⟨x, H1, I1, r1, q1⟩ => ?_) (he _)
  obtain ⟨d, rfl, q⟩ := q1
  cases r1
  exact wpAny_truthy_bool ⟨H1, I1, q⟩

/-! ### and, or, not -/
variable {tA tB' : TT} {rest : List Expr}
def tAnd (t u : TT) : TT := fun σ H Q => t σ H fun c H1 => if c = true then u σ H1 Q else Q false H1
def tOr (t u : TT) : TT := fun σ H Q => t σ H fun c H1 => if c = true then Q true H1 else u σ H1 Q
def tNot (t : TT) : TT := fun σ H Q => t σ H fun c H1 => Q (!c) H1
theorem pw_and1 (ha : PT X a tA) : PW X (.BoolOp .And [a] pos) tA := by
  refine ⟨?_⟩
  intro wh pins s σ H Q I h
  refine isTrue_and (thn (ha pins s σ H Q I h) fun c s1 e => ?_)
  cases c with
  | true => exact isTrue_and_nil e
  | false => exact e
theorem pw_or1 (ha : PT X a tA) : PW X (.BoolOp .Or [a] pos) tA := by
  refine ⟨?_⟩
  intro wh pins s σ H Q I h
  refine isTrue_or (thn (ha pins s σ H Q I h) fun c s1 e => ?_)
  cases c with
  | false => exact isTrue_or_nil e
  | true => exact e
theorem pw_and (ha : PT X a tA) (hb : PW X (.BoolOp .And (b :: rest) pos) tB') : PW X (.BoolOp .And (a :: b :: rest) pos) (tAnd tA tB') := by
  refine ⟨?_⟩
  intro wh pins s σ H Q I h
  refine isTrue_and (thn (ha pins s σ H _ I h) fun c s1 ⟨H1, I1, q1⟩ => ?_)
  cases c with
  | true => exact hb wh pins s1 σ H1 Q I1 q1
  | false => exact ⟨H1, I1, q1⟩
theorem pw_or (ha : PT X a tA) (hb : PW X (.BoolOp .Or (b :: rest) pos) tB') : PW X (.BoolOp .Or (a :: b :: rest) pos) (tOr tA tB') := by
  refine ⟨?_⟩
  intro wh pins s σ H Q I h
  refine isTrue_or (thn (ha pins s σ H _ I h) fun c s1 ⟨H1, I1, q1⟩ => ?_)
  cases c with
  | true => exact ⟨H1, I1, q1⟩
  | false => exact hb wh pins s1 σ H1 Q I1 q1
theorem pt_not (ha : PT X a tA) : PT X (.UnaryOp .Not a pos) (tNot tA) := by
  refine ⟨?_⟩
  intro pins s σ H Q I h
  exact isTrue_not (ha pins s σ H (fun c H1 => Q (!c) H1) I h)
/-- .. as values (bools) -/
def tAndV (ta tb : TE) : TE := fun σ H Q => ta σ H fun x H1 => ∃ c, x = .bl c ∧ if c = true then tb σ H1 Q else Q (.bl false) H1
theorem pe_one {op} {t : TE} (h : PE X a t) : PE X (.BoolOp op [a] pos) t := ⟨fun pins s σ H Q I hw => BoolOp_one (h pins s σ H Q I hw)⟩
theorem pe_and (ha : PE X a ta) (hb : PE X (.BoolOp .And (b :: rest) pos) tb) : PE X (.BoolOp .And (a :: b :: rest) pos) (tAndV ta tb) := by
  refine ⟨?_⟩
  intro pins s σ H Q I h
  refine BoolOp_and (thn (ha pins s σ H _ I h) fun v s1 ⟨x, H1, I1, r1, q1⟩ => ?_)
  obtain ⟨c, rfl, q1⟩ := q1
  cases r1
  refine wpAny_truthy_bool ?_
  cases c with
  | true => exact hb pins s1 σ H1 Q I1 q1
  | false => exact ⟨.bl false, H1, I1, rfl, q1⟩
/-- a if t else b -/
def tIf (t : TT) (ta tb : TE) : TE := fun σ H Q => t σ H fun c H1 => if c = true then ta σ H1 Q else tb σ H1 Q
theorem pe_ifExp {c : Expr} (hc : PT X c tA) (ha : PE X a ta) (hb : PE X b tb) : PE X (.IfExp c a b pos) (tIf tA ta tb) := by
  refine ⟨?_⟩
  intro pins s σ H Q I h
  refine wpAny_IfExp (thn (hc pins s σ H _ I h) fun d s1 ⟨H1, I1, q1⟩ => ?_)
  cases d with
  | true => exact ha pins s1 σ H1 Q I1 q1
  | false => exact hb pins s1 σ H1 Q I1 q1
end
end L2

namespace L2
open PySem PySem.Spec PyProof.Rows

/-! ### a list, a tuple that is read: tracked, frozen, or an object of the module -/
def SqL (K : PySem.W.Frag) (H : Hp) (a : Addr) (xs : List V) : Prop :=
  Rd H a (.lst xs) ∨
    ∃ (o : Obj) (its : Array Value) (n : Nat), K.lookup a = some o ∧ o.cls = .type "list" ∧ o.dict = none ∧ o.data = .seq its n ∧ its.size ≤ sizeLine ∧ Vals xs its.toList
def SqT (K : PySem.W.Frag) (H : Hp) (a : Addr) (xs : List V) : Prop :=
  Rd H a (.tup xs) ∨
    ∃ (o : Obj) (its : Array Value) (n : Nat), K.lookup a = some o ∧ o.cls = .type "tuple" ∧ o.data = .seq its n ∧ its.size ≤ sizeLine ∧ Vals xs its.toList
def absV : Value → Option V
  | .none => some .non
  | .bool b => some (.bl b)
  | .int i _ => some (.int i)
  | .str x _ => some (.str x)
  | .bytes b _ => some (.byt b)
  | .float b _ => some (.flt b)
  | .ref a => some (.ref a)
  | .type n => some (.ty n)
  | _ => none
theorem RelV.abs {x : V} {u : Value} (r : RelV x u) : absV u = some x := by
  cases x with
  | non => cases r; rfl
  | bl _ => cases r; rfl
  | int _ => obtain ⟨t, rfl⟩ := r; rfl
  | str _ => obtain ⟨t, rfl⟩ := r; rfl
  | byt _ => obtain ⟨t, rfl⟩ := r; rfl
  | flt _ => obtain ⟨t, rfl⟩ := r; rfl
  | ref _ => cases r; rfl
  | ty _ => cases r; rfl
theorem RelV.inj {x y : V} {u : Value} (r : RelV x u) (q : RelV y u) : x = y := Option.some.inj (r.abs.symm.trans q.abs)
theorem Vals.inj : ∀ {xs ys : List V} {us : List Value}, Vals xs us → Vals ys us → xs = ys
  | _, _, _, .nil, .nil => rfl
  | _, _, _, .cons r t, .cons r' t' => by rw [r.inj r', Vals.inj t t']
section
variable {X : Cx} {pins : List (Addr × Obj)} {σ : St} {H : Hp} {s : Shared} {a : Addr} {xs ys : List V}
theorem SqL.of {K : PySem.W.Frag} (h : H a = some (.lst xs)) : SqL K H a xs := .inl (.inl h)
theorem SqT.of {K : PySem.W.Frag} (h : H a = some (.tup xs)) : SqT K H a xs := .inl (.inl h)
theorem Inv.list (I : Inv X pins σ H s) (h : SqL X.K H a xs) : ∃ its : List Value, Vals xs its ∧ PlainL s.heap a its.toArray ∧ xs.length ≤ sizeLine := by
  rcases h with h | ⟨o, its, n, hk, hc, hd, hs, hz, r⟩
  · obtain ⟨z, its, n, r, e⟩ := h.ok I.hok
    exact ⟨its, r, ⟨_, n, e, rfl, rfl, rfl⟩, z⟩
  · refine ⟨its.toList, r, ⟨o, n, I.kIn a o hk, hc, hd, by simpa using hs⟩, ?_⟩
    have e := r.length
    simp only [Array.length_toList] at e
    omega
theorem Inv.tuple (I : Inv X pins σ H s) (h : SqT X.K H a xs) : ∃ its : List Value, Vals xs its ∧ IsTup s.heap a its.toArray ∧ xs.length ≤ sizeLine := by
  rcases h with h | ⟨o, its, n, hk, hc, hs, hz, r⟩
  · obtain ⟨z, its, r, p⟩ := h.ok I.hok
    exact ⟨its, r, p, z⟩
  · refine ⟨its.toList, r, ⟨o, I.kIn a o hk, hc, n, by simpa using hs⟩, ?_⟩
    have e := r.length
    simp only [Array.length_toList] at e
    omega
theorem Inv.list_inj (I : Inv X pins σ H s) (h : SqL X.K H a xs) (h' : SqL X.K H a ys) : xs = ys := by
  obtain ⟨its, r, ⟨o, n, e, _, _, d⟩, _⟩ := I.list h
  obtain ⟨its', r', ⟨o', n', e', _, _, d'⟩, _⟩ := I.list h'
  rw [e] at e'; cases e'
  rw [d] at d'
  injection d' with d1 _
  have : its = its' := by simpa using congrArg Array.toList d1
  subst this
  exact r.inj r'
end

/-! ### another wish about exceptions -/
abbrev Cx.wish (X : Cx) (E : Value → Shared → Prop) : Cx := { X with xe := E }
/-- no exception leaves -/
abbrev Cx.nox (X : Cx) : Cx := X.wish fun _ _ => False
theorem Cx.Ok.wish {X : Cx} (ok : X.Ok) (E : Value → Shared → Prop) : (X.wish E).Ok :=
  ⟨ok.mod, ok.kind, ok.glob, ok.blt, ok.above, ok.inj, ok.has, ok.cab, ok.hd, ok.frames, ok.stk, ok.exf, ok.bs, ok.bsz, ok.noex, ok.exfs, ok.funs, ok.frf⟩
theorem Cx.Ok.unwish {X : Cx} {E : Value → Shared → Prop} (ok : (X.wish E).Ok) : X.Ok :=
  ⟨ok.mod, ok.kind, ok.glob, ok.blt, ok.above, ok.inj, ok.has, ok.cab, ok.hd, ok.frames, ok.stk, ok.exf, ok.bs, ok.bsz, ok.noex, ok.exfs, ok.funs, ok.frf⟩
section
variable {X : Cx} {pins : List (Addr × Obj)} {σ : St} {H : Hp} {s : Shared} {E : Value → Shared → Prop}
theorem Inv.wish (I : Inv X pins σ H s) (E : Value → Shared → Prop) : Inv (X.wish E) pins σ H s := ⟨I.ok.wish E, I.os, I.bare, I.base, I.loc, I.cell, I.free, I.freeC, I.pin, I.hok, I.len⟩
theorem Inv.unwish (I : Inv (X.wish E) pins σ H s) : Inv X pins σ H s := ⟨I.ok.unwish, I.os, I.bare, I.base, I.loc, I.cell, I.free, I.freeC, I.pin, I.hok, I.len⟩
theorem SP.unwish {D : Ends} {f : Flow} {s' : Shared} (h : SP (X.wish E) pins D f s') : SP X pins D f s' := by
  cases f with
  | next => obtain ⟨σ', H', I, q⟩ := h; exact ⟨σ', H', I.unwish, q⟩
  | brk => obtain ⟨σ', H', I, q⟩ := h; exact ⟨σ', H', I.unwish, q⟩
  | cont => obtain ⟨σ', H', I, q⟩ := h; exact ⟨σ', H', I.unwish, q⟩
  | ret u => obtain ⟨v, σ', H', I, r, q⟩ := h; exact ⟨v, σ', H', I.unwish, r, q⟩
theorem PSs.nox {st : List Stmt} {t : TS} (h : PSs X.nox st t) : PSs X st t := ⟨fun pins s σ H D I hw =>
  wpAny_mono (h pins s σ H D (I.wish _) hw) (fun _ _ q => q.unwish) fun _ _ z => False.elim z⟩
end

/-! ### blocks and small statements -/
section
variable {X : Cx} {st : Stmt} {rest : List Stmt} {t u : TS} {e : Expr} {te : TE} {pos : Pos}
def tNext : TS := fun D σ H => D.nx σ H
def tSeq (t u : TS) : TS := fun D σ H => t { D with nx := u D } σ H
theorem pss_nil : PSs X [] tNext := ⟨fun _ _ σ H _ I h => wpAny_execs_nil ⟨σ, H, I, h⟩⟩
theorem pss_cons (h1 : PS X st t) (h2 : PSs X rest u) : PSs X (st :: rest) (tSeq t u) := by
  refine ⟨?_⟩
  intro pins s σ H D I h
  refine wpAny_execs_cons (thn (h1 pins s σ H { D with nx := u D } I h) fun f s1 q => ?_)
  cases f with
  | next =>
    obtain ⟨σ', H', I', q⟩ := q
    exact h2 pins s1 σ' H' D I' q
  | ret v => exact q
  | brk => exact q
  | cont => exact q
theorem pss_one (h1 : PS X st t) : PSs X [st] t := by
  refine ⟨?_⟩
  intro pins s σ H D I h
  refine wpAny_execs_cons (thn (h1 pins s σ H D I h) fun f s1 q => ?_)
  cases f with
  | next => exact wpAny_execs_nil q
  | ret v => exact q
  | brk => exact q
  | cont => exact q
/-- in a def's body nothing is shown -/
theorem Inv.quiet {pins : List (Addr × Obj)} {σ : St} {H : Hp} {s : Shared} (I : Inv X pins σ H s) : interactive X.env = false := by simp [interactive, I.ok.kind]
/-- an expression whose value is dropped -/
def tDrop (te : TE) : TS := fun D σ H => te σ H fun _ H1 => D.nx σ H1
theorem ps_expr (he : PE X e te) (hs : swapsWith e none pos.line X.env = pure false := by rfl) : PS X (.Expr e pos) (tDrop te) := by
  refine ⟨?_⟩
  intro pins s σ H D I h
  exact wpAny_Expr_any (thn (he pins s σ H _ I h) fun v s1 ⟨x, H1, I1, r1, q1⟩ => ⟨σ, H1, I1, q1⟩) I.quiet hs
def tRet (te : TE) : TS := fun D σ H => te σ H D.rt
theorem ps_ret (he : PE X e te) : PS X (.Return (some e) pos) (tRet te) := by
  refine ⟨?_⟩
  intro pins s σ H D I h
  exact wpAny_Return_some (thn (he pins s σ H _ I h) fun v s1 ⟨x, H1, I1, r1, q1⟩ => ⟨x, σ, H1, I1, r1, q1⟩)
def tIfS (c : TT) (t u : TS) : TS := fun D σ H => c σ H fun b H1 => if b = true then t D σ H1 else u D σ H1
theorem ps_if {c : Expr} {a b : List Stmt} {tc : TT} (hc : PT X c tc) (ha : PSs X a t) (hb : PSs X b u) : PS X (.If c a b pos) (tIfS tc t u) := by
  refine ⟨?_⟩
  intro pins s σ H D I h
  refine wpAny_If (thn (hc pins s σ H _ I h) fun d s1 ⟨H1, I1, q1⟩ => ?_)
  cases d with
  | true => exact ha pins s1 σ H1 D I1 q1
  | false => exact hb pins s1 σ H1 D I1 q1
end

/-! ### targets -/
abbrev TG := V → St → Hp → (St → Hp → Prop) → Prop
abbrev TGs := List V → St → Hp → (St → Hp → Prop) → Prop
structure PG (X : Cx) (target : Expr) (t : TG) : Prop where
  run : ∀ (pins : List (Addr × Obj)) (s : Shared) (σ : St) (H : Hp) (v : V) (u : Value) (Q : St → Hp → Prop), Inv X pins σ H s → RelV v u → t v σ H Q →
    wpAny (model X.prog X.w) X.A (assign target X.env u) (fun _ s' => ∃ σ' H', Inv X pins σ' H' s' ∧ Q σ' H') X.xe s
instance {X : Cx} {target : Expr} {t : TG} : CoeFun (PG X target t) (fun _ => ∀ (pins : List (Addr × Obj)) (s : Shared) (σ : St) (H : Hp) (v : V) (u : Value) (Q : St → Hp → Prop), Inv X pins σ H s → RelV v u → t v σ H Q →
    wpAny (model X.prog X.w) X.A (assign target X.env u) (fun _ s' => ∃ σ' H', Inv X pins σ' H' s' ∧ Q σ' H') X.xe s) := ⟨PG.run⟩

/-- several targets, one after another -/
structure PGs (X : Cx) (ts : List Expr) (t : TGs) : Prop where
  run : ∀ (pins : List (Addr × Obj)) (s : Shared) (σ : St) (H : Hp) (vs : List V) (us : List Value) (Q : St → Hp → Prop), Inv X pins σ H s → Vals vs us → t vs σ H Q →
    wpAny (model X.prog X.w) X.A (assignInOrder ((assignEach ts X.env).map (·.2)) us) (fun _ s' => ∃ σ' H', Inv X pins σ' H' s' ∧ Q σ' H') X.xe s
instance {X : Cx} {ts : List Expr} {t : TGs} : CoeFun (PGs X ts t) (fun _ => ∀ (pins : List (Addr × Obj)) (s : Shared) (σ : St) (H : Hp) (vs : List V) (us : List Value) (Q : St → Hp → Prop), Inv X pins σ H s → Vals vs us → t vs σ H Q →
    wpAny (model X.prog X.w) X.A (assignInOrder ((assignEach ts X.env).map (·.2)) us) (fun _ s' => ∃ σ' H', Inv X pins σ' H' s' ∧ Q σ' H') X.xe s) := ⟨PGs.run⟩

section
variable {X : Cx} {pos : Pos}
def gName (i : Nat) : TG := fun v σ H Q => Q (σ.set i (some v)) H
theorem pg_name {i : Nat} {x : Str} (hN : X.N.Nodup) (hi : X.N[i]? = some x) (hx : Loc X.env.scope x) (hf : X.fn x = true ∨ X.env.scope.names.lookup x = some .local := by first | exact .inl rfl | exact .inr rfl | assumption) : PG X (.Name x pos) (gName i) := by
  refine ⟨?_⟩
  intro pins s σ H v u Q I r h
  exact wpAny_assign_Name (store_ok I hN hi hx r (fun s' I' => ⟨_, H, I', h⟩) hf)
def gNil : TGs := fun vs σ H Q => vs = [] ∧ Q σ H
def gCons (t : TG) (u : TGs) : TGs := fun vs σ H Q => ∃ v r, vs = v :: r ∧ t v σ H fun σ' H' => u r σ' H' Q
theorem pgs_nil : PGs X [] gNil := by
  refine ⟨?_⟩
  intro pins s σ H vs us Q I r h
  obtain ⟨e, h⟩ := h
  subst e
  cases r
  exact assignInOrder_nil ⟨σ, H, I, h⟩
theorem pgs_cons {e : Expr} {es : List Expr} {t : TG} {u : TGs} (h1 : PG X e t) (h2 : PGs X es u)
    (hs : (assignEach (e :: es) X.env).map (·.2) = assign e X.env :: (assignEach es X.env).map (·.2) := by rfl) : PGs X (e :: es) (gCons t u) := by
  refine ⟨?_⟩
  intro pins s σ H vs us Q I r h
  obtain ⟨v, vr, e1, h⟩ := h
  subst e1
  cases r with
  | cons r rr =>
    rw [hs]
    refine assignInOrder_cons (thn (h1 pins s σ H _ _ _ I r h) fun _ s1 ⟨σ1, H1, I1, q1⟩ => ?_)
    exact h2 pins s1 σ1 H1 _ _ Q I1 rr q1
/-- (a, b, ..) = a tuple of that length -/
def gTup (K : PySem.W.Frag) (n : Nat) (t : TGs) : TG := fun v σ H Q => ∃ a xs, v = .ref a ∧ SqT K H a xs ∧ xs.length = n ∧ t xs σ H Q
theorem pg_tup {es : List Expr} {k : Nat} {t : TGs} {n : Nat} (hc : X.calm = true) (h : PGs X es t)
    (hn : (assignEach es X.env).length = n := by rfl) (hst : (assignEach es X.env).findIdx? (·.1) = none := by rfl) : PG X (.Tuple es k pos) (gTup X.K n t) := by
  refine ⟨?_⟩
  intro pins s σ H v u Q I r hw
  obtain ⟨a, xs, e1, hq, hl, hw⟩ := hw
  subst e1
  cases r
  obtain ⟨its, rv, ht, hz⟩ := I.tuple hq
  refine assign_Tuple_tuple (I.ok.hd hc) ht (by simp [hn, ← hl, rv.length]) hst fun h' hx => ?_
  have I1 : Inv X pins σ H { s with heap := h' } := I.kept (t' := s.toks) fun b o e => hx b o (Nat.ne_of_lt (Heap.lt_size e)) e
  exact h pins _ σ H xs _ Q I1 (by simpa using rv) hw
/-- target = value -/
def tAsg (te : TE) (g : TG) : TS := fun D σ H => te σ H fun x H1 => g x σ H1 D.nx
theorem ps_asg {tg e : Expr} {te : TE} {g : TG} (he : PE X e te) (hg : PG X tg g) (hs : swapsWithSole [tg] e pos.line X.env = pure false := by rfl) (hw : swappedStores [tg] e X.env = pure none := by rfl)
    (h1 : (assignEach [tg] X.env).map (·.2) = [assign tg X.env] := by rfl) : PS X (.Assign [tg] e pos) (tAsg te g) := by
  refine ⟨?_⟩
  intro pins s σ H D I h
  refine wpAny_Assign_stores (thn (he pins s σ H _ I h) fun v s1 ⟨x, H1, I1, r1, q1⟩ => ?_) hs hw
  rw [h1]
  exact thn (hg pins s1 σ H1 x v _ I1 r1 q1) fun _ s2 q => q
/-- name = value -/
theorem ps_set {i : Nat} {x : Str} {e : Expr} {te : TE} {pos' : Pos} (hN : X.N.Nodup) (hi : X.N[i]? = some x) (hx : Loc X.env.scope x) (he : PE X e te) (hs : swapsWith e (some (.Name x pos')) pos.line X.env = pure false := by rfl) (hf : X.fn x = true ∨ X.env.scope.names.lookup x = some .local := by first | exact .inl rfl | exact .inr rfl | assumption) :
    PS X (.Assign [.Name x pos'] e pos) (tAsg te (gName i)) := by
  refine ⟨?_⟩
  intro pins s σ H D I h
  refine wpAny_Assign_Name (thn (he pins s σ H _ I h) fun v s1 ⟨y, H1, I1, r1, q1⟩ => ?_) hs
  exact store_ok I1 hN hi hx r1 (fun s2 I2 => ⟨_, H1, I2, q1⟩) hf
end

/-! ### while -/
section
variable {X : Cx} {pos : Pos}
end

/-! ### what a loop or a comprehension walks -/
/-- at turn i: it yields x (the heap may grow), or it stops -/
structure It where
  go : Nat → Hp → Prop
  yld : Nat → Hp → V → Hp → Prop
  stop : Nat → Hp → Prop
/-- the iterator's own objects may turn: they are not the frame's, not pinned, younger than the entry (or a comprehension's own) -/
def FpOk (X : Cx) (pins : List (Addr × Obj)) (H : Hp) (b : Addr) : Prop :=
  H b = none ∧ b ≠ X.env.locals ∧ b ∉ X.fs ∧ (b ∈ X.ex ∨ X.s₀.heap.objs.size ≤ b) ∧ (∀ x c, X.env.cells.lookup x = some c → c ≠ b) ∧ ∀ p ∈ X.pn ++ pins, p.1 ≠ b
theorem Inv.fpOk {X : Cx} {pins : List (Addr × Obj)} {σ : St} {H H' : Hp} {s : Shared} {b : Addr} (I : Inv X pins σ H s) (hb : s.heap.objs.size ≤ b) (hn : H' b = none) : FpOk X pins H' b := by
  refine ⟨hn, Nat.ne_of_gt (Nat.lt_of_lt_of_le I.lt hb), I.nofs hb, .inr (Nat.le_trans I.sz hb), fun x c e z => ?_, fun p hp z => ?_⟩
  · obtain ⟨v, q⟩ := I.cell x c e
    exact absurd (Nat.lt_of_lt_of_le q.lt (by rw [z]; exact hb)) (Nat.lt_irrefl _)
  · exact absurd (Nat.lt_of_lt_of_le (Heap.lt_size (I.pin p hp).1) (by rw [z]; exact hb)) (Nat.lt_irrefl _)
structure Turn (P : Program) (w : World) (K : PySem.W.Frag) (tg : Expr) (J : It) (fp : List Addr) (it : Addr) (tn : Nat → Heap → Prop) : Prop where
  mem : it ∈ fp
  obj : ∀ i h, tn i h → ∀ b ∈ fp, ∃ o, h.get? b = some o ∧ ∀ v, o.data ≠ .cell v
  keep : ∀ i h h', tn i h → (∀ b ∈ fp, ∀ o, h.get? b = some o → h'.get? b = some o) → tn i h'
  item : ∀ (X : Cx), X.prog = P → X.w = w → X.K = K → X.calm = true → ∀ (i : Nat) (pins : List (Addr × Obj)) (s : Shared) (σ : St) (H : Hp) (E : Value → Shared → Prop), Inv X pins σ H s → (∀ b ∈ fp, FpOk X pins H b) → tn i s.heap → J.go i H →
    wpAny (model P w) X.A (pyNext (.ref it)) (fun r s1 => ∃ u, r = some u ∧
      wpAny (model P w) X.A (letOwnedTupleGo tg (.ref it) u) (fun _ s2 => ∃ x H', Inv X pins σ H' s2 ∧ RelV x u ∧ J.yld i H x H' ∧ tn (i + 1) s2.heap ∧ ∀ b ∈ fp, H' b = none) E s1) E s
  done : ∀ (X : Cx), X.prog = P → X.w = w → X.K = K → X.calm = true → ∀ (i : Nat) (pins : List (Addr × Obj)) (s : Shared) (σ : St) (H : Hp) (E : Value → Shared → Prop), Inv X pins σ H s → (∀ b ∈ fp, FpOk X pins H b) → tn i s.heap → J.stop i H →
    wpAny (model P w) X.A (pyNext (.ref it)) (fun r s1 => r = none ∧ Inv X pins σ H s1) E s
  self : ∀ (A : Around) (i : Nat) (s : Shared) (Q : Value → Shared → Prop) (E : Value → Shared → Prop), tn i s.heap → Q (.ref it) s → wpAny (model P w) A (pyIter (.ref it)) Q E s
abbrev TI := St → Hp → (It → Hp → Prop) → Prop
/-- an iterator has come -/
def PIE (X : Cx) (pins : List (Addr × Obj)) (σ : St) (tg : Expr) (R : It → Hp → Prop) (itv : Value) (s2 : Shared) : Prop :=
  ∃ (it : Addr) (fp : List Addr) (tn : Nat → Heap → Prop) (J : It) (H' : Hp), itv = .ref it ∧ Inv X pins σ H' s2 ∧ Turn X.prog X.w X.K tg J fp it tn ∧ tn 0 s2.heap ∧ (∀ b ∈ fp, FpOk X pins H' b) ∧ R J H'
structure PI (X : Cx) (tg iter : Expr) (wi : TI) : Prop where
  run : ∀ (pins : List (Addr × Obj)) (s : Shared) (σ : St) (H : Hp) (R : It → Hp → Prop), Inv X pins σ H s → wi σ H R →
    wpAny (model X.prog X.w) X.A (eval iter X.env) (fun v s1 => wpAny (model X.prog X.w) X.A (pyIter v) (PIE X pins σ tg R) X.xe s1) X.xe s
instance {X : Cx} {tg iter : Expr} {wi : TI} : CoeFun (PI X tg iter wi) (fun _ => ∀ (pins : List (Addr × Obj)) (s : Shared) (σ : St) (H : Hp) (R : It → Hp → Prop), Inv X pins σ H s → wi σ H R →
    wpAny (model X.prog X.w) X.A (eval iter X.env) (fun v s1 => wpAny (model X.prog X.w) X.A (pyIter v) (PIE X pins σ tg R) X.xe s1) X.xe s) := ⟨PI.run⟩

/-- the step ahead of the store is nothing for an iterator that keeps no tuple -/
theorem go_of {M : Model} {A : Around} {E : Value → Shared → Prop} {s : Shared} {tg : Expr} {it : Addr} {u : Value} {o : Obj} {n : String} {vs : Array Value} {Q : Unit → Shared → Prop} (ho : s.heap.get? it = some o) (hc : o.cls = .type n) (hd : o.data = .fields vs)
    (hn : ["enumerate", "zip", "dict_itemiterator", "dict_reverseitemiterator", "odict_iterator", "itertools.zip_longest", "itertools.pairwise"].contains n = false) (hQ : Q () s) : wpAny M A (letOwnedTupleGo tg (.ref it) u) Q E s := by
  unfold letOwnedTupleGo
  cases tg <;> first
    | exact wpAny_pure hQ
    | (cases u <;> first
        | exact wpAny_pure hQ
        | (refine wpAny_bind (wpAny_load ho ?_)
           rw [hc, hd]
           show wpAny M A (if (["enumerate", "zip", "dict_itemiterator", "dict_reverseitemiterator", "odict_iterator", "itertools.zip_longest", "itertools.pairwise"].contains n && vs[0]? == some (rawInt _)) = true then _ else _) Q E s
           rw [if_neg (by intro h; rw [hn, Bool.false_and] at h; cases h)]
           exact wpAny_pure hQ))

/-- the list at a, as it stands at each turn (a loop may append to it) -/
def Itl (K : PySem.W.Frag) (a : Addr) : It :=
  ⟨fun i H => ∃ xs x, SqL K H a xs ∧ xs[i]? = some x, fun i H x H' => H' = H ∧ ∀ xs, SqL K H a xs → xs[i]? = some x, fun i H => ∃ xs, SqL K H a xs ∧ xs.length ≤ i⟩
/-- lo, lo + 1, .. (n of them) -/
def Itr (lo : Int) (n : Nat) : It := ⟨fun i _ => i < n, fun i H x H' => H' = H ∧ x = .int (lo + i), fun i _ => n ≤ i⟩
theorem turn_list {P : Program} {w : World} {K : PySem.W.Frag} {tg : Expr} (a it : Addr) : Turn P w K tg (Itl K a) [it] it (fun i h => h.IsListIter it a i) where
  mem := by simp
  obj := fun i h st b hb => by
    have e : b = it := by simpa using hb
    subst e
    obtain ⟨o, e, c, d⟩ := st
    exact ⟨o, e, fun v z => by rw [d] at z; cases z⟩
  keep := fun i h h' st k => st.at fun o e => k it (by simp) o e
  item := by
    intro X hP hw hK hc i pins s σ H E I hf st hg
    subst hP hw hK
    obtain ⟨xs, x, hq, hx⟩ := hg
    obtain ⟨its, rv, p, hz⟩ := I.list hq
    obtain ⟨u, hu, ru⟩ := rv.get hx
    obtain ⟨f0, f1, f2, f3, f4, f5⟩ := hf it (by simp)
    refine wpAny_pyNext_list_item st p.isList (x := u) (by simpa using hu) fun h' st' sb => ?_
    have I1 : Inv X pins σ H { s with heap := h' } := I.turned (t' := s.toks) (fun b o hb e => (sb.2 b hb).trans e) f0 f1 f3 f4 f5
    obtain ⟨o, e, c, d⟩ := id st'
    exact ⟨u, rfl, go_of (s := { s with heap := h' }) e c d (by decide) ⟨x, H, I1, ru, ⟨rfl, fun ys hy => by rw [I.list_inj hy hq]; exact hx⟩, st', fun b hb => (hf b hb).1⟩⟩
  done := by
    intro X hP hw hK hc i pins s σ H E I hf st hg
    subst hP hw hK
    obtain ⟨xs, hq, hx⟩ := hg
    obtain ⟨its, rv, p, hz⟩ := I.list hq
    obtain ⟨f0, f1, f2, f3, f4, f5⟩ := hf it (by simp)
    have hl := rv.length
    exact wpAny_pyNext_list_end (I.ok.hd hc) st p.isList (by simp; omega) fun h' eb => ⟨rfl, I.turned (t' := s.toks) (fun b o hb e => eb b o hb e) f0 f1 f3 f4 f5⟩
  self := fun _ _ _ _ _ st h => wpAny_pyIter_listiter st h
theorem turn_range {P : Program} {w : World} {K : PySem.W.Frag} {tg : Expr} (it : Addr) (lo : Int) (n : Nat) : Turn P w K tg (Itr lo n) [it] it (fun i h => IsRangeIter h it (lo + (i : Nat) * 1) ((n : Int) - (i : Nat)) 1) where
  mem := by simp
  obj := fun i h st b hb => by
    have e : b = it := by simpa using hb
    subst e
    exact ⟨_, st, fun v z => by
      have z' : Data.fields _ = Data.cell v := z
      cases z'⟩
  keep := fun i h h' st k => k it (by simp) _ st
  item := by
    intro X hP hw hK hc i pins s σ H E I hf st hg
    subst hP hw hK
    obtain ⟨f0, f1, f2, f3, f4, f5⟩ := hf it (by simp)
    have W := Walks.range (prog := X.prog) (w := X.w) (I.ok.hd hc) it lo 1 n
    refine W.item i s _ _ hg st fun v h' tk hv st' kk => ?_
    obtain ⟨t, rfl⟩ := hv
    have I1 : Inv X pins σ H { s with heap := h', toks := tk } := I.turned (fun b o hb e => kk b o (by simpa using hb) e) f0 f1 f3 f4 f5
    refine ⟨_, rfl, go_of (s := { s with heap := h', toks := tk }) (n := "range_iterator") st' rfl rfl (by decide) ⟨.int (lo + i), H, I1, ⟨t, ?_⟩, ⟨rfl, rfl⟩, st', fun b hb => (hf b hb).1⟩⟩
    rw [Int.mul_one]
  done := by
    intro X hP hw hK hc i pins s σ H E I hf st hg
    subst hP hw hK
    obtain ⟨f0, f1, f2, f3, f4, f5⟩ := hf it (by simp)
    exact wpAny_pyNext_range_end (I.ok.hd hc) st (by have : n ≤ i := hg; omega) fun h' eb => ⟨rfl, I.turned (t' := s.toks) (fun b o hb e => eb b o hb e) f0 f1 f3 f4 f5⟩
  self := fun _ _ _ _ _ st h => wpAny_pyIter_rangeiter st h
end L2

namespace L2
open PySem PySem.Spec PyProof.Rows
section
variable {X : Cx} {tg : Expr}
def iList (K : PySem.W.Frag) (tl : TE) : TI := fun σ H R => tl σ H fun x H1 => ∃ a, x = .ref a ∧ (∃ xs, SqL K H1 a xs) ∧ R (Itl K a) H1
theorem pi_list {l : Expr} {tl : TE} (hl : PE X l tl) : PI X tg l (iList X.K tl) := by
  refine ⟨?_⟩
  intro pins s σ H R I h
  refine thn (hl pins s σ H _ I h) fun v s1 ⟨x, H1, I1, r1, q1⟩ => ?_
  obtain ⟨a, e, ⟨xs, hq⟩, q⟩ := q1
  subst e
  cases r1
  obtain ⟨its, rv, p, hz⟩ := I1.list hq
  refine wpAny_pyIter_list p.isList ?_
  refine ⟨s1.heap.objs.size, [s1.heap.objs.size], _, _, H1, rfl, I1.kept (t' := s1.toks) fun b o e => Heap.get?_push_of_some _ e, turn_list a _, ⟨_, Heap.get?_push_size _ rfl, rfl, rfl⟩, fun b hb => ?_, q⟩
  have e : b = s1.heap.objs.size := by simpa using hb
  subst e
  exact I1.fpOk (Nat.le_refl _) (I1.hok.fresh (Nat.le_refl _))
/-- a range object just made, walked -/
theorem range_it {pins : List (Addr × Obj)} {σ : St} {H : Hp} {s : Shared} {R : It → Hp → Prop} {E : Value → Shared → Prop} {lo hi : Int} {t u v : Tok} {tk : Nat} (I : Inv X pins σ H s) (h1 : -(2 ^ 62) ≤ lo) (h2 : lo < 2 ^ 62) (h3 : -(2 ^ 62) ≤ hi) (h4 : hi < 2 ^ 62)
    (q : R (Itr lo (hi - lo).toNat) H) : wpAny (model X.prog X.w) X.A (pyIter (.ref s.heap.objs.size)) (PIE X pins σ tg R) E { s with heap := s.heap.push { cls := .type "range", data := .fields #[.int lo t, .int hi u, .int 1 v] }, toks := tk } := by
  refine wpAny_pyIter_range (IsRange.new ..) (small_one h1 h2 h3 h4) ?_
  have I1 : Inv X pins σ H { s with heap := s.heap.push { cls := .type "range", data := .fields #[.int lo t, .int hi u, .int 1 v] }, toks := tk } := I.kept fun b o e => Heap.get?_push_of_some _ e
  refine ⟨(s.heap.push { cls := .type "range", data := .fields #[.int lo t, .int hi u, .int 1 v] }).objs.size, [(s.heap.push { cls := .type "range", data := .fields #[.int lo t, .int hi u, .int 1 v] }).objs.size], _, _, H, rfl,
    I1.kept (t' := tk) fun b o e => Heap.get?_push_of_some _ e, turn_range _ lo (hi - lo).toNat, ?_, fun b hb => ?_, q⟩
  · have e1 : lo + ((0 : Nat) : Int) * 1 = lo := by simp
    have e2 : (((hi - lo).toNat : Nat) : Int) - ((0 : Nat) : Int) = Builtin.Range.rangeSize lo hi 1 := by rw [rangeSize_one]; split <;> omega
    show IsRangeIter _ _ (lo + ((0 : Nat) : Int) * 1) ((((hi - lo).toNat : Nat) : Int) - ((0 : Nat) : Int)) 1
    rw [e1, e2]
    exact Heap.get?_push_size _ rfl
  · have e : b = (s.heap.push { cls := .type "range", data := .fields #[.int lo t, .int hi u, .int 1 v] }).objs.size := by simpa using hb
    subst e
    exact I1.fpOk (Nat.le_refl _) (I1.hok.fresh (Nat.le_refl _))
def iRng1 (ta : TA) : TI := fun σ H R => ta σ H fun vs H1 => ∃ j : Int, vs = [.int j] ∧ -(2 ^ 62) ≤ j ∧ j < 2 ^ 62 ∧ R (Itr 0 j.toNat) H1
theorem pi_range1 {a : Expr} {ta : TA} {p pos : Pos} (hg : Gl X "range") (hm : X.mg "range" = none) (ha : PA X [a] ta) (hs : starEach [a] X.env = [(false, eval a X.env)] := by rfl) : PI X tg (.Call (.Name "range" p) [a] [] pos) (iRng1 ta) := by
  refine ⟨?_⟩
  intro pins s σ H R I h
  refine Call_ (ld_blt I hg hm boot_range (PyProof.Rows.callWith_type1 (thn (ha pos pins s σ H _ I h) fun us s1 ⟨vs, H1, I1, r1, q1⟩ => ?_) hs rfl))
  obtain ⟨j, e, q1, q2, q⟩ := q1
  subst e
  cases r1 with
  | cons r rr =>
    cases rr
    obtain ⟨t, rfl⟩ := r
    exact call_range_1 (range_it I1 (by omega) (by omega) q1 q2 (by simpa using q))
/-! ### for -/
/-- W: the invariant by the turn and a measure; N: what the body is to reach -/
def tFor (wi : TI) (g : TG) (tb : TS) : TS := fun D σ H => wi σ H fun J H1 => ∃ W : Nat → Nat → St → Hp → Prop, (∃ m, W 0 m σ H1) ∧ ∀ i m σ H, W i m σ H →
  (J.stop i H ∧ D.nx σ H) ∨ (J.go i H ∧ ∃ N : St → Hp → Prop, (∀ σ' H', N σ' H' → ∃ m', m' < m ∧ W (i + 1) m' σ' H') ∧ ∀ x H', J.yld i H x H' → g x σ H' fun σ2 H2 => tb { D with nx := N, ct := N, bk := D.nx } σ2 H2)
/-- the records at fp as they stand -/
def pinsAt (fp : List Addr) (h : Heap) : List (Addr × Obj) := fp.filterMap fun b => (h.get? b).map fun o => (b, o)
theorem mem_pinsAt {fp : List Addr} {h : Heap} {b : Addr} {o : Obj} (hb : b ∈ fp) (e : h.get? b = some o) : (b, o) ∈ pinsAt fp h := List.mem_filterMap.mpr ⟨b, hb, by rw [e]; rfl⟩
theorem of_pinsAt {fp : List Addr} {h : Heap} {p : Addr × Obj} (hp : p ∈ pinsAt fp h) : p.1 ∈ fp ∧ h.get? p.1 = some p.2 := by
  obtain ⟨b, hb, e⟩ := List.mem_filterMap.mp hp
  cases q : h.get? b with
  | none => rw [q] at e; cases e
  | some o =>
    rw [q] at e
    have e' : (b, o) = p := Option.some.inj e
    subst e'
    exact ⟨hb, q⟩
theorem Inv.pinned {pins : List (Addr × Obj)} {σ : St} {H : Hp} {s : Shared} {fp : List Addr} (I : Inv X pins σ H s) (hf : ∀ b ∈ fp, FpOk X pins H b) (ho : ∀ b ∈ fp, ∃ o, s.heap.get? b = some o ∧ ∀ v, o.data ≠ .cell v) : Inv X (pins ++ pinsAt fp s.heap) σ H s :=
  I.pins_of fun p hp => (List.mem_append.mp hp).elim (fun z => I.pin p (List.mem_append_right _ z)) fun z => by
    obtain ⟨hb, e⟩ := of_pinsAt z
    obtain ⟨f0, f1, f2, _⟩ := hf p.1 hb
    obtain ⟨o, e', d⟩ := ho p.1 hb
    rw [e] at e'; cases e'
    exact ⟨e, f0, f1, f2, d⟩
theorem Inv.unpinned {pins pl : List (Addr × Obj)} {σ : St} {H : Hp} {s : Shared} (I : Inv X (pins ++ pl) σ H s) : Inv X pins σ H s := I.pins_of fun p hp => I.pin p (List.mem_append_right _ (List.mem_append_left _ hp))
theorem ps_for {iter : Expr} {body : List Stmt} {wi : TI} {g : TG} {tb : TS} {pos : Pos} (hp : PassesOwn (model X.prog X.w) X.A X.env X.xe) (hc : X.calm = true) (hi : PI X tg iter wi) (hg : PG X tg g) (hb : PSs X body tb)
    (hs : ∀ x, foldedSetIterable iter X.env x = pure x := by intro _; rfl) : PS X (.For tg iter body [] pos) (tFor wi g tb) := by
  refine ⟨?_⟩
  intro pins s σ H D I h
  refine wpAny_For (thn (hi pins s σ H _ I h) fun v s1 h1 => thn h1 fun itv s2 h2 => ?_) hs
  obtain ⟨it, fp, tn, J, H2, e, I2, T, st2, f2, W, ⟨m0, w0⟩, turn⟩ := h2
  subst e
  -- what stays true of the iterator's objects through the loop
  have stat : ∀ {H' : Hp}, (∀ b ∈ fp, H' b = none) → ∀ b ∈ fp, FpOk X pins H' b := fun hn b hb => ⟨hn b hb, (f2 b hb).2⟩
  refine codeAny_forLoop_any (fun n s' => ∃ i σ' H', Inv X pins σ' H' s' ∧ tn i s'.heap ∧ (∀ b ∈ fp, H' b = none) ∧ W i n σ' H') ?_ m0 ⟨0, σ, H2, I2, st2, fun b hb => (f2 b hb).1, w0⟩
  rintro n s3 ⟨i, σ3, H3, I3, st3, fr3, w3⟩
  rcases turn i n σ3 H3 w3 with ⟨stop, qn⟩ | ⟨go, N, hN, step⟩
  · refine wpAny_passesOwn hp (thn (T.done X rfl rfl rfl hc i pins s3 σ3 H3 X.xe I3 (stat fr3) st3 stop) fun r s4 ⟨hr, I4⟩ => ?_)
    subst hr
    exact wpAny_execs_nil ⟨σ3, H3, I4, qn⟩
  · refine wpAny_passesOwn hp (thn (T.item X rfl rfl rfl hc i pins s3 σ3 H3 X.xe I3 (stat fr3) st3 go) fun r s4 ⟨u, hr, h4⟩ => ?_)
    subst hr
    refine wpAny_passesOwn hp (thn h4 fun _ s5 ⟨x, H5, I5, r5, y5, st5, fr5⟩ => ?_)
    have I5' := I5.pinned (stat fr5) (T.obj _ _ st5)
    refine wpAny_passesOwn hp (thn (hg _ s5 σ3 H5 x u _ I5' r5 (step x H5 y5)) fun _ s6 ⟨σ6, H6, I6, q6⟩ => ?_)
    refine wpAny_passesOwn hp (thn (hb _ s6 σ6 H6 _ I6 q6) fun f s7 q7 => ?_)
    have again : ∀ {σ7 : St} {H7 : Hp}, Inv X (pins ++ pinsAt fp s5.heap) σ7 H7 s7 → N σ7 H7 → ∃ m, m < n ∧ ∃ i σ' H', Inv X pins σ' H' s7 ∧ tn i s7.heap ∧ (∀ b ∈ fp, H' b = none) ∧ W i m σ' H' := fun {σ7 H7} I7 n7 => by
      obtain ⟨m', hm, w7⟩ := hN σ7 H7 n7
      refine ⟨m', hm, i + 1, σ7, H7, I7.unpinned, T.keep _ _ _ st5 fun b hb o e => (I7.pin (b, o) (List.mem_append_right _ (List.mem_append_right _ (mem_pinsAt hb e)))).1, fun b hb => ?_, w7⟩
      obtain ⟨o, e, d⟩ := T.obj _ _ st5 b hb
      exact (I7.pin (b, o) (List.mem_append_right _ (List.mem_append_right _ (mem_pinsAt hb e)))).2.1
    cases f with
    | next => obtain ⟨σ7, H7, I7, n7⟩ := q7; exact again I7 n7
    | cont => obtain ⟨σ7, H7, I7, n7⟩ := q7; exact again I7 n7
    | brk => obtain ⟨σ7, H7, I7, q7⟩ := q7; exact ⟨σ7, H7, I7.unpinned, q7⟩
    | ret v => obtain ⟨x7, σ7, H7, I7, r7, q7⟩ := q7; exact ⟨x7, σ7, H7, I7.unpinned, r7, q7⟩
end

/-! ### the forms one uses -/
/-- over a list that the body leaves as it is -/
theorem for_list {K : PySem.W.Frag} {a : Addr} {xs : List V} {g : TG} {tb : TS} {D : Ends} {σ : St} {H : Hp} (Pv : Nat → St → Hp → Prop) (h0 : Pv 0 σ H) (hl : ∀ i σ H, i ≤ xs.length → Pv i σ H → SqL K H a xs)
    (hs : ∀ i x σ H, xs[i]? = some x → Pv i σ H → g x σ H fun σ2 H2 => tb { D with nx := Pv (i + 1), ct := Pv (i + 1), bk := D.nx } σ2 H2) (hd : ∀ σ H, Pv xs.length σ H → D.nx σ H) :
    ∃ W : Nat → Nat → St → Hp → Prop, (∃ m, W 0 m σ H) ∧ ∀ i m σ H, W i m σ H →
      ((Itl K a).stop i H ∧ D.nx σ H) ∨ ((Itl K a).go i H ∧ ∃ N : St → Hp → Prop, (∀ σ' H', N σ' H' → ∃ m', m' < m ∧ W (i + 1) m' σ' H') ∧ ∀ x H', (Itl K a).yld i H x H' → g x σ H' fun σ2 H2 => tb { D with nx := N, ct := N, bk := D.nx } σ2 H2) := by
  refine ⟨fun i m σ H => m = xs.length - i ∧ i ≤ xs.length ∧ Pv i σ H, ⟨xs.length, by simp, Nat.zero_le _, h0⟩, ?_⟩
  rintro i m σ H ⟨rfl, hi, p⟩
  have q := hl i σ H hi p
  by_cases hlt : i < xs.length
  · refine .inr ⟨⟨xs, xs[i], q, by simp [hlt]⟩, Pv (i + 1), fun σ' H' p' => ⟨xs.length - (i + 1), by omega, rfl, hlt, p'⟩, fun x H' y => ?_⟩
    obtain ⟨e, y⟩ := y
    subst e
    exact hs i x σ _ (y xs q) p
  · have e : i = xs.length := by omega
    subst e
    exact .inl ⟨⟨xs, q, Nat.le_refl _⟩, hd σ H p⟩
theorem for_range {lo : Int} {n : Nat} {g : TG} {tb : TS} {D : Ends} {σ : St} {H : Hp} (Pv : Nat → St → Hp → Prop) (h0 : Pv 0 σ H)
    (hs : ∀ i σ H, i < n → Pv i σ H → g (.int (lo + i)) σ H fun σ2 H2 => tb { D with nx := Pv (i + 1), ct := Pv (i + 1), bk := D.nx } σ2 H2) (hd : ∀ σ H, Pv n σ H → D.nx σ H) :
    ∃ W : Nat → Nat → St → Hp → Prop, (∃ m, W 0 m σ H) ∧ ∀ i m σ H, W i m σ H →
      ((Itr lo n).stop i H ∧ D.nx σ H) ∨ ((Itr lo n).go i H ∧ ∃ N : St → Hp → Prop, (∀ σ' H', N σ' H' → ∃ m', m' < m ∧ W (i + 1) m' σ' H') ∧ ∀ x H', (Itr lo n).yld i H x H' → g x σ H' fun σ2 H2 => tb { D with nx := N, ct := N, bk := D.nx } σ2 H2) := by
  refine ⟨fun i m σ H => m = n - i ∧ i ≤ n ∧ Pv i σ H, ⟨n, by simp, Nat.zero_le _, h0⟩, ?_⟩
  rintro i m σ H ⟨rfl, hi, p⟩
  by_cases hlt : i < n
  · refine .inr ⟨hlt, Pv (i + 1), fun σ' H' p' => ⟨n - (i + 1), by omega, rfl, hlt, p'⟩, fun x H' y => ?_⟩
    obtain ⟨e, y⟩ := y
    subst e y
    exact hs i σ _ hlt p
  · have e : i = n := by omega
    subst e
    exact .inl ⟨Nat.le_refl _, hd σ H p⟩
end L2

namespace L2
open PySem PySem.Spec PyProof.Rows

abbrev R2 := V → V → Hp → VK → Prop
/-- a two-place operation on values: f is binaryOp op, inplaceOp op or compareOp op -/
def OpR (X : Cx) (f : Value → Value → Sem Value) (r : R2) : Prop :=
  ∀ (pins : List (Addr × Obj)) (s : Shared) (σ : St) (H : Hp) (x y : V) (v u : Value) (Q : VK), Inv X pins σ H s → RelV x v → RelV y u → r x y H Q →
    wpAny (model X.prog X.w) X.A (f v u) (EP X pins σ Q) X.xe s
/-- a one-place operation -/
def UnR (X : Cx) (f : Value → Sem Value) (r : V → Hp → VK → Prop) : Prop :=
  ∀ (pins : List (Addr × Obj)) (s : Shared) (σ : St) (H : Hp) (x : V) (v : Value) (Q : VK), Inv X pins σ H s → RelV x v → r x H Q →
    wpAny (model X.prog X.w) X.A (f v) (EP X pins σ Q) X.xe s
/-- a call of a value that is known (a builtin, a type) with values -/
def CallR (X : Cx) (f : Value) (r : List V → Hp → VK → Prop) : Prop :=
  ∀ (pins : List (Addr × Obj)) (s : Shared) (σ : St) (H : Hp) (xs : List V) (us : List Value) (Q : VK), Inv X pins σ H s → Vals xs us → r xs H Q →
    wpAny (model X.prog X.w) X.A (call f us) (EP X pins σ Q) X.xe s
/-- a value's truth -/
def TruR (X : Cx) (r : V → Hp → (Bool → Hp → Prop) → Prop) : Prop :=
  ∀ (pins : List (Addr × Obj)) (s : Shared) (σ : St) (H : Hp) (x : V) (v : Value) (Q : Bool → Hp → Prop), Inv X pins σ H s → RelV x v → r x H Q →
    wpAny (model X.prog X.w) X.A (truthy v) (TP X pins σ Q) X.xe s

def tOp (r : R2) (ta tb : TE) : TE := fun σ H Q => ta σ H fun x H1 => tb σ H1 fun y H2 => r x y H2 Q
def tUn (r : V → Hp → VK → Prop) (ta : TE) : TE := fun σ H Q => ta σ H fun x H1 => r x H1 Q
/-- ints in, under C, and a value out -/
inductive IrI (C : Int → Int → Prop) (g : Int → Int → V) (x y : V) (H : Hp) (Q : VK) : Prop where
  | mk (i j : Int) (e1 : x = .int i) (e2 : y = .int j) (c : C i j) (q : Q (g i j) H)
def rI (C : Int → Int → Prop) (g : Int → Int → V) : R2 := fun x y H Q => IrI C g x y H Q
inductive IrI0 (g : Int → Int → V) (x y : V) (H : Hp) (Q : VK) : Prop where
  | mk (i j : Int) (e1 : x = .int i) (e2 : y = .int j) (q : Q (g i j) H)
def rI0 (g : Int → Int → V) : R2 := fun x y H Q => IrI0 g x y H Q
def rU (g : Int → V) : V → Hp → VK → Prop := fun x H Q => ∃ i, x = .int i ∧ Q (g i) H

section
variable {X : Cx} {a b c : Expr} {ta tb tc : TE} {pos : Pos}

theorem binT (ha : PE X a ta) (hb : PE X b tb) {pins : List (Addr × Obj)} {s : Shared} {σ : St} {H : Hp} {R : V → V → Hp → Prop} (I : Inv X pins σ H s)
    (h : ta σ H fun x H1 => tb σ H1 fun y H2 => R x y H2) {Q : Value → Shared → Prop} {f : Value → Value → Sem Value}
    (hf : ∀ v u s2 x y H2, Inv X pins σ H2 s2 → RelV x v → RelV y u → R x y H2 → wpAny (model X.prog X.w) X.A (f v u) Q X.xe s2) :
    wpAny (model X.prog X.w) X.A (eval a X.env) (fun v s₁ => wpAny (model X.prog X.w) X.A (eval b X.env) (fun u s₂ => wpAny (model X.prog X.w) X.A (f v u) Q X.xe s₂) X.xe s₁) X.xe s := by
  refine thn (ha pins s σ H _ I h) fun v s1 ⟨x, H1, I1, r1, q1⟩ => ?_
  refine thn (hb pins s1 σ H1 _ I1 q1) fun u s2 ⟨y, H2, I2, r2, q2⟩ => ?_
  exact hf v u s2 x y H2 I2 r1 r2 q2

theorem pe_op {op : Operator} {r : R2} (ho : OpR X (binaryOp op) r) (ha : PE X a ta) (hb : PE X b tb) : PE X (.BinOp a op b pos) (tOp r ta tb) := by
  refine ⟨?_⟩
  intro pins s σ H Q I h
  exact wpAny_BinOp (binT ha hb I h fun v u s2 x y H2 I2 rx ry q => ho pins s2 σ H2 x y v u Q I2 rx ry q)
theorem pe_un {op : UnaryOp} {r : V → Hp → VK → Prop} (ho : UnR X (unaryOp op) r) (ha : PE X a ta) : PE X (.UnaryOp op a pos) (tUn r ta) := by
  refine ⟨?_⟩
  intro pins s σ H Q I h
  exact UnaryOp_ (thn (ha pins s σ H _ I h) fun v s1 ⟨x, H1, I1, r1, q1⟩ => ho pins s1 σ H1 x v Q I1 r1 q1)
/-! ### ints -/
theorem opI {f : Value → Value → Sem Value} {C : Int → Int → Prop} {g : Int → Int → Int}
    (rule : ∀ (i j : Int) (t u : Tok) (s : Shared) (Q : Value → Shared → Prop) (E : Value → Shared → Prop), C i j → Q (.int (g i j) s.toks) { s with toks := s.toks + 1 } → wpAny (model X.prog X.w) X.A (f (.int i t) (.int j u)) Q E s) :
    OpR X f (rI C fun i j => .int (g i j)) := by
  intro pins s σ H x y v u Q I rx ry h
  obtain ⟨i, j, rfl, rfl, hc, q⟩ := h
  obtain ⟨t, rfl⟩ := rx
  obtain ⟨t', rfl⟩ := ry
  exact rule i j t t' s _ _ hc ⟨.int (g i j), H, I.tok _, ⟨_, rfl⟩, q⟩
theorem opI0 {f : Value → Value → Sem Value} {g : Int → Int → Int}
    (rule : ∀ (i j : Int) (t u : Tok) (s : Shared) (Q : Value → Shared → Prop) (E : Value → Shared → Prop), Q (.int (g i j) s.toks) { s with toks := s.toks + 1 } → wpAny (model X.prog X.w) X.A (f (.int i t) (.int j u)) Q E s) :
    OpR X f (rI0 fun i j => .int (g i j)) := by
  intro pins s σ H x y v u Q I rx ry h
  obtain ⟨i, j, rfl, rfl, q⟩ := h
  obtain ⟨t, rfl⟩ := rx
  obtain ⟨t', rfl⟩ := ry
  exact rule i j t t' s _ _ ⟨.int (g i j), H, I.tok _, ⟨_, rfl⟩, q⟩
theorem opB0 {f : Value → Value → Sem Value} {g : Int → Int → Bool}
    (rule : ∀ (i j : Int) (t u : Tok) (s : Shared) (Q : Value → Shared → Prop) (E : Value → Shared → Prop), Q (.bool (g i j)) s → wpAny (model X.prog X.w) X.A (f (.int i t) (.int j u)) Q E s) :
    OpR X f (rI0 fun i j => .bl (g i j)) := by
  intro pins s σ H x y v u Q I rx ry h
  obtain ⟨i, j, rfl, rfl, q⟩ := h
  obtain ⟨t, rfl⟩ := rx
  obtain ⟨t', rfl⟩ := ry
  exact rule i j t t' s _ _ ⟨.bl (g i j), H, I, rfl, q⟩

def CDiv (i j : Int) : Prop := 0 < j ∧ j < 1073741824
def CPow (i j : Int) : Prop := 0 ≤ j ∧ j ≤ 1000000 ∧ i.natAbs < 2 ^ 64
def CMul (i j : Int) : Prop := (-(2 ^ 64) < i ∧ i < 2 ^ 64) ∨ (-(2 ^ 64) < j ∧ j < 2 ^ 64)
theorem CMul.ok {i j : Int} (h : CMul i j) : IntMulOk i j := by
  rcases h with ⟨h1, h2⟩ | ⟨h1, h2⟩
  · exact .of_left (intBits_le_64 h1 h2)
  · exact .of_right (intBits_le_64 h1 h2)
theorem op_add : OpR X (binaryOp .Add) (rI0 fun i j => .int (i + j)) := opI0 fun _ _ _ _ _ _ _ q => add_int q
theorem op_sub : OpR X (binaryOp .Sub) (rI0 fun i j => .int (i - j)) := opI0 fun _ _ _ _ _ _ _ q => sub_int q
theorem op_mul : OpR X (binaryOp .Mult) (rI CMul fun i j => .int (i * j)) := opI fun _ _ _ _ _ _ _ hc q => mul_int q hc.ok
/-- // by a positive divisor -/
theorem op_fdiv : OpR X (binaryOp .FloorDiv) (rI CDiv fun i j => .int (i / j)) := opI fun i j _ _ _ _ _ hc q => by
  have h1 : (0 : Int) < j := hc.1
  have h2 : j < 1073741824 := hc.2
  exact floordiv_int (by omega) (by rw [Int.fdiv_eq_ediv_of_nonneg i (by omega)]; exact q) (.inl (PyProof.noPylong_small (by omega)))
/-- % by a positive divisor of any size -/
theorem op_mod : OpR X (binaryOp .Mod) (rI (fun _ j => 0 < j) fun i j => .int (i % j)) := opI fun i j _ _ _ _ _ hc q => by
  have h1 : (0 : Int) < j := hc
  exact mod_int' (by omega) (by rw [Int.fmod_eq_emod_of_nonneg i (by omega)]; exact q)
theorem op_pow : OpR X (binaryOp .Pow) (rI CPow fun i j => .int (i ^ j.toNat)) := opI fun _ _ _ _ _ _ _ hc q => pow_int_small hc.1 hc.2.1 hc.2.2 q
theorem unI {f : Value → Sem Value} {g : Int → Int}
    (rule : ∀ (i : Int) (t : Tok) (s : Shared) (Q : Value → Shared → Prop) (E : Value → Shared → Prop), Q (.int (g i) s.toks) { s with toks := s.toks + 1 } → wpAny (model X.prog X.w) X.A (f (.int i t)) Q E s) :
    UnR X f (rU fun i => .int (g i)) := by
  intro pins s σ H x v Q I rx h
  obtain ⟨i, rfl, q⟩ := h
  obtain ⟨t, rfl⟩ := rx
  exact rule i t s _ _ ⟨.int (g i), H, I.tok _, ⟨_, rfl⟩, q⟩
theorem un_neg : UnR X (unaryOp .USub) (rU fun i => .int (-i)) := unI fun _ _ _ _ _ q => neg_int q
/-! ### bools among ints: n += (a < b) -/
end

/-! ### comparisons -/
/-- the scalars that == tells apart as data does -/
def scal : V → V → Bool
  | .non, .non => true | .non, .int _ => true | .int _, .non => true | .non, .bl _ => true | .bl _, .non => true | .non, .str _ => true | .str _, .non => true
  | .int _, .int _ => true | .bl _, .bl _ => true | .str _, .str _ => true | .byt _, .byt _ => true
  | .int _, .str _ => true | .str _, .int _ => true | .bl _, .str _ => true | .str _, .bl _ => true
  | _, _ => false
def rEq : R2 := fun x y H Q => scal x y = true ∧ Q (.bl (decide (x = y))) H
def rNe : R2 := fun x y H Q => scal x y = true ∧ Q (.bl (!decide (x = y))) H

theorem dec_int {i j : Int} : decide (V.int i = V.int j) = (i == j) := by
  rw [Bool.eq_iff_iff]
  simp
theorem dec_bl {i j : Bool} : decide (V.bl i = V.bl j) = (i == j) := by
  rw [Bool.eq_iff_iff]
  simp
theorem dec_str {i j : Str} : decide (V.str i = V.str j) = (i == j) := by
  rw [Bool.eq_iff_iff]
  simp
theorem dec_byt {i j : Array UInt8} : decide (V.byt i = V.byt j) = (i.toList == j.toList) := by
  rw [Bool.eq_iff_iff]
  cases i
  cases j
  simp

section
variable {X : Cx} {a b c : Expr} {ta tb tc : TE} {pos : Pos}
theorem fin_bl {pins : List (Addr × Obj)} {σ : St} {H : Hp} {s : Shared} {Q : VK} {k k' : Bool} (I : Inv X pins σ H s) (q : Q (.bl k) H) (e : k = k') : EP X pins σ Q (.bool k') s := by
  subst e
  exact ⟨.bl k, H, I, rfl, q⟩
theorem op_eq : OpR X (compareOp .Eq) rEq := by
  intro pins s σ H x y v u Q I rx ry h
  obtain ⟨hs, q⟩ := h
  cases x with
  | non =>
    cases rx
    cases y with
    | non => cases ry; exact PySem.EqNone.eq_none_none (fin_bl I q (by simp))
    | bl j => cases ry; exact PySem.EqNone.eq_none_bool (fin_bl I q (by simp))
    | int j => obtain ⟨t', rfl⟩ := ry; exact PySem.EqNone.eq_none_int (fin_bl I q (by simp))
    | str j => obtain ⟨t', rfl⟩ := ry; exact PySem.EqNone.eq_none_str (fin_bl I q (by simp))
    | _ => exact absurd (show false = true from hs) Bool.false_ne_true
  | bl i =>
    cases rx
    cases y with
    | non => cases ry; exact PySem.EqNone.eq_bool_none (fin_bl I q (by simp))
    | bl j => cases ry; exact eq_bool (fin_bl I q dec_bl)
    | str j => obtain ⟨t', rfl⟩ := ry; exact PySem.EqMixed.eq_bool_str (fin_bl I q (by simp))
    | _ => exact absurd (show false = true from hs) Bool.false_ne_true
  | int i =>
    obtain ⟨t, rfl⟩ := rx
    cases y with
    | non => cases ry; exact PySem.EqNone.eq_int_none (fin_bl I q (by simp))
    | int j => obtain ⟨t', rfl⟩ := ry; exact eq_int (fin_bl I q dec_int)
    | str j => obtain ⟨t', rfl⟩ := ry; exact PySem.EqMixed.eq_int_str (fin_bl I q (by simp))
    | _ => exact absurd (show false = true from hs) Bool.false_ne_true
  | str i =>
    obtain ⟨t, rfl⟩ := rx
    cases y with
    | non => cases ry; exact PySem.EqNone.eq_str_none (fin_bl I q (by simp))
    | bl j => cases ry; exact PySem.EqMixed.eq_str_bool (fin_bl I q (by simp))
    | int j => obtain ⟨t', rfl⟩ := ry; exact PySem.EqMixed.eq_str_int (fin_bl I q (by simp))
    | str j => obtain ⟨t', rfl⟩ := ry; exact eq_str (fin_bl I q dec_str)
    | _ => exact absurd (show false = true from hs) Bool.false_ne_true
  | byt i =>
    obtain ⟨t, rfl⟩ := rx
    cases y with
    | byt j => obtain ⟨t', rfl⟩ := ry; exact PySem.W.eq_bytes (fin_bl I q dec_byt)
    | _ => exact absurd (show false = true from hs) Bool.false_ne_true
  | _ => cases y <;> exact absurd (show false = true from hs) Bool.false_ne_true
theorem op_ne : OpR X (compareOp .NotEq) rNe := by
  intro pins s σ H x y v u Q I rx ry h
  obtain ⟨hs, q⟩ := h
  cases x with
  | non =>
    cases rx
    cases y with
    | non => cases ry; exact PySem.EqNone.ne_none_none (fin_bl I q (by simp))
    | bl j => cases ry; exact PySem.EqNone.ne_none_bool (fin_bl I q (by simp))
    | int j => obtain ⟨t', rfl⟩ := ry; exact PySem.EqNone.ne_none_int (fin_bl I q (by simp))
    | str j => obtain ⟨t', rfl⟩ := ry; exact PySem.EqNone.ne_none_str (fin_bl I q (by simp))
    | _ => exact absurd (show false = true from hs) Bool.false_ne_true
  | bl i =>
    cases rx
    cases y with
    | non => cases ry; exact PySem.EqNone.ne_bool_none (fin_bl I q (by simp))
    | bl j => cases ry; exact ne_bool (fin_bl I q (congrArg not dec_bl))
    | str j => obtain ⟨t', rfl⟩ := ry; exact PySem.EqMixed.ne_bool_str (fin_bl I q (by simp))
    | _ => exact absurd (show false = true from hs) Bool.false_ne_true
  | int i =>
    obtain ⟨t, rfl⟩ := rx
    cases y with
    | non => cases ry; exact PySem.EqNone.ne_int_none (fin_bl I q (by simp))
    | int j => obtain ⟨t', rfl⟩ := ry; exact ne_int (fin_bl I q (congrArg not dec_int))
    | str j => obtain ⟨t', rfl⟩ := ry; exact PySem.EqMixed.ne_int_str (fin_bl I q (by simp))
    | _ => exact absurd (show false = true from hs) Bool.false_ne_true
  | str i =>
    obtain ⟨t, rfl⟩ := rx
    cases y with
    | non => cases ry; exact PySem.EqNone.ne_str_none (fin_bl I q (by simp))
    | bl j => cases ry; exact PySem.EqMixed.ne_str_bool (fin_bl I q (by simp))
    | int j => obtain ⟨t', rfl⟩ := ry; exact PySem.EqMixed.ne_str_int (fin_bl I q (by simp))
    | str j => obtain ⟨t', rfl⟩ := ry; exact ne_str (fin_bl I q (congrArg not dec_str))
    | _ => exact absurd (show false = true from hs) Bool.false_ne_true
  | byt i =>
    obtain ⟨t, rfl⟩ := rx
    cases y with
    | byt j => obtain ⟨t', rfl⟩ := ry; exact PySem.W.ne_bytes (fin_bl I q (congrArg not dec_byt))
    | _ => exact absurd (show false = true from hs) Bool.false_ne_true
  | _ => cases y <;> exact absurd (show false = true from hs) Bool.false_ne_true

theorem op_lt : OpR X (compareOp .Lt) (rI0 fun i j => .bl (decide (i < j))) := opB0 fun _ _ _ _ _ _ _ q => lt_int q
theorem op_le : OpR X (compareOp .LtE) (rI0 fun i j => .bl (decide (i ≤ j))) := opB0 fun _ _ _ _ _ _ _ q => le_int q
theorem op_gt : OpR X (compareOp .Gt) (rI0 fun i j => .bl (decide (j < i))) := opB0 fun _ _ _ _ _ _ _ q => gt_int q
/-- the one string within the other -/
theorem op_in_str : OpR X (compareOp .In) (fun x y H Q => ∃ i j, x = .str i ∧ y = .str j ∧ Q (.bl (!(Builtin.Str.occurrences j i 0 j.length 1).isEmpty)) H) := by
  intro pins s σ H x y v u Q I rx ry h
  obtain ⟨i, j, rfl, rfl, q⟩ := h
  obtain ⟨t, rfl⟩ := rx
  obtain ⟨t', rfl⟩ := ry
  exact in_str (fin_bl I q rfl)

/-- two rules for one operation: by cases -/
theorem OpR.or {f : Value → Value → Sem Value} {r r' : R2} (h : OpR X f r) (h' : OpR X f r') : OpR X f (fun x y H Q => r x y H Q ∨ r' x y H Q) := by
  intro pins s σ H x y v u Q I rx ry q
  rcases q with q | q
  · exact h pins s σ H x y v u Q I rx ry q
  · exact h' pins s σ H x y v u Q I rx ry q

theorem nomark (b : Expr) {op : CmpOp} (h : op ≠ .In := by decide) (h2 : op ≠ .NotIn := by decide) : behindInMarks op b = false := by
  have e1 : (op == CmpOp.In) = false := by cases op <;> first | rfl | exact absurd rfl h
  have e2 : (op == CmpOp.NotIn) = false := by cases op <;> first | rfl | exact absurd rfl h2
  cases b <;> simp [behindInMarks, e1, e2]
/-- a comparison as a value; hm: nomark b, or (for in, not in) by with_unfolding_all rfl -/
theorem pe_cmpR {op : CmpOp} {r : R2} (ho : OpR X (compareOp op) r) (ha : PE X a ta) (hb : PE X b tb) (hm : behindInMarks op b = false) : PE X (.Compare a [op] [b] pos) (tOp r ta tb) := by
  refine ⟨?_⟩
  intro pins s σ H Q I h
  exact wpAny_Compare1 (binT ha hb I h fun v u s2 x y H2 I2 rx ry q => ho pins s2 σ H2 x y v u Q I2 rx ry q) hm
/-- a reading of a value as a test -/
inductive ITest (x : V) (H : Hp) (Q : Bool → Hp → Prop) : Prop where
  | mk (k : Bool) (e : x = .bl k) (q : Q k H)
def tTest (t : TE) : TT := fun σ H Q => t σ H fun x H' => ITest x H' Q
theorem pt_cmpR {op : CmpOp} {r : R2} (ho : OpR X (compareOp op) r) (ha : PE X a ta) (hb : PE X b tb) (hm : behindInMarks op b = false) : PT X (.Compare a [op] [b] pos) (tTest (tOp r ta tb)) := by
  refine ⟨?_⟩
  intro pins s σ H Q I h
  refine wpAny_isTrue_Compare1 (thn (ha pins s σ H _ I h) fun v s1 ⟨x, H1, I1, r1, q1⟩ => thn (hb pins s1 σ H1 _ I1 q1) fun u s2 ⟨y, H2, I2, r2, q2⟩ =>
    thn (ho pins s2 σ H2 x y v u _ I2 r1 r2 q2) fun c s3 ⟨z, H3, I3, r3, k, e, q3⟩ => ?_) hm
  subst e
  cases r3
  exact wpAny_truthy_bool ⟨H3, I3, q3⟩
/-- a op1 b op2 c -/
def tChain (r r' : R2) (ta tb tc : TE) : TE := fun σ H Q => ta σ H fun x H1 => tb σ H1 fun y H2 => r x y H2 fun z H3 => ∃ k, z = .bl k ∧
  (if k = true then tc σ H3 fun w' H4 => r' y w' H4 Q else Q (.bl false) H3)
theorem pt_chain {op op' : CmpOp} {r r' : R2} (ho : OpR X (compareOp op) r) (ho' : OpR X (compareOp op') r') (ha : PE X a ta) (hb : PE X b tb) (hc : PE X c tc)
    (hm : lastMarks [op, op'] [b, c] = false := by with_unfolding_all rfl) : PT X (.Compare a [op, op'] [b, c] pos) (tTest (tChain r r' ta tb tc)) := by
  refine ⟨?_⟩
  intro pins s σ H Q I h
  refine isTrue_chain (thn (ha pins s σ H _ I h) fun v s1 ⟨x, H1, I1, r1, q1⟩ => test_link (thn (hb pins s1 σ H1 _ I1 q1) fun u s2 ⟨y, H2, I2, r2, q2⟩ =>
    thn (ho pins s2 σ H2 x y v u _ I2 r1 r2 q2) fun d s3 ⟨z, H3, I3, r3, k, e, q3⟩ => ?_)) hm
  subst e
  cases r3
  refine wpAny_truthy_bool ?_
  cases k with
  | false =>
    obtain ⟨k', e', q'⟩ := q3
    cases e'
    exact ite_ff ⟨H3, I3, q'⟩
  | true =>
    refine ite_tt (test_last (thn (hc pins s3 σ H3 _ I3 q3) fun w' s4 ⟨z', H4, I4, r4, q4⟩ => thn (ho' pins s4 σ H4 y z' u w' _ I4 r2 r4 q4) fun d' s5 ⟨z2, H5, I5, r5, k2, e2, q5⟩ => ?_))
    subst e2
    cases r5
    exact wpAny_truthy_bool ⟨H5, I5, q5⟩

/-! ### truth -/
/-- a value's truth by the abstract heap -/
def TruV (K : PySem.W.Frag) (x : V) (H : Hp) (k : Bool) : Prop :=
  match x with
  | .non => k = false
  | .bl b => k = b
  | .int i => k = (i != 0)
  | .str y => y.length ≤ sizeLine ∧ k = ((y.length : Int) != 0)
  | .byt y => y.size ≤ sizeLine ∧ k = ((y.size : Int) != 0)
  | .ref p => (∃ xs, SqL K H p xs ∧ k = !xs.isEmpty) ∨ (∃ xs, SqT K H p xs ∧ k = !xs.isEmpty) ∨ ∃ kvs, H p = some (.dK kvs) ∧ k = !kvs.isEmpty
  | _ => False
theorem isEmpty_kv {κ : Type} {kvs : List (κ × V)} {vs : List (κ × Value)} (r : KV kvs vs) : (!vs.isEmpty) = !kvs.isEmpty := by
  cases r <;> rfl
theorem isEmpty_of {xs : List V} {its : List Value} (r : Vals xs its) : (!its.toArray.isEmpty) = !xs.isEmpty := by
  cases r <;> simp
theorem line63 : (sizeLine : Nat) < 2 ^ 63 := by rw [sizeLine_eq]; decide
theorem tru_ok : TruR X (fun x H Q => ∃ k, TruV X.K x H k ∧ Q k H) := by
  intro pins s σ H x v Q I rx h
  obtain ⟨k, e, q⟩ := h
  have hl := line63
  have hs : sizeLine = 16777216 := sizeLine_eq
  cases x with
  | non =>
    cases rx
    have e' : k = false := e
    subst e'
    exact truthy_none ⟨H, I, q⟩
  | bl b =>
    cases rx
    have e' : k = b := e
    subst e'
    exact wpAny_truthy_bool ⟨H, I, q⟩
  | int i =>
    obtain ⟨t, rfl⟩ := rx
    have e' : k = (i != 0) := e
    subst e'
    exact PySem.P.truthy_int ⟨H, I, q⟩
  | str y =>
    obtain ⟨t, rfl⟩ := rx
    obtain ⟨hy, e'⟩ : y.length ≤ sizeLine ∧ k = ((y.length : Int) != 0) := e
    subst e'
    exact PySem.P.truthy_str (by omega) ⟨H, I.tok _, q⟩
  | byt y =>
    obtain ⟨t, rfl⟩ := rx
    obtain ⟨hy, e'⟩ : y.size ≤ sizeLine ∧ k = ((y.size : Int) != 0) := e
    subst e'
    exact PySem.W.truthy_bytes (by omega) ⟨H, I.tok _, q⟩
  | ref p =>
    cases rx
    have e' : (∃ xs, SqL X.K H p xs ∧ k = !xs.isEmpty) ∨ (∃ xs, SqT X.K H p xs ∧ k = !xs.isEmpty) ∨ ∃ kvs, H p = some (.dK kvs) ∧ k = !kvs.isEmpty := e
    rcases e' with ⟨xs, hx, e'⟩ | ⟨xs, hx, e'⟩ | ⟨kvs, hx, e'⟩
    · subst e'
      obtain ⟨its, r, pl, hz⟩ := I.list hx
      have hlen := r.length
      exact wpAny_truthy_list pl.isList (by simp only [List.size_toArray]; omega) ⟨H, I.tok _, by rw [isEmpty_of r]; exact q⟩
    · subst e'
      obtain ⟨its, r, pl, hz⟩ := I.tuple hx
      have hlen := r.length
      exact truthy_tuple pl (by simp only [List.size_toArray]; omega) ⟨H, I.tok _, by rw [isEmpty_of r]; exact q⟩
    · subst e'
      obtain ⟨hz, hS, vs, r, m⟩ : kvs.length ≤ sizeLine ∧ (p == sysModules) = false ∧ ∃ vs, KV kvs vs ∧ s.heap.DictOf (mixKind X.prog X.w) p vs := I.hok p _ hx
      have hlen : kvs.length = vs.length := Paired.length r
      exact wpAny_truthy_dict hS m (by omega) ⟨H, I.tok _, by rw [isEmpty_kv r]; exact q⟩
  | _ => exact (show False from e).elim
/-- any expression whose test is its value's truth (a name, a call, a subscript, a field ..: he by fun _ => rfl) -/
theorem pt_truth (ha : PE X a ta) (he : ∀ whole, isTrue a X.env whole = (do let v ← whole; standAt a.pos; holding [v] (truthy v))) :
    PT X a (fun σ H Q => ta σ H fun x H' => ∃ k, TruV X.K x H' k ∧ Q k H') := by
  refine ⟨?_⟩
  intro pins s σ H Q I h
  exact isTrue_plain (thn (ha pins s σ H _ I h) fun v s1 ⟨x, H1, I1, r1, q1⟩ => tru_ok pins s1 σ H1 x v Q I1 r1 q1) (he _)

/-! ### strs and bytes -/
theorem op_add_str : OpR X (binaryOp .Add) (fun x y H Q => ∃ i j, x = .str i ∧ y = .str j ∧ i.length + j.length ≤ sizeLine ∧ Q (.str (i ++ j)) H) := by
  intro pins s σ H x y v u Q I rx ry h
  obtain ⟨i, j, rfl, rfl, hz, q⟩ := h
  obtain ⟨t, rfl⟩ := rx
  obtain ⟨t', rfl⟩ := ry
  exact add_str (fun t' tk => ⟨.str (i ++ j), H, I.tok _, ⟨_, rfl⟩, q⟩) hz
/-! ### scalar builtins, by CallR -/
theorem vals1 {x : V} {us : List Value} (r : Vals [x] us) : ∃ u, us = [u] ∧ RelV x u := by
  cases r with
  | cons r1 r2 => cases r2; exact ⟨_, rfl, r1⟩
theorem vals2 {x y : V} {us : List Value} (r : Vals [x, y] us) : ∃ u w', us = [u, w'] ∧ RelV x u ∧ RelV y w' := by
  cases r with
  | cons r1 r2 =>
    cases r2 with
    | cons r3 r4 => cases r4; exact ⟨_, _, rfl, r1, r3⟩
theorem call_int1 : CallR X (.type "int") (fun xs H Q => (∃ i, xs = [.int i] ∧ Q (.int i) H) ∨ ∃ k, xs = [.bl k] ∧ Q (.int (if k then 1 else 0)) H) := by
  intro pins s σ H xs us Q I r h
  rcases h with ⟨i, rfl, q⟩ | ⟨k, rfl, q⟩
  · obtain ⟨u, rfl, t, rfl⟩ := vals1 r
    exact call_int_int ⟨.int i, H, I, ⟨_, rfl⟩, q⟩
  · obtain ⟨u, rfl, r1⟩ := vals1 r
    cases r1
    exact call_int_bool ⟨.int (if k then 1 else 0), H, I.tok _, ⟨_, rfl⟩, q⟩
end
end L2

namespace L2
open PySem PySem.Spec PyProof.Rows

/-! ### an instance, its attributes a map -/
structure ObjM (h : Heap) (x dx C : Addr) (mA : Str → Option Value) : Prop where
  obj : h.get? x = some (PySem.W.instObj C dx)
  ns : h.Ns1 dx mA
  ne : dx ≠ x

theorem lookIn_ns {h : Heap} {dx : Addr} {mA : Str → Option Value} (n : h.Ns1 dx mA) : ∃ od, h.get? dx = some od ∧ ∀ name, PySem.W.lookIn name od = some (mA name) := by
  obtain ⟨o, es, ep, ho, hd, hk, _, hm⟩ := n
  refine ⟨o, ho, fun name => ?_⟩
  have e := hm name
  unfold nsFind findBy at e
  rw [← Array.find?_toList] at e
  unfold PySem.W.lookIn
  rw [hd]
  dsimp only
  split
  · rename_i y q
    rw [q] at e
    exact congrArg some e
  · rename_i q
    rw [q] at e
    have a : es.toList.any (·.refKey) = false := by
      rw [List.any_eq_false]
      intro y hy
      obtain ⟨z, t, hkey⟩ := hk y (Array.mem_toList_iff.mp hy)
      simp [DictEntry.refKey, hkey]
    have a' : ¬ es.toList.any (·.refKey) = true := by rw [a]; exact Bool.false_ne_true
    rw [if_neg a']
    exact congrArg some e

theorem ObjM.look {h : Heap} {x dx C : Addr} {mA : Str → Option Value} (I : ObjM h x dx C mA) : ∃ od, PySem.W.InstAt h x (PySem.W.instObj C dx) C (some od) ∧ ∀ name, PySem.W.lookIn name od = some (mA name) :=
  let ⟨od, ho, hl⟩ := lookIn_ns I.ns
  ⟨od, ⟨I.obj, rfl, rfl, ho⟩, hl⟩

section
variable {prog : Program} {w : World} {A : Around} {E : Value → Shared → Prop} {s : Shared} {K : PySem.W.Frag} {x dx C f : Addr} {mA : Str → Option Value} {name : Str} {v : Value}

theorem get_map {expr : Bool} {Q : Value → Shared → Prop} (X : K.In s.heap) (I : ObjM s.heap x dx C mA) (hg : PySem.W.plainGet K C name = true) (hh : PySem.W.hasDictIn K C = true)
    (ha : PySem.W.findIn K (.ref C) name = some none) (hv : mA name = some v) (hv' : PySem.W.handedIn v = true) (h : Q v { s with toks := s.toks + 1 }) :
    wpAny (model prog w) A (getAttr (.ref x) name expr) Q E s := by
  obtain ⟨od, J, hl⟩ := I.look
  exact PySem.W.get_value X J (PySem.W.plainGet_of hg).1 (PySem.W.findObj_own hh ha rfl (by rw [hl, hv])) hv' h

theorem get_meth {pl : Sem Bool} {Q : Value × List Value → Shared → Prop} (X : K.In s.heap) (I : ObjM s.heap x dx C mA) (hg : PySem.W.plainGet K C name = true)
    (hf : PySem.W.findIn K (.ref C) name = some (some (.ref f))) (ht : PySem.W.isFn K (.ref f) = true) (hv : mA name = none) (h : Q (.ref f, [.ref x]) s) :
    wpAny (model prog w) A (getMethod (.ref x) name pl) Q E s := by
  obtain ⟨od, J, hl⟩ := I.look
  exact PySem.W.method_fn X J (PySem.W.plainGet_of hg).1 (PySem.W.plainGet_of hg).2 hf (beq_iff_eq.mp ht) (by show (PySem.W.lookIn name od).map (·.isSome) = some false; rw [hl, hv]; rfl) h

theorem set_map {ns : List Str} {Q : Unit → Shared → Prop} (X : K.In s.heap) (I : ObjM s.heap x dx C mA)
    (hs : PySem.W.findIn K (.ref C) "__setattr__" = some (some (.builtin "object.__setattr__"))) (hp : PySem.W.plainOver K C = true) (ht : PySem.W.takerIn K C name = some none) (hh : PySem.W.hasDictIn K C = true)
    (hw : PySem.Within mA ns) (hsz : ns.length ≤ sizeLine)
    (h : ∀ h', ObjM h' x dx C (fun y => if y = name then some v else mA y) → Heap.SameBut dx s.heap h' → Q () { s with heap := h', toks := s.toks + 2 }) :
    wpAny (model prog w) A (setAttr (.ref x) name v) Q E s := by
  obtain ⟨od, J, hl⟩ := I.look
  refine PySem.W.set_plain X J hs (PySem.W.osa_open (s := { s with toks := s.toks + 1 }) (r := none) X J hp ht fun b => ?_)
  obtain ⟨cd, hc, hd'⟩ := PySem.W.any_some hh
  have hx : s.heap.get? x = some ⟨.ref C, some dx, .plain, #[]⟩ := I.obj
  refine wpAny_bind (wpAny_pure (wpAny_bind (wpAny_bind (wpAny_loadPart hx (wpAny_bind (PySem.W.Looks.here (s := { s with toks := s.toks + 1 }) (PySem.W.looks_clsIn X hc) ?_))))))
  rw [hd']
  refine wpAny_pure (a := some dx) (wpAny_bind (wpAny_pure (wpAny_bind ?_)))
  refine wpAny_nsSet1 (s := { s with toks := s.toks + 1 }) I.ns fun h' hn2 hs2 => ?_
  obtain ⟨oD, esD, epD, hoD, hdD, hcD⟩ := hn2.count (PySem.Within.cons name v hw)
  refine wpAny_bind (wpAny_lookBehind hoD (by rw [hdD]; exact pastItsLine_dict (Nat.le_trans hcD (by rw [List.length_cons]; omega))) ?_)
  exact wpAny_pure (h _ ⟨(hs2.2 _ (Ne.symm I.ne)).trans I.obj, hn2, I.ne⟩ hs2)

/-- C(..): the dict at the heap's end, the instance behind it; then its __init__ -/
theorem make_map {R : Result → Shared → Prop} {vs : List Value} {kw : List (Str × Value)} (X : K.In s.heap) (hm : PySem.W.makesIn K C = true)
    (hi : PySem.W.findIn K (.ref C) "__init__" = some (some (.ref f))) (hf : PySem.W.typeIn K (.ref f) = some (.type "function"))
    (h : codeAny (model prog w) (A.under (.builtin "type.__call__" ⟨.ref C :: vs, kw⟩)) (.call (.ref f) ⟨.ref (s.heap.objs.size + 1) :: vs, kw⟩) (PySem.W.InitBack (s.heap.objs.size + 1) R)
      { s with heap := (s.heap.push PySem.W.emptyDict).push (PySem.W.instObj C s.heap.objs.size) }) :
    codeAny (model prog w) A (.call (.ref C) ⟨vs, kw⟩) R s := by
  obtain ⟨hh, g, d, t, os⟩ := s
  exact PySem.W.make_core (PySem.W.makes_of X hm) (PySem.W.looks_findIn X hi) (fun self => PySem.W.bind_fn X self hf) (.inl rfl) h
end

/-! ### the attributes as a list of pairs -/
def putF (f : Str) (v : V) : List (Str × V) → List (Str × V)
  | [] => [(f, v)]
  | (g, x) :: r => if g = f then (g, v) :: r else (g, x) :: putF f v r
theorem lookup_putF (f g : Str) (v : V) : ∀ fs : List (Str × V), (putF f v fs).lookup g = if g = f then some v else fs.lookup g
  | [] => by
    show List.lookup g [(f, v)] = _
    by_cases h : g = f
    · have hb : (g == f) = true := beq_iff_eq.mpr h
      simp only [List.lookup, hb, if_pos h]
    · have hb : (g == f) = false := beq_eq_false_iff_ne.mpr h
      simp only [List.lookup, hb, if_neg h]
  | (k, x) :: r => by
    have ih := lookup_putF f g v r
    rw [show putF f v ((k, x) :: r) = (if k = f then (k, v) :: r else (k, x) :: putF f v r) from rfl]
    by_cases hk : k = f
    · rw [if_pos hk]
      by_cases h : g = k
      · have hb : (g == k) = true := beq_iff_eq.mpr h
        simp only [List.lookup, hb, if_pos (h.trans hk)]
      · have hb : (g == k) = false := beq_eq_false_iff_ne.mpr h
        simp only [List.lookup, hb, if_neg (fun e : g = f => h (e.trans hk.symm))]
    · rw [if_neg hk]
      by_cases h : g = k
      · have hb : (g == k) = true := beq_iff_eq.mpr h
        simp only [List.lookup, hb, if_neg (fun e : g = f => hk (h.symm.trans e))]
      · have hb : (g == k) = false := beq_eq_false_iff_ne.mpr h
        simp only [List.lookup, hb]
        exact ih
theorem keys_putF (f : Str) (v : V) : ∀ fs : List (Str × V), f ∈ (putF f v fs).map (·.1) ∧ ∀ g, g ∈ fs.map (·.1) → g ∈ (putF f v fs).map (·.1)
  | [] => ⟨by simp [putF], fun g h => by simp at h⟩
  | (k, x) :: r => by
    obtain ⟨i1, i2⟩ := keys_putF f v r
    rw [show putF f v ((k, x) :: r) = (if k = f then (k, v) :: r else (k, x) :: putF f v r) from rfl]
    by_cases hk : k = f
    · rw [if_pos hk]
      subst hk
      exact ⟨by simp, fun g h => by simpa using h⟩
    · rw [if_neg hk]
      refine ⟨?_, fun g h => ?_⟩
      · rw [List.map_cons]
        exact List.mem_cons_of_mem _ i1
      · rw [List.map_cons] at h ⊢
        rcases List.mem_cons.mp h with e | e
        · exact List.mem_cons.mpr (.inl e)
        · exact List.mem_cons_of_mem _ (i2 g e)
theorem length_putF (f : Str) (v : V) : ∀ fs : List (Str × V), (putF f v fs).length ≤ fs.length + 1
  | [] => by simp [putF]
  | (k, x) :: r => by
    have ih := length_putF f v r
    rw [show putF f v ((k, x) :: r) = (if k = f then (k, v) :: r else (k, x) :: putF f v r) from rfl]
    by_cases hk : k = f
    · rw [if_pos hk, List.length_cons, List.length_cons]; omega
    · rw [if_neg hk, List.length_cons, List.length_cons]; omega

theorem RelO.some_of {v : V} {o : Option Value} (r : RelO (some v) o) : ∃ u, o = some u ∧ RelV v u := by
  cases o with
  | none => exact (show False from r).elim
  | some u => exact ⟨u, rfl, r⟩
theorem RelO.none_of {o : Option Value} (r : RelO none o) : o = none := by
  cases o with
  | none => rfl
  | some u => exact (show False from r).elim
theorem handed_of {v : V} {u : Value} (r : RelV v u) : PySem.W.handedIn u = true := by
  cases v with
  | non => cases (show u = Value.none from r); rfl
  | bl b => cases (show u = Value.bool b from r); rfl
  | int i => obtain ⟨t, e⟩ := (show ∃ t, u = Value.int i t from r); cases e; rfl
  | str x => obtain ⟨t, e⟩ := (show ∃ t, u = Value.str x t from r); cases e; rfl
  | byt b => obtain ⟨t, e⟩ := (show ∃ t, u = Value.bytes b t from r); cases e; rfl
  | flt b => obtain ⟨t, e⟩ := (show ∃ t, u = Value.float b t from r); cases e; rfl
  | ref a => cases (show u = Value.ref a from r); rfl
  | ty n => cases (show u = Value.type n from r); rfl

section
variable {P : Program} {w : World} {H H' : Hp} {h h' : Heap} {a C dx : Addr} {fs fs' : List (Str × V)}
theorem ins_get (hok : HOk P w H h) (e : H a = some (.ins C dx fs)) : ∃ mA, ObjM h a dx C mA ∧ (∀ f, RelO (fs.lookup f) (mA f)) ∧ PySem.Within mA (fs.map (·.1)) ∧ fs.length ≤ 1000 ∧ H dx = some (.own a) := by
  obtain ⟨d, z, ne, ob, mA, n, r, q⟩ := (show ObjOk P w H h a (.ins C dx fs) from hok a _ e)
  exact ⟨mA, ⟨ob, n, ne⟩, r, q, z, d⟩
end

/-! ### what of the text a class must have -/
structure Cls (K : PySem.W.Frag) (C : Addr) : Prop where
  pg : PySem.W.plainGet K C Str.empty = true
  hd : PySem.W.hasDictIn K C = true
  po : PySem.W.plainOver K C = true
  sa : PySem.W.findIn K (.ref C) "__setattr__" = some (some (.builtin "object.__setattr__"))
theorem Cls.get {K : PySem.W.Frag} {C : Addr} (c : Cls K C) (f : Str) : PySem.W.plainGet K C f = true := c.pg
/-- no class of it has the name -/
def NoAttr (K : PySem.W.Frag) (C : Addr) (f : Str) : Prop := PySem.W.findIn K (.ref C) f = some none
theorem NoAttr.taker {K : PySem.W.Frag} {C : Addr} {f : Str} (n : NoAttr K C f) : PySem.W.takerIn K C f = some none := by
  unfold PySem.W.takerIn
  rw [show PySem.W.findIn K (.ref C) f = some none from n]
  rfl
/-- a method: a plain def of the class or of one above it -/
structure Meth (K : PySem.W.Frag) (C : Addr) (m : Str) (f : Addr) : Prop where
  at_ : PySem.W.findIn K (.ref C) m = some (some (.ref f))
  fn : PySem.W.isFn K (.ref f) = true
  kp : PySem.W.keepIn K (.ref f) = true

section
variable {X : Cx} {pins : List (Addr × Obj)} {σ : St} {H : Hp} {s : Shared} {a C dx : Addr} {fs : List (Str × V)} {f : Str} {v : V} {A : Around} {E : Value → Shared → Prop}

theorem getattr_ok {b : Bool} {Q : Value → Shared → Prop} (I : Inv X pins σ H s) (e : H a = some (.ins C dx fs)) (c : Cls X.K C) (n : NoAttr X.K C f) (l : fs.lookup f = some v)
    (h : ∀ u s', Inv X pins σ H s' → RelV v u → Q u s') : wpAny (model X.prog X.w) A (getAttr (.ref a) f b) Q E s := by
  obtain ⟨mA, O, r, _, _, _⟩ := ins_get I.hok e
  obtain ⟨u, hu, ru⟩ := RelO.some_of (v := v) (o := mA f) (by rw [← l]; exact r f)
  exact get_map I.kIn O (c.get f) c.hd n hu (handed_of ru) (h u _ (I.tok _) ru)

theorem getmeth_ok {m : Str} {g : Addr} {pl : Sem Bool} {Q : Value × List Value → Shared → Prop} (I : Inv X pins σ H s) (e : H a = some (.ins C dx fs)) (c : Cls X.K C) (k : Meth X.K C m g) (l : fs.lookup m = none)
    (h : Q (.ref g, [.ref a]) s) : wpAny (model X.prog X.w) A (getMethod (.ref a) m pl) Q E s := by
  obtain ⟨mA, O, r, _, _, _⟩ := ins_get I.hok e
  have hn : mA m = none := RelO.none_of (by rw [← l]; exact r m)
  exact get_meth I.kIn O (c.get m) k.at_ k.fn hn h

theorem setattr_ok {y : V} {u : Value} {Q : Unit → Shared → Prop} (I : Inv X pins σ H s) (e : H a = some (.ins C dx fs)) (c : Cls X.K C) (n : NoAttr X.K C f) (hl : fs.length < 1000) (ry : RelV y u)
    (h : ∀ s', Inv X pins σ (upd H a (.ins C dx (putF f y fs))) s' → Q () s') : wpAny (model X.prog X.w) A (setAttr (.ref a) f u) Q E s := by
  obtain ⟨mA, O, r, wi, _, ho⟩ := ins_get I.hok e
  have hz : (fs.map (·.1)).length ≤ sizeLine := by rw [List.length_map, sizeLine_eq]; omega
  refine set_map I.kIn O c.sa c.po n.taker c.hd wi hz fun h' O' sb => h _ ?_
  have hd : ∃ o, h'.get? dx = some o := let ⟨o, _, _, e', _⟩ := O'.ns; ⟨o, e'⟩
  refine I.write (x := a) (e := dx) (by rw [e]; exact True.intro) (.inr ho) (fun b q hb z => (sb.2 b hb).trans z) hd ?_
  refine ⟨by rw [upd_ne O.ne]; exact ho, ?_, O.ne, O'.obj, _, O'.ns, fun g => ?_, fun g hg => ?_⟩
  · have := length_putF f y fs; omega
  · show RelO ((putF f y fs).lookup g) (if g = f then some u else mA g)
    rw [lookup_putF]
    by_cases q : g = f
    · rw [if_pos q, if_pos q]; exact ry
    · rw [if_neg q, if_neg q]; exact r g
  · by_cases q : g = f
    · rw [q]; exact (keys_putF f y fs).1
    · refine (keys_putF f y fs).2 g (wi g fun z => hg ?_)
      show (if g = f then some u else mA g) = none
      rw [if_neg q]; exact z

/-- a new instance, tracked, without attributes -/
theorem Inv.made (I : Inv X pins σ H s) : Inv X pins σ (upd (upd H s.heap.objs.size (.own (s.heap.objs.size + 1))) (s.heap.objs.size + 1) (.ins C s.heap.objs.size []))
    { s with heap := (s.heap.push PySem.W.emptyDict).push (PySem.W.instObj C s.heap.objs.size) } := by
  have e1 : (s.heap.push PySem.W.emptyDict).get? s.heap.objs.size = some PySem.W.emptyDict := Heap.get?_push_size s.heap rfl
  have e2 : ((s.heap.push PySem.W.emptyDict).push (PySem.W.instObj C s.heap.objs.size)).get? (s.heap.objs.size + 1) = some (PySem.W.instObj C s.heap.objs.size) := by
    have := Heap.get?_push_size (s.heap.push PySem.W.emptyDict) (o := PySem.W.instObj C s.heap.objs.size) rfl
    rwa [Heap.size_push] at this
  have e3 : (s.heap.push PySem.W.emptyDict).Ns s.heap.objs.size (fun _ => none) := ⟨PySem.W.emptyDict, #[], _, e1, rfl, (fun e he => absurd he (by simp)), fun _ => rfl⟩
  have I1 := I.laid (a := s.heap.objs.size) (o := .own (s.heap.objs.size + 1)) (h' := s.heap.push PySem.W.emptyDict) (t' := s.toks) (fun b u q => Heap.get?_push_of_some _ q) (Nat.le_refl _) ⟨_, e1⟩
  refine I1.laid (a := s.heap.objs.size + 1) (o := .ins C s.heap.objs.size []) (t' := s.toks) (fun b u q => Heap.get?_push_of_some _ q) (Nat.le_of_eq (Heap.size_push _ _)) ?_
  have ne : s.heap.objs.size ≠ s.heap.objs.size + 1 := Nat.ne_of_lt (Nat.lt_succ_self _)
  refine ⟨by rw [upd_ne ne, upd_same], Nat.zero_le _, ne, e2, fun _ => none, (Heap.Ns1.of_empty e3).at fun o q => Heap.get?_push_of_some _ q, fun _ => True.intro, fun y hy => absurd rfl hy⟩

/-- e.f where nothing but the object is asked: through attributeBase (super) and the last hold -/
theorem attr_of {prog : Program} {w : World} {env : Env} {e : Expr} {f : Str} {pos : Pos} {s : Shared} {Q : Value → Shared → Prop} (hb : attributeBase e f env (eval e env) = eval e env)
    (h : wpAny (model prog w) A (eval e env) (fun o s₁ => wpAny (model prog w) A (getAttr o f true) Q E s₁) E s) : wpAny (model prog w) A (eval (.Attribute e f pos) env) Q E s :=
  Attribute_any_ h (by rw [arm_eval_Attribute, hb])
end

/-! ### readings and rules -/
/-- e.f, an attribute of the instance -/
def tFld (K : PySem.W.Frag) (ta : TE) (f : Str) : TE := fun σ H Q => ta σ H fun x H1 => ∃ a C dx fs v, x = .ref a ∧ H1 a = some (.ins C dx fs) ∧ Cls K C ∧ NoAttr K C f ∧ fs.lookup f = some v ∧ Q v H1
/-- e.f = value -/
def sFld (K : PySem.W.Frag) (ta tv : TE) (f : Str) : TS := fun D σ H => tv σ H fun y H1 => ta σ H1 fun x H2 => ∃ a C dx fs, x = .ref a ∧ H2 a = some (.ins C dx fs) ∧ Cls K C ∧ NoAttr K C f ∧ fs.length < 1000 ∧
  D.nx σ (upd H2 a (.ins C dx (putF f y fs)))
section
variable {X : Cx} {o e value : Expr} {f : Str} {pos pos' tpos : Pos} {ta tv : TE}
theorem pe_fld (he : PE X e ta) (hb : attributeBase e f X.env (eval e X.env) = eval e X.env) : PE X (.Attribute e f pos) (tFld X.K ta f) := by
  refine ⟨?_⟩
  intro pins s σ H Q I h
  refine attr_of hb (thn (he pins s σ H _ I h) fun u s1 ⟨x, H1, I1, rx, a, C, dx, fs, v, ex, ea, c, n, l, q⟩ => ?_)
  subst ex
  obtain rfl : u = Value.ref a := rx
  exact getattr_ok I1 ea c n l fun u' s2 I2 ru => ⟨v, H1, I2, ru, q⟩
theorem ps_fld (ha : PE X o ta) (hv : PE X value tv) (hs : swapsWith value (some (.Attribute o f pos')) pos.line X.env = pure false) : PS X (.Assign [.Attribute o f pos'] value pos) (sFld X.K ta tv f) := by
  refine ⟨?_⟩
  intro pins s σ H D I h
  refine plainObj_wpAny_Assign_Attribute (thn (hv pins s σ H _ I h) fun u s1 ⟨y, H1, I1, ry, q⟩ => thn (ha pins s1 σ H1 _ I1 q) fun ov s2 ⟨x, H2, I2, rx, a, C, dx, fs, ex, ea, c, n, l, q2⟩ => ?_) hs
  subst ex
  obtain rfl : ov = Value.ref a := rx
  exact setattr_ok I2 ea c n l ry fun s3 I3 => ⟨σ, _, I3, q2⟩
end

/-! ### isinstance -/
section
variable {X : Cx} {pins : List (Addr × Obj)} {σ : St} {H : Hp} {s : Shared} {A : Around} {E : Value → Shared → Prop} {Q : Value → Shared → Prop} {c : Value} {b : Bool}
/-- the type of a value, as the fragment's deciders take it; for an instance its class -/
inductive TyOf (K : PySem.W.Frag) (H : Hp) : V → Value → Prop where
  | non : TyOf K H .non (.type "NoneType")
  | bl (x : Bool) : TyOf K H (.bl x) (.type "bool")
  | int (i : Int) : TyOf K H (.int i) (.type "int")
  | str (x : Str) : TyOf K H (.str x) (.type "str")
  | flt (x : UInt64) : TyOf K H (.flt x) (.type "float")
  | lst {a : Addr} {xs : List V} (e : H a = some (.lst xs)) : TyOf K H (.ref a) (.type "list")
  | frz {a : Addr} {o : Obj} {xs : List V} (e : H a = some (.frz o (.lst xs))) : TyOf K H (.ref a) (.type "list")
  | tup {a : Addr} {xs : List V} (e : H a = some (.tup xs)) : TyOf K H (.ref a) (.type "tuple")
  | dK {a : Addr} {kvs : List (Key × V)} (e : H a = some (.dK kvs)) : TyOf K H (.ref a) (.type "dict")
  | dT {a : Addr} {kvs : List (List Key × V)} (e : H a = some (.dT kvs)) : TyOf K H (.ref a) (.type "dict")
  | ins {a C dx : Addr} {fs : List (Str × V)} (e : H a = some (.ins C dx fs)) (cl : Cls K C) (ha : PySem.W.findIn K (.ref C) "__class__" = some (some (.builtin "object.__class__")))
      (hn : PySem.W.specialIn K (.builtin "object.__class__") "__get__" = some (some (.builtin "getset_descriptor.__get__"))) (htk : PySem.W.takesIn K (.builtin "object.__class__") = some true)
      (hm : PySem.W.mroIn K C (.type "object") = some true) : TyOf K H (.ref a) (.ref C)
/-- isinstance(x, c) for one class c, a built-in or an own one: kitOne's answer -/
theorem isinst_ok {x : V} {u t : Value} (I : Inv X pins σ H s) (rx : RelV x u) (ty : TyOf X.K H x t) (e : PySem.W.kitOne X.K t c = some b) (h : ∀ tk, Q (.bool b) { s with toks := tk }) :
    wpAny (model X.prog X.w) A (call (.builtin "isinstance") [u, c]) Q E s := by
  cases ty with
  | non => cases (show u = Value.none from rx); exact PySem.W.kia_one PySem.W.kitx_none I.kIn True.intro e (fun z => nomatch z) h
  | bl y => cases (show u = Value.bool y from rx); exact PySem.W.kia_one PySem.W.kitx_bool I.kIn True.intro e (fun z => nomatch z) h
  | int i => obtain ⟨t, q⟩ := (show ∃ t, u = Value.int i t from rx); cases q; exact PySem.W.kia_one PySem.W.kitx_int I.kIn True.intro e (fun z => nomatch z) h
  | str y => obtain ⟨t, q⟩ := (show ∃ t, u = Value.str y t from rx); cases q; exact PySem.W.kia_one PySem.W.kitx_str I.kIn True.intro e (fun z => nomatch z) h
  | flt y => obtain ⟨t, q⟩ := (show ∃ t, u = Value.float y t from rx); cases q; exact PySem.W.kia_one PySem.W.kitx_float I.kIn True.intro e (fun z => nomatch z) h
  | @lst a xs ea =>
    cases (show u = Value.ref a from rx)
    obtain ⟨_, _, n, _, h1⟩ := (show ObjOk X.prog X.w H s.heap a (.lst xs) from I.hok a _ ea)
    exact PySem.W.kia_one PySem.W.kitx_list I.kIn ⟨_, h1, rfl⟩ e (fun z => nomatch z) h
  | @frz a ob xs ea =>
    cases (show u = Value.ref a from rx)
    obtain ⟨_, _, _, n, _, h1⟩ := (show ObjOk X.prog X.w H s.heap a (.frz ob (.lst xs)) from I.hok a _ ea)
    exact PySem.W.kia_one PySem.W.kitx_list I.kIn ⟨_, h1, rfl⟩ e (fun z => nomatch z) h
  | @tup a xs ea =>
    cases (show u = Value.ref a from rx)
    obtain ⟨_, _, _, p⟩ := (show ObjOk X.prog X.w H s.heap a (.tup xs) from I.hok a _ ea)
    obtain ⟨o, h1, h2, _⟩ := p
    exact PySem.W.kia_one PySem.W.kitx_tuple I.kIn ⟨o, h1, h2⟩ e (fun z => nomatch z) h
  | @dK a kvs ea =>
    cases (show u = Value.ref a from rx)
    obtain ⟨_, _, vs, _, p⟩ := (show ObjOk X.prog X.w H s.heap a (.dK kvs) from I.hok a _ ea)
    obtain ⟨o, es, ep, h1, h2, _⟩ := p
    exact PySem.W.kia_one PySem.W.kitx_dict I.kIn ⟨o, h1, h2.1⟩ e (fun z => nomatch z) h
  | @dT a kvs ea =>
    cases (show u = Value.ref a from rx)
    obtain ⟨_, _, xs, _, o, es, ep, h1, h2, _⟩ := (show ObjOk X.prog X.w H s.heap a (.dT kvs) from I.hok a _ ea)
    exact PySem.W.kia_one PySem.W.kitx_dict I.kIn ⟨o, h1, h2.1⟩ e (fun z => nomatch z) h
  | @ins a C dx fs ea cl ha hn htk hm =>
    cases (show u = Value.ref a from rx)
    obtain ⟨mA, O, _⟩ := ins_get I.hok ea
    obtain ⟨od, J, _⟩ := O.look
    exact PySem.W.kia_one (PySem.W.kitx_own (cl.get _) cl.hd ha hn htk hm) I.kIn J e (fun z => nomatch z) h
end
end L2

namespace L2
open PySem PySem.Spec PyProof.Rows

/-! ### room -/
structure Room (k : Nat) (A : Around) : Prop where
  hd : A.handled = none
  dp : A.depth + 3 * k + 5 < recursionLimit
  un : A.units + 16 * k + 200 < cLine
theorem Room.mono {j k : Nat} {A : Around} (r : Room k A) (h : j ≤ k) : Room j A := ⟨r.hd, by have := r.dp; omega, by have := r.un; omega⟩
theorem Room.deeper {k : Nat} {A : Around} (r : Room (k + 1) A) (env : Env) : Room k (A.deeper env) :=
  ⟨r.hd, by have := r.dp; show A.depth + 1 + 3 * k + 5 < _; omega, by have := r.un; show A.units + 3 + 16 * k + 200 < _; omega⟩
theorem make_depth {A : Around} {C : Addr} {us : List Value} {kw : List (Str × Value)} : (A.under (.builtin "type.__call__" ⟨.ref C :: us, kw⟩)).depth = A.depth + 1 := by
  first | rfl | simp [Around.under, Code.weight, Code.isCreation, Code.isGuard, Code.isCaller, Code.frames, Code.isFrame, guardIds]
theorem make_units {A : Around} {C : Addr} {us : List Value} {kw : List (Str × Value)} : (A.under (.builtin "type.__call__" ⟨.ref C :: us, kw⟩)).units = A.units + 1 := by
  first | rfl | simp [Around.under, Code.cUnits, Code.frames, Code.isFrame]
theorem Room.make {k : Nat} {A : Around} (r : Room (k + 1) A) (C : Addr) (us : List Value) (kw : List (Str × Value)) : Room k (A.under (.builtin "type.__call__" ⟨.ref C :: us, kw⟩)) :=
  ⟨r.hd, by have := r.dp; rw [make_depth]; omega, by have := r.un; rw [make_units]; omega⟩
theorem Room.depth {k : Nat} {A : Around} (r : Room k A) : A.depth < recursionLimit := by have := r.dp; omega
theorem Room.units {k : Nat} {A : Around} (r : Room k A) : A.units + 64 < cLine := by have := r.un; omega
theorem Room.units0 {k : Nat} {A : Around} (r : Room k A) : A.units < cLine := by have := r.un; omega

/-! ### argument lists and displays -/
def tNil : TA := fun _ H Q => Q [] H
def tCons (ta : TE) (tr : TA) : TA := fun σ H Q => ta σ H fun x H1 => tr σ H1 fun xs H2 => Q (x :: xs) H2
section
variable {X : Cx} {e : Expr} {es : List Expr} {te : TE} {t : TA} {pos : Pos}
theorem pa_nil : PA X [] tNil := ⟨fun _ _ _ _ H Q I h => Calls.spliced_nil ⟨[], H, I, .nil, h⟩⟩
theorem pa_cons (ha : PE X e te) (hr : PA X es t) (hs : starEach (e :: es) X.env = (false, eval e X.env) :: starEach es X.env := by rfl) : PA X (e :: es) (tCons te t) := by
  refine ⟨?_⟩
  intro pos pins s σ H Q I h
  rw [hs]
  show wpAny _ _ (spliced ((false, eval e X.env) :: backTo pos (starEach es X.env))) _ _ s
  refine Calls.spliced_cons (thn (ha pins s σ H _ I h) fun u s1 ⟨x, H1, I1, r1, q1⟩ => ?_)
  exact thn (hr pos pins s1 σ H1 _ I1 q1) fun us s2 ⟨xs, H2, I2, r2, q2⟩ => ⟨x :: xs, H2, I2, .cons r1 r2, q2⟩

/-- a tuple, a list of written items -/
def tTup (t : TA) : TE := fun σ H Q => t σ H fun xs H1 => xs.length ≤ sizeLine ∧ ∀ p, H1 p = none → Q (.ref p) (upd H1 p (.tup xs))
def tLst (t : TA) : TE := fun σ H Q => t σ H fun xs H1 => xs.length ≤ sizeLine ∧ ∀ p, H1 p = none → Q (.ref p) (upd H1 p (.lst xs))
theorem pe_tup {x1} (h : PA X es t) : PE X (.Tuple es x1 pos) (tTup t) := by
  refine ⟨?_⟩
  intro pins s σ H Q I hq
  refine wpAny_Tuple_spliced (thn (h pos pins s σ H _ I hq) fun us s1 ⟨xs, H1, I1, r, z, q⟩ => ⟨by rw [← r.length]; exact z, ?_⟩)
  have hf : H1 s1.heap.objs.size = none := I1.hok.fresh (Nat.le_refl _)
  refine ⟨.ref s1.heap.objs.size, upd H1 s1.heap.objs.size (.tup xs), I1.laid (t' := s1.toks) (fun b u e => Heap.get?_push_of_some _ e) (Nat.le_refl _) ?_, rfl, q _ hf⟩
  exact ⟨z, us, r, ⟨_, Heap.get?_push_size _ rfl, rfl, _, rfl⟩⟩
theorem pe_lst (h : PA X es t) : PE X (.List es pos) (tLst t) := by
  refine ⟨?_⟩
  intro pins s σ H Q I hq
  refine wpAny_List_spliced (thn (h pos pins s σ H _ I hq) fun us s1 ⟨xs, H1, I1, r, z, q⟩ => ⟨by rw [← r.length]; exact z, ?_⟩)
  have hf : H1 s1.heap.objs.size = none := I1.hok.fresh (Nat.le_refl _)
  refine ⟨.ref s1.heap.objs.size, upd H1 s1.heap.objs.size (.lst xs), I1.laid (t' := s1.toks) (fun b u e => Heap.get?_push_of_some _ e) (Nat.le_refl _) ?_, rfl, q _ hf⟩
  exact ⟨z, us, 0, r, Heap.get?_push_size _ rfl⟩
end

/-! ### what a def promises -/
/-- a def's promise: the bound arguments in the parameters' order, the heap, the wanted end, the wanted exception -/
abbrev Sp := List V → Hp → VK → XK → Prop
/-- how an exception lies behind a call (file 08 gives it): the callers' frames, abstract heap and state ahead of the call, the wish, the exception, the state -/
abbrev CXT := List Env → Hp → Shared → XK → Value → Shared → Prop

/-- the state at a call -/
structure Env0 (P : Program) (w : World) (K : PySem.W.Frag) (mg : Str → Option Value) (base : Heap) (A : Around) (outer : List Env) (s : Shared) (H : Hp) : Prop where
  frames : A.frames = some outer
  mod : Mod K mg base
  bs : ∀ b o, base.get? b = some o → s.heap.get? b = some o ∧ H b = none
  bsz : base.objs.size ≤ s.heap.objs.size
  funs : s.heap.FunFrames base outer
  frf : ∀ b ∈ frs outer, H b = none
  hok : HOk P w H s.heap
  bare : AllBare s.gens
/-- a call's end -/
def CE (outer : List Env) (P : Program) (w : World) (H : Hp) (s : Shared) (Q : VK) (u : Value) (s' : Shared) : Prop :=
  ∃ v H', s'.os = s.os ∧ AllBare s'.gens ∧ Un (frs outer) [] H H' s.heap s'.heap ∧ HOk P w H' s'.heap ∧ RelV v u ∧ Q v H'
def CR (CX : CXT) (outer : List Env) (P : Program) (w : World) (H : Hp) (s : Shared) (Q : VK) (E : XK) (r : Result) (s' : Shared) : Prop :=
  match r with
  | .ok (.ret u) => CE outer P w H s Q u s'
  | .ok _ => False
  | .error e => CX outer H s E e s'
structure FnOk (P : Program) (w : World) (K : PySem.W.Frag) (mg : Str → Option Value) (base : Heap) (CX : CXT) (k : Nat) (f : Addr) (fd : FuncData) (ps : List Str) (sp : Sp) : Prop where
  len : ∀ vs H Q E, sp vs H Q E → vs.length = ps.length
  run : ∀ (A : Around) (outer : List Env) (s : Shared) (H : Hp) (args : Args) (us : List Value) (vs : List V) (Q : VK) (E : XK), Room k A → Env0 P w K mg base A outer s H → BindsTo s fd args (ps.zip us) → Vals vs us → sp vs H Q E →
    codeAny (model P w) A (.call (.ref f) args) (CR CX outer P w H s Q E) s
theorem Env0.make {P : Program} {w : World} {K : PySem.W.Frag} {mg : Str → Option Value} {base : Heap} {A : Around} {outer : List Env} {s : Shared} {H : Hp} (e : Env0 P w K mg base A outer s H) (C : Addr) (us : List Value) (kw : List (Str × Value)) :
    Env0 P w K mg base (A.under (.builtin "type.__call__" ⟨.ref C :: us, kw⟩)) outer s H := ⟨by first | exact e.frames | (simpa [Around.under, Code.envs, Code.isFrame, pushEnvs] using e.frames), e.mod, e.bs, e.bsz, e.funs, e.frf, e.hok, e.bare⟩
section
variable {X : Cx} {pins : List (Addr × Obj)} {σ : St} {H : Hp} {s s' : Shared}
/-- from a body: what a callee wants -/
theorem Inv.env0 (I : Inv X pins σ H s) : Env0 X.prog X.w X.K X.mg X.base X.A X.stack s H :=
  ⟨I.ok.frames, I.ok.mod, I.bs, Nat.le_trans I.ok.bsz I.sz, I.stack, I.stkFree, I.hok, I.bare⟩
/-- behind a call -/
theorem Inv.after {Q : VK} {u : Value} (I : Inv X pins σ H s) (h : CE X.stack X.prog X.w H s Q u s') : EP X pins σ Q u s' := by
  obtain ⟨v, H', os, bare, un, hok, r, q⟩ := h
  obtain ⟨hh, g, d, t, os'⟩ := s'
  obtain rfl : os' = s.os := os
  exact ⟨v, H', I.call (h' := hh) (g' := g) (d' := d) (t' := t) (ch := []) un hok bare (fun b z => absurd z (by simp)), r, q⟩
end

/-! ### calls -/
/-- f(..): the written arguments, then the defaults dvs; E: what is wanted of an exception -/
def tCall (sp : Sp) (dvs : List V) (E : XK) (t : TA) : TE := fun σ H Q => t σ H fun vs H1 => sp (vs ++ dvs) H1 Q E
/-- o.m(..) of an instance of the class at C -/
def tMeth (C : Addr) (m : Str) (sp : Sp) (dvs : List V) (E : XK) (ta : TE) (t : TA) : TE := fun σ H Q => ta σ H fun x H1 => ∃ a dx fs, x = .ref a ∧ H1 a = some (.ins C dx fs) ∧ fs.lookup m = none ∧
  t σ H1 fun vs H2 => sp (x :: (vs ++ dvs)) H2 Q E
/-- C(..): a new instance and its dict, then __init__ -/
def tMake (C : Addr) (sp : Sp) (dvs : List V) (E : XK) (t : TA) : TE := fun σ H Q => t σ H fun vs H1 => ∀ x dx, H1 x = none → H1 dx = none → dx ≠ x →
  sp (.ref x :: (vs ++ dvs)) (upd (upd H1 dx (.own x)) x (.ins C dx [])) (fun v H2 => v = .non ∧ Q (.ref x) H2) E

/-- how the parameters are bound: us the positional arguments, kw the keywords' values by name, ds the defaults that fill up -/
def Binds (K : PySem.W.Frag) (fd : FuncData) (ps : List Str) (ds : List Value) : Prop :=
  ∀ (s : Shared) (us : List Value), K.In s.heap → (us ++ ds).length = ps.length → BindsTo s fd ⟨us, []⟩ (ps.zip (us ++ ds))
/-- every parameter is given -/
theorem Binds.all {K : PySem.W.Frag} {fd : FuncData} {ps : List Str} (h : ∀ us : List Value, us.length = ps.length → bindArgs fd ⟨us, []⟩ = pure (ps.zip us)) : Binds K fd ps [] := fun s us _ hl => by
  rw [List.append_nil] at hl ⊢
  exact .of_eq (h us hl)

/-- an exception of a callee reaches what this body wants of exceptions -/
def Passes (CX : CXT) (X : Cx) (E : XK) : Prop := ∀ (pins : List (Addr × Obj)) (σ : St) (H : Hp) (s : Shared) (e : Value) (s' : Shared), Inv X pins σ H s → CX X.stack H s E e s' → X.xe e s'

section
variable {X : Cx} {CX : CXT} {k : Nat} {f C : Addr} {fd : FuncData} {ps : List Str} {sp : Sp} {dvs : List V} {ds : List Value} {E : XK} {x m : Str} {p pos apos : Pos} {e o : Expr} {es : List Expr} {ta : TE} {t : TA}

/-- the callee runs -/
theorem run_fn {pins : List (Addr × Obj)} {σ : St} {H : Hp} {s : Shared} {Q : VK} {us : List Value} {vs : List V} (F : FnOk X.prog X.w X.K X.mg X.base CX k f fd ps sp) (hr : Room k X.A) (hb : Binds X.K fd ps ds) (hd : Vals dvs ds) (hx : Passes CX X E)
    (I : Inv X pins σ H s) (r : Vals vs us) (h : sp (vs ++ dvs) H Q E) : wpAny (model X.prog X.w) X.A (call (.ref f) us) (EP X pins σ Q) X.xe s := by
  have r2 : Vals (vs ++ dvs) (us ++ ds) := r.append hd
  have hl : (us ++ ds).length = ps.length := by rw [← r2.length]; exact F.len _ _ _ _ h
  refine wpAny_call (codeAny_mono (F.run X.A X.stack s H ⟨us, []⟩ (us ++ ds) (vs ++ dvs) Q E hr I.env0 (hb s us I.kIn hl) r2 h) fun r s' hq => ?_)
  cases r with
  | error e => exact hx pins σ H s e s' I hq
  | ok fl =>
    cases fl with
    | ret u => exact I.after hq
    | next => exact False.elim hq
    | brk => exact False.elim hq
    | cont => exact False.elim hq

theorem pe_call (F : FnOk X.prog X.w X.K X.mg X.base CX k f fd ps sp) (hr : Room k X.A) (hg : Gl X x) (hm : X.mg x = some (.ref f)) (hk : PySem.W.keepIn X.K (.ref f) = true) (hb : Binds X.K fd ps ds) (hd : Vals dvs ds) (hx : Passes CX X E)
    (ha : PA X (e :: es) t) (hdb : (x == ("__debug__" : Str)) = false := by decide) (he : starEach (e :: es) X.env = (false, eval e X.env) :: starEach es X.env := by rfl) (hpl : (backTo pos (starEach es X.env)).any (·.1) = false := by rfl) :
    PE X (.Call (.Name x p) (e :: es) [] pos) (tCall sp dvs E t) := by
  refine ⟨?_⟩
  intro pins s σ H Q I h
  refine wpAny_Call_Name_kw (ld_glob I hg hm ?_ hdb)
  refine PySem.W.callWith_K (h₀ := X.base) I.ok.mod.kin hk (thn (ha pos pins s σ H _ I h) fun us s1 ⟨vs, H1, I1, r, q⟩ => ⟨I1.kIn, ?_⟩) he hpl
  exact run_fn F hr hb hd hx I1 r q
/-- o.m(e, ..) -/
theorem pe_meth {pl : Sem Bool} (he : PE X o ta) (c : Cls X.K C) (hm : Meth X.K C m f) (F : FnOk X.prog X.w X.K X.mg X.base CX k f fd ps sp) (hr : Room k X.A) (hb : Binds X.K fd ps ds) (hd : Vals dvs ds) (hx : Passes CX X E) (ha : PA X (e :: es) t)
    (hst : starEach (e :: es) X.env = (false, eval e X.env) :: starEach es X.env := by rfl) (hpl : (backTo pos (starEach es X.env)).any (·.1) = false := by rfl)
    (ht : eval (.Call (.Attribute o m apos) (e :: es) [] pos) X.env = (do
      let ov ← eval o X.env
      standAt apos.atName
      let (f, first) ← holding [ov] (getMethod ov m pl)
      callWith pos f first (backTo pos (starEach (e :: es) X.env)) (backToKw pos (keywordEach [] X.env))) := by rfl) :
    PE X (.Call (.Attribute o m apos) (e :: es) [] pos) (tMeth C m sp dvs E ta t) := by
  refine ⟨?_⟩
  intro pins s σ H Q I h
  refine PySem.W.methodCall_KW (pl := pl) (thn (he pins s σ H _ I h) fun u s1 ⟨x, H1, I1, rx, a, dx, fs, ex, ea, l, q⟩ => ?_) ht
  subst ex
  obtain rfl : u = Value.ref a := rx
  refine getmeth_ok I1 ea c hm l ?_
  refine PySem.W.callWith_K (first := [.ref a]) (h₀ := X.base) I.ok.mod.kin hm.kp (thn (ha pos pins s1 σ H1 _ I1 q) fun us s2 ⟨vs, H2, I2, r, q2⟩ => ⟨I2.kIn, ?_⟩) hst hpl
  exact run_fn (us := .ref a :: us) (vs := .ref a :: vs) F hr hb hd hx I2 (.cons rfl r) q2
/-- o.m() -/
theorem pe_meth0 {pl : Sem Bool} (he : PE X o ta) (c : Cls X.K C) (hm : Meth X.K C m f) (F : FnOk X.prog X.w X.K X.mg X.base CX k f fd ps sp) (hr : Room k X.A) (hb : Binds X.K fd ps ds) (hd : Vals dvs ds) (hx : Passes CX X E)
    (ht : eval (.Call (.Attribute o m apos) [] [] pos) X.env = (do
      let ov ← eval o X.env
      standAt apos.atName
      let (f, first) ← holding [ov] (getMethod ov m pl)
      callWith pos f first (backTo pos (starEach [] X.env)) (backToKw pos (keywordEach [] X.env))) := by rfl) :
    PE X (.Call (.Attribute o m apos) [] [] pos) (tMeth C m sp dvs E ta tNil) := by
  refine ⟨?_⟩
  intro pins s σ H Q I h
  refine PySem.W.methodCall_KW (pl := pl) (thn (he pins s σ H _ I h) fun u s1 ⟨x, H1, I1, rx, a, dx, fs, ex, ea, l, q⟩ => ?_) ht
  subst ex
  obtain rfl : u = Value.ref a := rx
  refine getmeth_ok I1 ea c hm l ?_
  exact PySem.W.callWith_K0 (first := [.ref a]) I1.kIn hm.kp (run_fn (us := [.ref a]) (vs := [.ref a]) F hr hb hd hx I1 (.cons rfl .nil) q)

/-- what a class must have to be made -/
structure Mk (K : PySem.W.Frag) (C f : Addr) : Prop where
  makes : PySem.W.makesIn K C = true
  init : PySem.W.findIn K (.ref C) "__init__" = some (some (.ref f))
  fn : PySem.W.isFn K (.ref f) = true
  kp : PySem.W.keepIn K (.ref C) = true

theorem run_make {pins : List (Addr × Obj)} {σ : St} {H : Hp} {s : Shared} {Q : VK} {us : List Value} {vs : List V} (M : Mk X.K C f) (F : FnOk X.prog X.w X.K X.mg X.base CX k f fd ps sp) (hr : Room (k + 1) X.A) (hb : Binds X.K fd ps ds) (hd : Vals dvs ds)
    (hx : Passes CX X E) (I : Inv X pins σ H s) (r : Vals vs us)
    (h : ∀ x dx, H x = none → H dx = none → dx ≠ x → sp (.ref x :: (vs ++ dvs)) (upd (upd H dx (.own x)) x (.ins C dx [])) (fun v H2 => v = .non ∧ Q (.ref x) H2) E) :
    wpAny (model X.prog X.w) X.A (call (.ref C) us) (EP X pins σ Q) X.xe s := by
  have hq := h (s.heap.objs.size + 1) s.heap.objs.size (I.hok.fresh (Nat.le_succ _)) (I.hok.fresh (Nat.le_refl _)) (Nat.ne_of_lt (Nat.lt_succ_self _))
  have I2 := Inv.made (C := C) I
  have r2 : Vals (V.ref (s.heap.objs.size + 1) :: (vs ++ dvs)) (Value.ref (s.heap.objs.size + 1) :: (us ++ ds)) := .cons rfl (r.append hd)
  have hl : (Value.ref (s.heap.objs.size + 1) :: us ++ ds).length = ps.length := by
    have e := r2.length
    rw [F.len _ _ _ _ hq] at e
    exact e.symm
  refine wpAny_call (make_map (f := f) I.kIn M.makes M.init (beq_iff_eq.mp M.fn) (codeAny_mono (F.run _ X.stack _ _ ⟨Value.ref (s.heap.objs.size + 1) :: us, []⟩ (Value.ref (s.heap.objs.size + 1) :: (us ++ ds)) _ _ E (hr.make C us [])
    (I2.env0.make C us []) (hb _ (Value.ref (s.heap.objs.size + 1) :: us) I2.kIn hl) r2 hq) fun r s' hq' => ?_))
  cases r with
  | error e => exact hx pins σ _ _ e s' I2 hq'
  | ok fl =>
    cases fl with
    | ret u =>
      obtain ⟨v, H', I3, rv, ev, q3⟩ := I2.after hq'
      subst ev
      exact ⟨rv, ⟨V.ref (s.heap.objs.size + 1), H', I3, rfl, q3⟩⟩
    | next => exact False.elim hq'
    | brk => exact False.elim hq'
    | cont => exact False.elim hq'
theorem pe_make (M : Mk X.K C f) (F : FnOk X.prog X.w X.K X.mg X.base CX k f fd ps sp) (hr : Room (k + 1) X.A) (hg : Gl X x) (hm : X.mg x = some (.ref C)) (hb : Binds X.K fd ps ds) (hd : Vals dvs ds) (hx : Passes CX X E)
    (ha : PA X (e :: es) t) (hdb : (x == ("__debug__" : Str)) = false := by decide) (he : starEach (e :: es) X.env = (false, eval e X.env) :: starEach es X.env := by rfl) (hpl : (backTo pos (starEach es X.env)).any (·.1) = false := by rfl) :
    PE X (.Call (.Name x p) (e :: es) [] pos) (tMake C sp dvs E t) := by
  refine ⟨?_⟩
  intro pins s σ H Q I h
  refine wpAny_Call_Name_kw (ld_glob I hg hm ?_ hdb)
  refine PySem.W.callWith_K (h₀ := X.base) I.ok.mod.kin M.kp (thn (ha pos pins s σ H _ I h) fun us s1 ⟨vs, H1, I1, r, q⟩ => ⟨I1.kIn, ?_⟩) he hpl
  exact run_make M F hr hb hd hx I1 r q
end

/-! ### keywords -/
section
variable {X : Cx} {CX : CXT} {k : Nat} {f C : Addr} {fd : FuncData} {ps ks : List Str} {sp : Sp} {E : XK} {x m : Str} {p pos apos kpos : Pos} {e o : Expr} {es : List Expr} {kws : List Keyword} {te ta : TE} {t tk : TA} {nm : Option Str}
variable {g : List Value → List Value → List Value} {gV : List V → List V → List V}
end

/-! ### a def's body keeps its promise -/
/-- names: the parameters first -/
structure FnScope (N P : List Str) (sc : Scope) : Prop where
  kind : sc.kind = .function
  co : sc.isCoroutine = false
  gen : sc.isGenerator = false
  nd : N.Nodup
  pre : N.take P.length = P
  par : ∀ x ∈ P, sc.names.lookup x = some .local ∨ sc.names.lookup x = some .cell
  nofree : ∀ y ∈ sc.names, y.2 ≠ .free

theorem bindL_out {kindOf : Str → Option NameKind} {x : Str} : ∀ {binds : List (Str × Value)} {m : Str → Option Value}, (∀ v, (x, v) ∉ binds) → bindL kindOf binds m x = m x
  | [], _, _ => rfl
  | (n, v) :: r, m, h => by
    unfold bindL
    rw [bindL_out fun w hw => h w (List.mem_cons_of_mem _ hw)]
    split
    · have : x ≠ n := by rintro rfl; exact h v List.mem_cons_self
      simp [this]
    · rfl
theorem bindC_out {kindOf : Str → Option NameKind} {x : Str} : ∀ {binds : List (Str × Value)} {m : Str → Option Value}, (∀ v, (x, v) ∉ binds) → bindC kindOf binds m x = m x
  | [], _, _ => rfl
  | (n, v) :: r, m, h => by
    unfold bindC
    rw [bindC_out fun w hw => h w (List.mem_cons_of_mem _ hw)]
    split
    · rfl
    · have : x ≠ n := by rintro rfl; exact h v List.mem_cons_self
      simp [this]
theorem bindL_get {kindOf : Str → Option NameKind} {x : Str} {v : Value} : ∀ {P : List Str} {vs : List Value} {i : Nat} {m : Str → Option Value}, P.Nodup → P[i]? = some x → vs[i]? = some v → kindOf x = some .local →
    bindL kindOf (P.zip vs) m x = some v
  | [], _, _, _, _, h, _, _ => by simp at h
  | _ :: _, [], _, _, _, _, h, _ => by simp at h
  | p :: P, w :: vs, 0, m, nd, h1, h2, hk => by
    simp at h1 h2; subst h1; subst h2
    show bindL kindOf ((p, w) :: P.zip vs) m p = _
    unfold bindL
    rw [bindL_out fun v hv => (List.nodup_cons.mp nd).1 (List.of_mem_zip hv).1, if_pos hk]
    simp
  | p :: P, w :: vs, i + 1, m, nd, h1, h2, hk => by
    show bindL kindOf ((p, w) :: P.zip vs) m x = _
    unfold bindL
    exact bindL_get (i := i) (List.nodup_cons.mp nd).2 (by simpa using h1) (by simpa using h2) hk
theorem bindC_get {kindOf : Str → Option NameKind} {x : Str} {v : Value} : ∀ {P : List Str} {vs : List Value} {i : Nat} {m : Str → Option Value}, P.Nodup → P[i]? = some x → vs[i]? = some v → kindOf x ≠ some .local →
    bindC kindOf (P.zip vs) m x = some v
  | [], _, _, _, _, h, _, _ => by simp at h
  | _ :: _, [], _, _, _, _, h, _ => by simp at h
  | p :: P, w :: vs, 0, m, nd, h1, h2, hk => by
    simp at h1 h2; subst h1; subst h2
    show bindC kindOf ((p, w) :: P.zip vs) m p = _
    unfold bindC
    rw [bindC_out fun v hv => (List.nodup_cons.mp nd).1 (List.of_mem_zip hv).1, if_neg hk]
    simp
  | p :: P, w :: vs, i + 1, m, nd, h1, h2, hk => by
    show bindC kindOf ((p, w) :: P.zip vs) m x = _
    unfold bindC
    exact bindC_get (i := i) (List.nodup_cons.mp nd).2 (by simpa using h1) (by simpa using h2) hk

/-- the names' values at the entry -/
def start (N : List Str) (vs : List V) : St := vs.map some ++ List.replicate (N.length - vs.length) none

/-- the context of a def's body, at its entry; an exception leaves the frame, then lies as CX says -/
def cxOf (CX : CXT) (P : Program) (w : World) (K : PySem.W.Frag) (mg : Str → Option Value) (base : Heap) (N : List Str) (qual : Str) (scope : Scope) (f : Addr) (cd : Value) (A : Around) (outer : List Env) (s : Shared) (H : Hp) (E : XK) : Cx where
  prog := P
  w := w
  K := K
  mg := mg
  base := base
  A := A.deeper (envOfC qual scope s.heap.objs.size f cd)
  N := N
  s₀ := s
  H₀ := H
  env := envOfC qual scope s.heap.objs.size f cd
  outer := outer
  stack := envOfC qual scope s.heap.objs.size f cd :: outer
  ex := []
  calm := true
  fn := fun _ => true
  pn := []
  xe := fun e s' => wpAny (model P w) (A.deeper (envOfC qual scope s.heap.objs.size f cd)) (leaving (envOfC qual scope s.heap.objs.size f cd) e) (fun _ s'' => CX outer H s E e s'') (fun e' s'' => CX outer H s E e' s'') s'

theorem cell_has {sc : Scope} {n : Nat} {x : Str} (h : sc.names.lookup x = some .cell) : ∃ c, (cellsFrom n sc.names []).lookup x = some c := by
  have q := PySem.W.cellsFrom_some sc.names n [] (.inl h)
  exact Option.isSome_iff_exists.mp q

theorem inv_start {CX : CXT} {P : Program} {w : World} {K : PySem.W.Frag} {mg : Str → Option Value} {base : Heap} {N ps : List Str} {qual : Str} {scope : Scope} {f : Addr} {cd : Value} {A : Around} {outer : List Env} {s s1 : Shared} {H : Hp} {E : XK} {us : List Value} {vs : List V}
    (S : FnScope N ps scope) (hd : A.handled = none) (e0 : Env0 P w K mg base A outer s H) (hl : vs.length = ps.length) (r : Vals vs us)
    (x : InCallC s s.heap.objs.size (bindL (envOfC qual scope s.heap.objs.size f cd).kindOf (ps.zip us) fun _ => none) (cellsFrom (s.heap.objs.size + 1) scope.names []) (bindC (envOfC qual scope s.heap.objs.size f cd).kindOf (ps.zip us) fun _ => none) s1) :
    Inv (cxOf CX P w K mg base N qual scope f cd A outer s H E) [] (start N vs) H s1 := by
  have hpl : ps.length ≤ N.length := by have := congrArg List.length S.pre; rw [List.length_take] at this; omega
  obtain ⟨h1, tk, rfl, hk⟩ := x.done
  have noA : ∀ b : Addr, b ∉ (cxOf CX P w K mg base N qual scope f cd A outer s H E).ex := fun b z => absurd (show b ∈ ([] : List Addr) from z) (by simp)
  refine ⟨⟨e0.mod, S.kind, rfl, rfl, Nat.le_refl _, fun y z c h1 h2 => ?_, fun y hy => ?_, fun y c _ h => ?_, fun _ => hd, Around.frames_deeper e0.frames, .inr ⟨rfl, rfl⟩, fun b z => absurd z (noA b), e0.bs, e0.bsz, fun b _ _ => noA b, fun b z => absurd z (noA b), e0.funs, e0.frf⟩,
    rfl, e0.bare, Un.kept hk, ⟨_, x.toInCall.ns, fun i y v h1 h2 h3 => ?_⟩, fun y c h => ⟨_, x.cell y c h⟩, e0.hok.fresh (Nat.le_refl _), fun y c h => ?_, fun p hp => absurd (show p ∈ ([] : List (Addr × Obj)) from hp) (by simp), e0.hok.kept hk, ?_⟩
  · exact name_of_addr x.apart (PySem.mem_of_lookup h1) (PySem.mem_of_lookup h2)
  · have hy : scope.names.lookup y = some .cell ∨ scope.names.lookup y = some .free := hy
    rcases hy with hy | hy
    · exact cell_has hy
    · exact absurd rfl (S.nofree _ (PySem.mem_of_lookup hy))
  · exact Nat.le_of_lt (x.above y c (PySem.mem_of_lookup h))
  · have hi : i < vs.length := by
      unfold start at h2
      by_cases hi : i < vs.length
      · exact hi
      · rw [List.getElem?_append_right (by simpa using hi)] at h2
        rw [List.getElem?_replicate] at h2
        split at h2 <;> cases h2
    have ha : vs[i]? = some v := by
      unfold start at h2
      rw [List.getElem?_append_left (by simpa using hi), List.getElem?_map] at h2
      cases e : vs[i]? with
      | none => rw [e] at h2; cases h2
      | some a => rw [e] at h2; cases h2; rfl
    obtain ⟨u, hu, rv⟩ := r.get ha
    have hp : ps[i]? = some y := by
      rw [← S.pre, List.getElem?_take_of_lt (by omega)]; exact h1
    have ndP : ps.Nodup := by rw [← S.pre]; exact S.nd.sublist (List.take_sublist _ _)
    refine ⟨u, rv, ?_⟩
    rcases S.par y (List.mem_of_getElem? hp) with k | k
    · exact .inl ⟨k, bindL_get ndP hp hu k⟩
    · obtain ⟨c, e⟩ := cell_has (n := s.heap.objs.size + 1) k
      refine .inr ⟨.inl k, c, e, ?_⟩
      have q := x.cell y c e
      rw [bindC_get ndP hp hu (by show scope.names.lookup y ≠ _; rw [k]; decide)] at q
      exact q
  · exact e0.hok.fresh (Nat.le_of_lt (x.above y c (PySem.mem_of_lookup h)))
  · unfold start
    show _ = N.length
    rw [List.length_append, List.length_map, List.length_replicate]
    omega

/-- THE RULE: a def (or a method) of the text, by its body. The body's reading t is chosen for each entry; it is run at the parameters' values -/
theorem fn_of {CX : CXT} {P : Program} {w : World} {K : PySem.W.Frag} {mg : Str → Option Value} {base : Heap} {k : Nat} {f : Addr} {name qual : Str} {params : Arguments} {body : List Stmt} {scope : Scope} {dV kV doc pm cdv ct oc : Value} {an od : Option Addr}
    {osl : Array (Option Value)} {N ps : List Str} {sp : Sp} (lk : K.lookup f = some ⟨oc, od, .func (PySem.W.fnOf name qual params body scope dV kV doc pm an cdv ct), osl⟩) (hcd : PySem.W.codeIn K cdv qual = true) (S : FnScope N ps scope)
    (len : ∀ vs H Q E, sp vs H Q E → vs.length = ps.length)
    (hbody : ∀ (A : Around) (outer : List Env) (s : Shared) (H : Hp) (vs : List V) (Q : VK) (E : XK), Room k (A.deeper (envOfC qual scope s.heap.objs.size f cdv)) → sp vs H Q E →
      ∃ t, PSs (cxOf CX P w K mg base N qual scope f cdv A outer s H E) body t ∧ t { nx := fun _ H' => Q .non H', rt := Q } (start N vs) H) :
    FnOk P w K mg base CX (k + 1) f (PySem.W.fnOf name qual params body scope dV kV doc pm an cdv ct) ps sp := by
  refine ⟨len, fun A outer s H args us vs Q E hr e0 hb r hsp => ?_⟩
  have hl := len _ _ _ _ hsp
  have KX : K.In s.heap := e0.mod.kin.keeps fun b o e => (e0.bs b o e).1
  have lim : s.heap.NoLimit := e0.mod.nolimit.keeps fun b o e => (e0.bs b o e).1
  have hkind : ∀ y ∈ ps.zip us, scope.names.lookup y.1 = some .local ∨ (scope.names.lookup y.1 = some .cell ∧ ((cellsFrom (s.heap.objs.size + 1) scope.names []).lookup y.1).isSome = true) := fun ⟨n, v⟩ hy => by
    rcases S.par n (List.of_mem_zip hy).1 with q | q
    · exact .inl q
    · exact .inr ⟨q, PySem.W.cellsFrom_some _ _ _ (.inl q)⟩
  refine codeAny_call_function hr.depth (KX _ _ lk) rfl S.co S.gen rfl (PySem.W.codeRec_of KX hcd) (hb _ _ _ _ ?_)
  refine wpAny_newFunctionEnv_cells S.kind hkind fun env he s1 x => ?_
  subst he
  refine ⟨lim.keeps x.toInCall.keep, codeAny_func ?_⟩
  obtain ⟨t, ht, hq⟩ := hbody A outer s H vs Q E (hr.deeper _) hsp
  have I : Inv (cxOf CX P w K mg base N qual scope f cdv A outer s H E) [] (start N vs) H s1 := inv_start S hr.hd e0 hl r x
  refine wpAny_mono (ht [] s1 (start N vs) H _ I hq) (fun fl s' hs => ?_) fun e s' hs => hs
  have fin : ∀ {σ' : St} {H' : Hp} {v : V} {u : Value}, Inv (cxOf CX P w K mg base N qual scope f cdv A outer s H E) [] σ' H' s' → RelV v u → Q v H' → CE outer P w H s Q u s' :=
    fun {σ' H' v u} J rv q => ⟨v, H', J.os, J.bare, J.base, J.hok, rv, q⟩
  cases fl with
  | ret u =>
    obtain ⟨v, σ', H', J, rv, q⟩ := hs
    exact fin J rv q
  | next =>
    obtain ⟨σ', H', J, q⟩ := hs
    exact fin (v := V.non) (u := Value.none) J rfl q
  | brk =>
    obtain ⟨_, _, _, q⟩ := hs
    exact False.elim q
  | cont =>
    obtain ⟨_, _, _, q⟩ := hs
    exact False.elim q
end L2

namespace L2
open PySem PySem.Spec PyProof.Rows
section
variable {X : Cx} {x : Str} {p pos : Pos} {e : Expr} {es : List Expr} {t : TA} {id T : String} {r : List V → Hp → VK → Prop}

def tCB (r : List V → Hp → VK → Prop) (t : TA) : TE := fun σ H Q => t σ H fun vs H1 => r vs H1 Q
/-- f(e, ..), f a built-in function -/
theorem pe_callB (hc : CallR X (.builtin id) r) (hg : Gl X x) (hm : X.mg x = none) (hv : bootBuiltins x = some (.builtin id)) (ha : PA X (e :: es) t) (hn : x ≠ "__name__" := by decide) (hdb : (x == ("__debug__" : Str)) = false := by decide)
    (he : starEach (e :: es) X.env = (false, eval e X.env) :: starEach es X.env := by rfl) (hpl : (backTo pos (starEach es X.env)).any (·.1) = false := by rfl) : PE X (.Call (.Name x p) (e :: es) [] pos) (tCB r t) := by
  refine ⟨?_⟩
  intro pins s σ H Q I h
  refine wpAny_Call_Name_kw (ld_blt I hg hm hv ?_ hn hdb)
  exact PyProof.Rows.callWith_builtin1 (thn (ha pos pins s σ H _ I h) fun us s1 ⟨vs, H1, I1, r1, q1⟩ => hc pins s1 σ H1 vs us Q I1 r1 q1) he hpl
/-- T(e, ..), T a built-in type -/
theorem pe_callTy (hc : CallR X (.type T) r) (hg : Gl X x) (hm : X.mg x = none) (hv : bootBuiltins x = some (.type T)) (ha : PA X (e :: es) t) (hn : x ≠ "__name__" := by decide) (hdb : (x == ("__debug__" : Str)) = false := by decide)
    (he : starEach (e :: es) X.env = (false, eval e X.env) :: starEach es X.env := by rfl) (hpl : (backTo pos (starEach es X.env)).any (·.1) = false := by rfl) : PE X (.Call (.Name x p) (e :: es) [] pos) (tCB r t) := by
  refine ⟨?_⟩
  intro pins s σ H Q I h
  refine wpAny_Call_Name_kw (ld_blt I hg hm hv ?_ hn hdb)
  exact PyProof.Rows.callWith_type1 (thn (ha pos pins s σ H _ I h) fun us s1 ⟨vs, H1, I1, r1, q1⟩ => hc pins s1 σ H1 vs us Q I1 r1 q1) he hpl
/-- T() -/
theorem pe_callTy0 (hc : CallR X (.type T) r) (hg : Gl X x) (hm : X.mg x = none) (hv : bootBuiltins x = some (.type T)) (hn : x ≠ "__name__" := by decide) (hdb : (x == ("__debug__" : Str)) = false := by decide) :
    PE X (.Call (.Name x p) [] [] pos) (tCB r tNil) := by
  refine ⟨?_⟩
  intro pins s σ H Q I h
  refine wpAny_Call_Name_kw (ld_blt I hg hm hv ?_ hn hdb)
  exact PyProof.Rows.callWith_type0 (hc pins s σ H [] [] Q I .nil h)
end
end L2

namespace HT
open PySem PyProof.Rows

section
open PySem.SeqAt
open PySem.AutoSeq1 (wpAny_loadPart')
open PySem.MeetsSeq PySem.MeetsSeq2 PySem.MeetsSeq3

end

section
variable {prog : Program} {w : World} {A : Around} {E : Value → Shared → Prop} {s : Shared}

/-! ### t[a:b], not the whole -/
/-- a slice's bound as a place among n (d where it is left out) -/
def sIx (n d : Nat) : Option Int → Nat
  | none => d
  | some v => if v < 0 then (v + (n : Int)).toNat else min v.toNat n
theorem sIx_none (n d : Nat) : sIx n d none = d := rfl
theorem sIx_nat (n d k : Nat) : sIx n d (some (k : Int)) = min k n := by
  show (if (k : Int) < 0 then ((k : Int) + (n : Int)).toNat else min (k : Int).toNat n) = min k n
  rw [if_neg (by omega), Int.toNat_natCast]
end
end HT

namespace L2
open PySem PySem.Spec PyProof.Rows

/-! ### the parts of a slice -/
abbrev TO := St → Hp → (Option Int → Hp → Prop) → Prop
/-- a slice's part (left out, or an int) -/
structure PO (X : Cx) (e : Option Expr) (t : TO) : Prop where
  run : ∀ (pins : List (Addr × Obj)) (s : Shared) (σ : St) (H : Hp) (Q : Option Int → Hp → Prop), Inv X pins σ H s → t σ H Q →
    wpAny (model X.prog X.w) X.A (evalPart e X.env) (fun u s' => ∃ o H', Inv X pins σ H' s' ∧ IsPart u o ∧ Q o H') X.xe s
instance {X : Cx} {e : Option Expr} {t : TO} : CoeFun (PO X e t) (fun _ => ∀ (pins : List (Addr × Obj)) (s : Shared) (σ : St) (H : Hp) (Q : Option Int → Hp → Prop), Inv X pins σ H s → t σ H Q →
    wpAny (model X.prog X.w) X.A (evalPart e X.env) (fun u s' => ∃ o H', Inv X pins σ H' s' ∧ IsPart u o ∧ Q o H') X.xe s) := ⟨PO.run⟩

def tNoPart : TO := fun _ H Q => Q none H
def tPart (t : TE) : TO := fun σ H Q => t σ H fun x H1 => ∃ i, x = .int i ∧ Q (some i) H1

section
variable {X : Cx} {e : Expr} {te : TE} {lo hi : Option Expr} {tl th : TO} {pos p2 : Pos}

theorem po_none : PO X none tNoPart := by
  refine ⟨?_⟩
  intro pins s σ H Q I h
  rw [evalPart_none]
  exact wpAny_pure ⟨none, H, I, .none, h⟩
theorem po_some (h : PE X e te) : PO X (some e) (tPart te) := by
  refine ⟨?_⟩
  intro pins s σ H Q I hw
  rw [evalPart_some]
  refine thn (h pins s σ H _ I hw) fun u s1 ⟨x, H1, I1, r1, q1⟩ => ?_
  obtain ⟨i, rfl, q⟩ := q1
  obtain ⟨t, rfl⟩ := r1
  exact ⟨some i, H1, I1, .int i t, q⟩

/-- what a slice of a value is, by values: the slice object stands at sl -/
def SlR (X : Cx) (r : V → Option Int → Option Int → Hp → VK → Prop) : Prop :=
  ∀ (pins : List (Addr × Obj)) (s : Shared) (σ : St) (H : Hp) (x : V) (v vl vu : Value) (lo hi : Option Int) (sl : Addr) (Q : VK), Inv X pins σ H s → RelV x v → s.heap.IsSliceOf sl vl vu .none → IsPart vl lo → IsPart vu hi → r x lo hi H Q →
    ∃ T id, typeLookup (.type T) "__getitem__" = pure (some (.builtin id)) ∧ s.TypeIs v T ∧ wpAny (model X.prog X.w) X.A (getItem v (.ref sl)) (EP X pins σ Q) X.xe s
def tSl (r : V → Option Int → Option Int → Hp → VK → Prop) (te : TE) (tl th : TO) : TE := fun σ H Q => te σ H fun x H1 => tl σ H1 fun l H2 => th σ H2 fun u H3 => r x l u H3 Q
/-- a[lo:hi], any a -/
theorem pe_slice {r : V → Option Int → Option Int → Hp → VK → Prop} (hr : SlR X r) (he : PE X e te) (hl : PO X lo tl) (hu : PO X hi th) : PE X (.Subscript e (.Slice lo hi none p2) pos) (tSl r te tl th) := by
  refine ⟨?_⟩
  intro pins s σ H Q I h
  refine Subscript_ (thn (he pins s σ H _ I h) fun v s1 ⟨x, H1, I1, r1, q1⟩ => ?_)
  refine wpAny_Slice (thn (hl pins s1 σ H1 _ I1 q1) fun vl s2 ⟨l, H2, I2, pl, q2⟩ => thn (hu pins s2 σ H2 _ I2 q2) fun vu s3 ⟨u, H3, I3, pu, q3⟩ => ?_)
  rw [evalPart_none]
  refine wpAny_pure ?_
  have I4 : Inv X pins σ H3 { s3 with heap := s3.heap.push { cls := .type "slice", data := .fields #[vl, vu, .none] } } := I3.kept (t' := s3.toks) fun b ob q => Heap.get?_push_of_some _ q
  obtain ⟨T, id, hT, ht, hg⟩ := hr pins { s3 with heap := s3.heap.push { cls := .type "slice", data := .fields #[vl, vu, .none] } } σ H3 x v vl vu l u s3.heap.objs.size Q I4 r1 (Heap.IsSliceOf.new ..) pl pu q3
  show wpAny (model X.prog X.w) X.A (subscriptTail e (.Slice lo hi none p2) v (.ref s3.heap.objs.size)) (EP X pins σ Q) X.xe { s3 with heap := s3.heap.push { cls := .type "slice", data := .fields #[vl, vu, .none] } }
  exact tail_any (ops := [.ref s3.heap.objs.size, v]) ht hT hg (by with_unfolding_all rfl)

/-- the items of xs[lo:hi] -/
def cutV (xs : List V) (lo hi : Option Int) : List V := (xs.drop (HT.sIx xs.length 0 lo)).take (HT.sIx xs.length xs.length hi - HT.sIx xs.length 0 lo)
theorem cutV_length (xs : List V) (lo hi : Option Int) : (cutV xs lo hi).length ≤ xs.length := by
  unfold cutV
  rw [List.length_take, List.length_drop]
  omega
/-! ### t < u, t + u -/
end
end L2

namespace L2
open PySem PySem.Spec PyProof.Rows

/-! ### places -/
/-- the place that an index of any sign means -/
def ixN (n : Nat) (i : Int) : Option Nat := if 0 ≤ i then (if i < n then some i.toNat else none) else if -(n : Int) ≤ i then some (i + n).toNat else none
def atI {α : Type} (xs : List α) (i : Int) : Option α := (ixN xs.length i).bind fun j => xs[j]?
theorem ixN_seq {n : Nat} {i : Int} {j : Nat} (h : ixN n i = some j) : seqIndex? i n = some j ∧ j < n ∧ -(n : Int) ≤ i ∧ i < n := by
  unfold ixN at h
  by_cases h0 : 0 ≤ i
  · rw [if_pos h0] at h
    by_cases h1 : i < n
    · rw [if_pos h1] at h
      have e : i.toNat = j := Option.some.inj h
      exact ⟨by rw [seqIndex_of h0 h1, e], by omega, by omega, h1⟩
    · rw [if_neg h1] at h; cases h
  · rw [if_neg h0] at h
    by_cases h1 : -(n : Int) ≤ i
    · rw [if_pos h1] at h
      have e : (i + n).toNat = j := Option.some.inj h
      exact ⟨by rw [seqIndex_neg (by omega) h1, e], by omega, h1, by omega⟩
    · rw [if_neg h1] at h; cases h
theorem atI_get {α : Type} {xs : List α} {i : Int} {v : α} (h : atI xs i = some v) : ∃ j, seqIndex? i xs.length = some j ∧ xs[j]? = some v ∧ j < xs.length ∧ -(xs.length : Int) ≤ i ∧ i < xs.length := by
  unfold atI at h
  cases e : ixN xs.length i with
  | none => rw [e] at h; cases h
  | some j =>
    rw [e] at h
    obtain ⟨h1, h2, h3, h4⟩ := ixN_seq e
    exact ⟨j, h1, h, h2, h3, h4⟩
theorem atI_nat {α : Type} {xs : List α} {j : Nat} {v : α} (h : xs[j]? = some v) : atI xs (j : Int) = some v := by
  have hj : j < xs.length := (List.getElem?_eq_some_iff.mp h).1
  have e : ixN xs.length (j : Int) = some j := by
    unfold ixN
    rw [if_pos (by omega), if_pos (by omega)]; simp
  unfold atI; rw [e]; exact h
/-! ### what may be subscripted -/
/-- what stands as an index of a plain subscript -/
def PlainIx (b : Expr) : Prop := ∀ o i, subscripted b false o i = operate [o, i] (getItem o i)
/-- a subscript by values -/
def IxR (X : Cx) (r : R2) : Prop :=
  ∀ (value slice : Expr) (pins : List (Addr × Obj)) (s : Shared) (σ : St) (H : Hp) (x y : V) (v u : Value) (Q : VK), Inv X pins σ H s → RelV x v → RelV y u → r x y H Q →
    subscripted slice false v u = operate [v, u] (getItem v u) → wpAny (model X.prog X.w) X.A (subscriptTail value slice v u) (EP X pins σ Q) X.xe s
/-- a call of a builtin's method by values: the receiver, the arguments -/
def MtR (X : Cx) (id : String) (r : V → List V → Hp → VK → Prop) : Prop :=
  ∀ (pins : List (Addr × Obj)) (s : Shared) (σ : St) (H : Hp) (x : V) (xs : List V) (v : Value) (us : List Value) (Q : VK), Inv X pins σ H s → RelV x v → Vals xs us → r x xs H Q →
    wpAny (model X.prog X.w) X.A (call (.builtin id) (v :: us)) (EP X pins σ Q) X.xe s
section
variable {X : Cx} {a b : Expr} {ta tb : TE} {pos : Pos}
/-- a[b] -/
theorem pe_ix {r : R2} (hr : IxR X r) (ha : PE X a ta) (hb : PE X b tb) (hs : PlainIx b) : PE X (.Subscript a b pos) (tOp r ta tb) := by
  refine ⟨?_⟩
  intro pins s σ H Q I h
  exact Subscript_ (binT ha hb I h fun v u s2 x y H2 I2 rx ry q => hr a b pins s2 σ H2 x y v u Q I2 rx ry q (hs _ _))

inductive IIxL (K : PySem.W.Frag) (x y : V) (H : Hp) (Q : VK) : Prop where
  | mk (p : Addr) (xs : List V) (i : Int) (v : V) (e1 : x = .ref p) (e2 : y = .int i) (h : SqL K H p xs) (a : atI xs i = some v) (q : Q v H)
def rIxL (K : PySem.W.Frag) : R2 := fun x y H Q => IIxL K x y H Q
inductive IIxT (K : PySem.W.Frag) (x y : V) (H : Hp) (Q : VK) : Prop where
  | mk (p : Addr) (xs : List V) (i : Int) (v : V) (e1 : x = .ref p) (e2 : y = .int i) (h : SqT K H p xs) (a : atI xs i = some v) (q : Q v H)
def rIxT (K : PySem.W.Frag) : R2 := fun x y H Q => IIxT K x y H Q
def rIxS : R2 := fun x y H Q => ∃ z i c, x = .str z ∧ y = .int i ∧ z.length ≤ sizeLine ∧ atI z.cps.toList i = some c ∧ Q (.str ⟨#[c]⟩) H
theorem ix_list : IxR X (rIxL X.K) := by
  intro value slice pins s σ H x y v u Q I rx ry h hs
  obtain ⟨p, xs, i, z, rfl, rfl, hq, he, q⟩ := h
  cases rx
  obtain ⟨t, rfl⟩ := ry
  obtain ⟨its, r, pl, hz⟩ := I.list hq
  obtain ⟨j, h1, h2, h3, h4, h5⟩ := atI_get he
  obtain ⟨w, ew, rw'⟩ := r.get h2
  have hl := r.length
  have hn := line63
  have fin : EP X pins σ Q w s := ⟨z, H, I, rw', q⟩
  by_cases h0 : 0 ≤ i
  · have hj : i.toNat = j := by
      rw [seqIndex_of h0 h5] at h1
      exact Option.some.inj h1
    exact item_listR pl.isList h0 (by omega) (by rw [hj]; simpa using ew) fin hs
  · have hj : (i + (its.toArray.size : Int)).toNat = j := by
      rw [seqIndex_neg (by omega) h4] at h1
      rw [List.size_toArray, ← hl]
      exact Option.some.inj h1
    exact subscriptTail_builtinR (x := w) pl.isList.typeIs slot_list_getitem.lookup
      (wpAny_getItem_list_neg (Q := fun r s' => r = w ∧ EP X pins σ Q r s') pl.isList (by omega) (by rw [List.size_toArray] <;> omega) (by omega) (by rw [hj]; simpa using ew) ⟨rfl, fin⟩) hs
theorem ix_tup : IxR X (rIxT X.K) := by
  intro value slice pins s σ H x y v u Q I rx ry h hs
  obtain ⟨p, xs, i, z, rfl, rfl, hq, he, q⟩ := h
  cases rx
  obtain ⟨t, rfl⟩ := ry
  obtain ⟨its, r, pl, hz⟩ := I.tuple hq
  obtain ⟨j, h1, h2, h3, h4, h5⟩ := atI_get he
  obtain ⟨w, ew, rw'⟩ := r.get h2
  have hl := r.length
  have hn := line63
  have fin : EP X pins σ Q w s := ⟨z, H, I, rw', q⟩
  exact subscriptTail_builtinR (x := w) pl.typeIs slot_tuple_getitem.lookup
    (getItem_tuple (j := j) (Q := fun r s' => r = w ∧ EP X pins σ Q r s') pl (by omega) (by omega) (by rw [List.size_toArray, ← hl]; exact h1) (by simpa using ew) ⟨rfl, fin⟩) hs
theorem ix_str : IxR X rIxS := by
  intro value slice pins s σ H x y v u Q I rx ry h hs
  obtain ⟨z, i, c, rfl, rfl, hz, he, q⟩ := h
  obtain ⟨t, rfl⟩ := rx
  obtain ⟨t', rfl⟩ := ry
  obtain ⟨j, h1, h2, h3, h4, h5⟩ := atI_get he
  have hl : z.cps.toList.length = z.length := by simp [Str.length]
  rw [hl] at h1 h4 h5
  have hn := line63
  exact tail_any (typeIs_str s z t) slot_str_getitem.lookup (getItem_str (c := c) (by
    have e1 : decide (i < -(2 ^ 63 : Int)) = false := decide_eq_false (by omega)
    have e2 : decide (i ≥ 2 ^ 63) = false := decide_eq_false (by omega)
    rw [e1, e2, Bool.or_false]) (by rw [h1]; simpa using h2) ⟨.str ⟨#[c]⟩, H, I.tok _, ⟨_, rfl⟩, q⟩) hs
/-! ### xs[i] = v, any sign -/
/-! ### slices -/
theorem slice_bounds (lo hi : Option Int) (n : Nat) : (sliceBounds lo hi none n).1 = ((HT.sIx n 0 lo : Nat) : Int) ∧ (sliceBounds lo hi none n).2.1 = ((HT.sIx n n hi : Nat) : Int) ∧ (sliceBounds lo hi none n).2.2 = 1 := by
  refine ⟨?_, ?_, rfl⟩
  · cases lo with
    | none => simp [sliceBounds, HT.sIx]
    | some i =>
      simp only [sliceBounds, HT.sIx, Option.getD_none, show (1 : Int) > 0 by decide, if_true]
      by_cases h : i < 0
      · simp only [h, if_true] <;> omega
      · simp only [h, if_false] <;> omega
  · cases hi with
    | none => simp [sliceBounds, HT.sIx]
    | some i =>
      simp only [sliceBounds, HT.sIx, Option.getD_none, show (1 : Int) > 0 by decide, if_true]
      by_cases h : i < 0
      · simp only [h, if_true] <;> omega
      · simp only [h, if_false] <;> omega
theorem slicePick_cut (its : List Value) (lo hi : Option Int) : slicePick its.toArray lo hi none = ((its.drop (HT.sIx its.length 0 lo)).take (HT.sIx its.length its.length hi - HT.sIx its.length 0 lo)).toArray := by
  obtain ⟨h1, h2, h3⟩ := slice_bounds lo hi its.toArray.size
  unfold slicePick
  rw [h1, h2, h3]
  simp only [sliceRange_one, pick_run, List.size_toArray] <;> rfl
/-- xs[lo:hi] of a list: a new list -/
def rSlL (K : PySem.W.Frag) : V → Option Int → Option Int → Hp → VK → Prop := fun x lo hi H Q => ∃ a xs, x = .ref a ∧ SqL K H a xs ∧ ∀ p, H p = none → Q (.ref p) (upd H p (.lst (cutV xs lo hi)))
theorem sl_list : SlR X (rSlL X.K) := by
  intro pins s σ H x v vl vu lo hi sl Q I rx hs pl pu h
  obtain ⟨a, xs, rfl, hx, q⟩ := h
  cases rx
  obtain ⟨its, r, ht, hz⟩ := I.list hx
  have hlen := r.length
  refine ⟨"list", _, slot_list_getitem.lookup, ht.isList.typeIs, ?_⟩
  refine wpAny_getItem_list_slice ht.isList hs pl pu .none (by simp) ?_ (by rw [List.size_toArray] <;> omega)
  rw [slicePick_cut, ← hlen]
  refine ⟨.ref s.heap.objs.size, _, I.laid (t' := s.toks) (o := .lst (cutV xs lo hi)) (fun b ob q => Heap.get?_push_of_some _ q) (Nat.le_refl _) ?_, rfl, q _ (I.hok.fresh (Nat.le_refl _))⟩
  exact ⟨Nat.le_trans (cutV_length xs lo hi) hz, _, 0, (r.drop (HT.sIx xs.length 0 lo)).take (HT.sIx xs.length xs.length hi - HT.sIx xs.length 0 lo), Heap.get?_push_size _ rfl⟩

/-! ### in, not in: flat items -/
def flatV : V → Bool
  | .non => true
  | .bl _ => true
  | .int _ => true
  | .str _ => true
  | _ => false
/-- == of flat values -/
def eqV : V → V → Bool
  | .non, .non => true
  | .bl a, .bl b => a == b
  | .bl a, .int b => (if a then 1 else 0) == b
  | .int a, .bl b => a == (if b then 1 else 0)
  | .int a, .int b => a == b
  | .str a, .str b => a == b
  | _, _ => false
theorem eqAt_V {A : Around} {s : Shared} {y x : V} {u v : Value} (ry : RelV y u) (rx : RelV x v) (fy : flatV y = true) (fx : flatV x = true) : SeqAt.EqAt A s u v (eqV y x) := by
  cases y with
  | non =>
    cases ry
    cases x with
    | non => cases rx; exact SeqAt.EqAt.same _
    | bl b => cases rx; exact SeqAt.EqAt.none_bool b
    | int b => obtain ⟨t, rfl⟩ := rx; exact SeqAt.EqAt.none_int b t
    | str b => obtain ⟨t, rfl⟩ := rx; exact SeqAt.EqAt.none_str b t
    | _ => exact absurd (show false = true from fx) Bool.false_ne_true
  | bl a =>
    cases ry
    cases x with
    | non => cases rx; exact SeqAt.EqAt.bool_none a
    | bl b => cases rx; exact SeqAt.EqAt.bool_bool a b
    | int b => obtain ⟨t, rfl⟩ := rx; exact SeqAt.EqAt.bool_int a b t
    | str b => obtain ⟨t, rfl⟩ := rx; exact SeqAt.EqAt.bool_str a b t
    | _ => exact absurd (show false = true from fx) Bool.false_ne_true
  | int a =>
    obtain ⟨t', rfl⟩ := ry
    cases x with
    | non => cases rx; exact SeqAt.EqAt.int_none a t'
    | bl b => cases rx; exact SeqAt.EqAt.int_bool a t' b
    | int b => obtain ⟨t, rfl⟩ := rx; exact SeqAt.EqAt.int_int a t' b t
    | str b => obtain ⟨t, rfl⟩ := rx; exact SeqAt.EqAt.int_str a t' b t
    | _ => exact absurd (show false = true from fx) Bool.false_ne_true
  | str a =>
    obtain ⟨t', rfl⟩ := ry
    cases x with
    | non => cases rx; exact SeqAt.EqAt.str_none a t'
    | bl b => cases rx; exact SeqAt.EqAt.str_bool a t' b
    | int b => obtain ⟨t, rfl⟩ := rx; exact SeqAt.EqAt.str_int a t' b t
    | str b => obtain ⟨t, rfl⟩ := rx; exact SeqAt.EqAt.str_str a t' b t
    | _ => exact absurd (show false = true from fx) Bool.false_ne_true
  | _ => exact absurd (show false = true from fy) Bool.false_ne_true
/-- the items' answers, read off the values (a value's own answer does not lean on its token) -/
def eqU (x : V) (u : Value) : Bool := match u with
  | .none => eqV .non x
  | .bool b => eqV (.bl b) x
  | .int i _ => eqV (.int i) x
  | .str z _ => eqV (.str z) x
  | _ => false
theorem eqU_of {x y : V} {u : Value} (r : RelV y u) (f : flatV y = true) : eqU x u = eqV y x := by
  cases y with
  | non => cases r; rfl
  | bl b => cases r; rfl
  | int i => obtain ⟨t, rfl⟩ := r; rfl
  | str z => obtain ⟨t, rfl⟩ := r; rfl
  | _ => exact absurd (show false = true from f) Bool.false_ne_true
theorem any_eqU {x : V} : ∀ {xs : List V} {us : List Value}, Vals xs us → xs.all flatV = true → us.any (eqU x) = xs.any fun y => eqV y x
  | _, _, .nil, _ => rfl
  | y :: xs, u :: us, .cons r t, f => by
    rw [List.all_cons, Bool.and_eq_true] at f
    rw [List.any_cons, List.any_cons, eqU_of r f.1, any_eqU t f.2]
theorem mem_eqAt {A : Around} {s : Shared} {x : V} {v : Value} (rx : RelV x v) (fx : flatV x = true) : ∀ {xs : List V} {us : List Value}, Vals xs us → xs.all flatV = true → ∀ u ∈ us, SeqAt.EqAt A s u v (eqU x u)
  | _, _, .nil, _ => fun u hu => by cases hu
  | y :: xs, u :: us, .cons r t, f => fun u' hu => by
    rw [List.all_cons, Bool.and_eq_true] at f
    rcases List.mem_cons.mp hu with rfl | hu
    · rw [eqU_of r f.1]; exact eqAt_V r rx f.1 fx
    · exact mem_eqAt rx fx t f.2 u' hu
def inV (x : V) (xs : List V) : Bool := xs.any fun y => eqV y x
/-- x in a list or tuple of flat items -/
def rIn (K : PySem.W.Frag) (neg : Bool) : R2 := fun x y H Q => ∃ p xs, y = .ref p ∧ (SqL K H p xs ∨ SqT K H p xs) ∧ flatV x = true ∧ xs.all flatV = true ∧ Q (.bl (if neg then !inV x xs else inV x xs)) H
theorem op_in_seq : OpR X (compareOp .In) (rIn X.K false) := by
  intro pins s σ H x y v u Q I rx ry h
  obtain ⟨p, xs, rfl, hq, fx, fs, q⟩ := h
  cases ry
  rcases hq with hq | hq
  · obtain ⟨its, r, pl, hz⟩ := I.list hq
    refine SeqAt.in_listAt (eqU x) pl.isList (fun w hw => mem_eqAt rx fx r fs w (by simpa using hw)) ⟨.bl _, H, I, rfl, ?_⟩
    rw [show its.toArray.any (eqU x) = its.any (eqU x) by simp, any_eqU r fs]
    exact q
  · obtain ⟨its, r, pl, hz⟩ := I.tuple hq
    refine SeqAt.in_tupleAt (eqU x) pl (fun w hw => mem_eqAt rx fx r fs w (by simpa using hw)) ⟨.bl _, H, I, rfl, ?_⟩
    rw [show its.toArray.any (eqU x) = its.any (eqU x) by simp, any_eqU r fs]
    exact q
theorem op_notIn_seq : OpR X (compareOp .NotIn) (rIn X.K true) := by
  intro pins s σ H x y v u Q I rx ry h
  obtain ⟨p, xs, rfl, hq, fx, fs, q⟩ := h
  cases ry
  rcases hq with hq | hq
  · obtain ⟨its, r, pl, hz⟩ := I.list hq
    refine SeqAt.notIn_listAt (eqU x) pl.isList (fun w hw => mem_eqAt rx fx r fs w (by simpa using hw)) ⟨.bl _, H, I, rfl, ?_⟩
    rw [show its.toArray.any (eqU x) = its.any (eqU x) by simp, any_eqU r fs]
    exact q
  · obtain ⟨its, r, pl, hz⟩ := I.tuple hq
    refine SeqAt.notIn_tupleAt (eqU x) pl (fun w hw => mem_eqAt rx fx r fs w (by simpa using hw)) ⟨.bl _, H, I, rfl, ?_⟩
    rw [show its.toArray.any (eqU x) = its.any (eqU x) by simp, any_eqU r fs]
    exact q
/-! ### len, list(x), tuple(x) of any list or tuple that is read -/
theorem call_len_seq : CallR X (.builtin "len") (fun xs H Q => ∃ p ys, xs = [.ref p] ∧ (SqL X.K H p ys ∨ SqT X.K H p ys) ∧ Q (.int ys.length) H) := by
  intro pins s σ H xs us Q I r h
  obtain ⟨p, ys, rfl, hq, q⟩ := h
  obtain ⟨u, rfl, rx⟩ := vals1 r
  cases rx
  have hn := line63
  rcases hq with hq | hq
  · obtain ⟨its, r', pl, hz⟩ := I.list hq
    have hlen := r'.length
    exact Calls.call_len_list pl.isList (by simp only [List.size_toArray] <;> omega) ⟨.int ys.length, H, I.tok _, ⟨s.toks + 1, by rw [List.size_toArray, hlen]⟩, q⟩
  · obtain ⟨its, r', pl, hz⟩ := I.tuple hq
    have hlen := r'.length
    exact len_tuple pl (by simp only [List.size_toArray] <;> omega) ⟨.int ys.length, H, I.tok _, ⟨s.toks + 1, by rw [List.size_toArray, hlen]⟩, q⟩
theorem call_len_str : CallR X (.builtin "len") (fun xs H Q => ∃ z, xs = [.str z] ∧ z.length ≤ sizeLine ∧ Q (.int z.length) H) := by
  intro pins s σ H xs us Q I r h
  obtain ⟨z, rfl, hz, q⟩ := h
  obtain ⟨u, rfl, t, rfl⟩ := vals1 r
  have hn := line63
  exact len_str (by omega) ⟨.int z.length, H, I.tok _, ⟨_, rfl⟩, q⟩
theorem call_list_of : CallR X (.type "list") (fun xs H Q => ∃ p ys, xs = [.ref p] ∧ (SqL X.K H p ys ∨ SqT X.K H p ys) ∧ ∀ l, H l = none → Q (.ref l) (upd H l (.lst ys))) := by
  intro pins s σ H xs us Q I r h
  obtain ⟨p, ys, rfl, hq, q⟩ := h
  obtain ⟨u, rfl, rx⟩ := vals1 r
  cases rx
  have fin : ∀ (its : List Value), Vals ys its → ys.length ≤ sizeLine → ∀ (h' : Heap) (c' : Nat), (∀ b o', s.heap.get? b = some o' → h'.get? b = some o') →
      h'.get? s.heap.objs.size = some { cls := .type "list", dict := none, data := .seq its.toArray c', slots := #[] } → EP X pins σ Q (.ref s.heap.objs.size) { s with heap := h' } := fun its r' hz h' c' kp e =>
    ⟨.ref s.heap.objs.size, _, I.laid (t' := s.toks) kp (Nat.le_refl _) (show ObjOk X.prog X.w _ h' _ (.lst ys) from ⟨hz, its, c', r', e⟩), rfl, q _ (I.hok.fresh (Nat.le_refl _))⟩
  rcases hq with hq | hq
  · obtain ⟨its, r', pl, hz⟩ := I.list hq
    have hlen := r'.length
    obtain ⟨o, ho, hc, n, hd⟩ := pl.isList
    exact call_list_seq p (.inl rfl) ho hc hd (fun h' c' kp e => fin its r' hz h' c' kp e) (by simp only [List.size_toArray] <;> omega)
  · obtain ⟨its, r', pl, hz⟩ := I.tuple hq
    have hlen := r'.length
    obtain ⟨o, ho, hc, n, hd⟩ := pl
    exact call_list_seq p (.inr rfl) ho hc hd (fun h' c' kp e => fin its r' hz h' c' kp e) (by simp only [List.size_toArray] <;> omega)
/-! ### the call of a builtin's method: o.m(..) -/
/-- the value is of that builtin type -/
def tyV (K : PySem.W.Frag) (T : String) (x : V) (H : Hp) : Prop := match x with
  | .str _ => T = "str"
  | .int _ => T = "int"
  | .ref p => (T = "list" ∧ ∃ xs, SqL K H p xs) ∨ (T = "tuple" ∧ ∃ o, K.lookup p = some o ∧ o.cls = .type "tuple" ∧ o.dict = none) ∨
      (T = "dict" ∧ ((∃ kvs, H p = some (.dK kvs)) ∨ ∃ kvs, H p = some (.dT kvs))) ∨ (T = "set" ∧ ∃ S n, H p = some (.set S n))
  | _ => False
theorem tyV_is {pins : List (Addr × Obj)} {σ : St} {H : Hp} {s : Shared} {T : String} {x : V} {v : Value} (I : Inv X pins σ H s) (r : RelV x v) (ty : tyV X.K T x H) :
    s.TypeIs v T ∧ ∀ a, v = .ref a → ∃ ob, s.heap.get? a = some ob ∧ ob.dict = none := by
  cases x with
  | str z =>
    obtain ⟨t, rfl⟩ := r
    cases (show T = "str" from ty)
    exact ⟨typeIs_str s z t, fun _ e => nomatch e⟩
  | int i =>
    obtain ⟨t, rfl⟩ := r
    cases (show T = "int" from ty)
    exact ⟨typeIs_int s i t, fun _ e => nomatch e⟩
  | ref p =>
    cases r
    rcases ty with ⟨rfl, xs, hq⟩ | ⟨rfl, o, hk, hc, hd⟩ | ⟨rfl, hk⟩ | ⟨rfl, S, n, hk⟩
    · obtain ⟨its, _, pl, _⟩ := I.list hq
      refine ⟨pl.isList.typeIs, fun a e => ?_⟩
      cases e
      obtain ⟨o, n, e, c, hd, _⟩ := pl
      exact ⟨o, e, hd⟩
    · refine ⟨⟨o, I.kIn p o hk, hc⟩, fun a e => ?_⟩
      cases e
      exact ⟨o, I.kIn _ o hk, hd⟩
    · have z : ∃ o, s.heap.get? p = some o ∧ o.ExactDict := by
        rcases hk with ⟨kvs, hk⟩ | ⟨kvs, hk⟩
        · obtain ⟨_, _, _, _, o, _, _, e, ex, _⟩ := I.hok p _ hk
          exact ⟨o, e, ex⟩
        · obtain ⟨_, _, _, _, o, _, _, e, ex, _⟩ := I.hok p _ hk
          exact ⟨o, e, ex⟩
      obtain ⟨o, e, ex⟩ := z
      refine ⟨⟨o, e, ex.1⟩, fun a e2 => ?_⟩
      cases e2
      exact ⟨o, e, ex.2.1⟩
    · obtain ⟨o, _, _, _, e, ex, _⟩ := I.hok p _ hk
      refine ⟨⟨o, e, ex.1⟩, fun a e2 => ?_⟩
      cases e2
      exact ⟨o, e, ex.2.1⟩
  | _ => exact False.elim ty
def tBM0 (K : PySem.W.Frag) (T : String) (r : V → List V → Hp → VK → Prop) (to : TE) : TE := fun σ H Q => to σ H fun x H1 => tyV K T x H1 ∧ r x [] H1 Q
def tBM (K : PySem.W.Frag) (T : String) (r : V → List V → Hp → VK → Prop) (to : TE) (t : TA) : TE := fun σ H Q => to σ H fun x H1 => tyV K T x H1 ∧ t σ H1 fun xs H2 => r x xs H2 Q
variable {o e : Expr} {es : List Expr} {to : TE} {t : TA} {name : Str} {apos cpos : Pos} {T id : String} {r : V → List V → Hp → VK → Prop}
theorem pe_bm0 (pa : PlainAttrs T) (slot : Slot T name id) (hty : typeOf (.builtin id) = pure (.type "method_descriptor")) (hm : MtR X id r) (ho : PE X o to)
    (hbase : attributeBase o name X.env (eval o X.env) = eval o X.env := by rfl) (hline : (apos.endLine == cpos.line) = true := by rfl) : PE X (.Call (.Attribute o name apos) [] [] cpos) (tBM0 X.K T r to) := by
  refine ⟨?_⟩
  intro pins s σ H Q I h
  refine wpAny_Call_method0_late hbase hline (thn (ho pins s σ H _ I h) fun v s1 ⟨x, H1, I1, r1, ty, q1⟩ => ?_)
  obtain ⟨h1, h2⟩ := tyV_is I1 r1 ty
  exact ⟨T, id, pa, slot, hty, h1, h2, Calls.callWith_builtin rfl (PySem.evalArgs_none (hm pins s1 σ H1 x [] v [] Q I1 r1 .nil q1))⟩
theorem pe_bm (pa : PlainAttrs T) (slot : Slot T name id) (hty : typeOf (.builtin id) = pure (.type "method_descriptor")) (hm : MtR X id r) (ho : PE X o to) (ha : PA X (e :: es) t)
    (hbase : attributeBase o name X.env (eval o X.env) = eval o X.env := by rfl)
    (hfew : ((backTo cpos (starEach (e :: es) X.env)).all (fun x => !x.1) && (backToKw cpos (keywordEach [] X.env)).all (fun x => x.1.isSome)
      && decide ((e :: es).length + ([] : List Keyword).length + (if ([] : List Keyword).isEmpty then 0 else 1) < 30)) = true := by rfl)
    (hline : (apos.endLine == cpos.line) = true := by rfl) (hs : starEach (e :: es) X.env = (false, eval e X.env) :: starEach es X.env := by rfl) (hplain : (backTo cpos (starEach es X.env)).any (·.1) = false := by rfl) :
    PE X (.Call (.Attribute o name apos) (e :: es) [] cpos) (tBM X.K T r to t) := by
  refine ⟨?_⟩
  intro pins s σ H Q I h
  refine wpAny_Call_method_late hbase hfew hline rfl (thn (ho pins s σ H _ I h) fun v s1 ⟨x, H1, I1, r1, ty, q1⟩ => ?_)
  obtain ⟨h1, h2⟩ := tyV_is I1 r1 ty
  refine ⟨T, id, pa, slot, hty, h1, h2, ?_⟩
  have hA := ha cpos pins s1 σ H1 _ I1 q1
  rw [hs] at hA ⊢
  refine Calls.callWith_builtin (by show (false || (backTo cpos (starEach es X.env)).any (·.1)) = false; rw [hplain] <;> rfl) (Calls.evalArgs_plain ?_)
  exact thn hA fun us s2 ⟨vs, H2, I2, r2, q2⟩ => hm pins s2 σ H2 x vs v us Q I2 r1 r2 q2
/- xs.append(e), list.index on a module's tuple .. are MtR facts of 06m -/
end
end L2

namespace L2
open PySem PySem.Spec PyProof.Rows

def MtM (X : Cx) (id : String) (r : V → List V → Hp → VK → Prop) : Prop :=
  ∀ (pins : List (Addr × Obj)) (s : Shared) (σ : St) (H : Hp) (x : V) (xs : List V) (v : Value) (us : List Value) (Q : VK), Inv X pins σ H s → RelV x v → Vals xs us → r x xs H Q →
    wpAny (model X.prog X.w) X.A (call (.builtin id) (v :: us)) (EP X pins σ Q) X.xe s

/-! ### lists of values -/
theorem Vals.one : ∀ {x : V} {us : List Value}, Vals [x] us → ∃ u, us = [u] ∧ RelV x u
  | _, _, .cons r .nil => ⟨_, rfl, r⟩
theorem Vals.zero : ∀ {us : List Value}, Vals [] us → us = []
  | _, .nil => rfl
section
variable {X : Cx} {pins : List (Addr × Obj)} {σ : St} {H : Hp} {s : Shared} {l b : Addr} {xs ys zs : List V}

/-! ### the two steps: a tracked list is rewritten, a new list is laid -/
theorem Inv.lset {its its' : List Value} {n : Nat} {f : Array Value → Array Value} {t' : Nat} (I : Inv X pins σ H s) (hH : H l = some (.lst xs))
    (e : s.heap.get? l = some { cls := .type "list", data := .seq its.toArray n }) (hf : f its.toArray = its'.toArray) (hv : Vals ys its') (hz : ys.length ≤ sizeLine) :
    Inv X pins σ (upd H l (.lst ys)) { s with heap := s.heap.update l (Obj.mapSeq f), toks := t' } := by
  have q := PySem.IsL.update e f
  rw [hf] at q
  refine I.write (x := l) (e := l) (by rw [hH]; exact trivial) (.inl rfl) (fun b' u hb hu => (Heap.get?_update_other s.heap (Obj.mapSeq f) (Ne.symm hb)).trans hu) ⟨_, q⟩ ?_
  exact ⟨hz, its', _, hv, q⟩
theorem Inv.lnew {its : List Value} {t' : Nat} (I : Inv X pins σ H s) (hv : Vals ys its) (hz : ys.length ≤ sizeLine) :
    Inv X pins σ (upd H s.heap.objs.size (.lst ys)) { s with heap := s.heap.push { cls := .type "list", data := .seq its.toArray }, toks := t' } :=
  I.laid (fun _ _ q => Heap.get?_push_of_some _ q) (Nat.le_refl _) ⟨hz, its, 0, hv, Heap.get?_push_size _ rfl⟩
theorem Inv.fresh (I : Inv X pins σ H s) : H s.heap.objs.size = none := I.hok.fresh (Nat.le_refl _)
theorem Inv.lstM (I : Inv X pins σ H s) (hH : H l = some (.lst xs)) : xs.length ≤ sizeLine ∧ ∃ (its : List Value) (n : Nat), Vals xs its ∧ xs.length = its.length ∧ s.heap.get? l = some { cls := .type "list", data := .seq its.toArray n } := by
  obtain ⟨z, its, n, r, e⟩ := I.hok l _ hH
  exact ⟨z, its, n, r, r.length, e⟩

theorem notLongL {n : Nat} (h : n ≤ sizeLine) : Builtin.List.listTooLong n = false := by
  unfold Builtin.List.listTooLong
  exact decide_eq_false (by omega)
end

section
variable {X : Cx}

/-! ### methods -/
def rAppend : V → List V → Hp → VK → Prop := fun x vs H Q => ∃ l xs y, x = .ref l ∧ vs = [y] ∧ H l = some (.lst xs) ∧ xs.length < sizeLine ∧ Q .non (upd H l (.lst (xs ++ [y])))
theorem mt_append : MtM X "list.append" rAppend := by
  intro pins s σ H x vs v us Q I rx rv h
  obtain ⟨l, xs, y, rfl, rfl, hH, hz, q⟩ := h
  cases rx
  obtain ⟨u, rfl, ru⟩ := rv.one
  obtain ⟨z, its, n, r, hl, e⟩ := I.lstM hH
  refine call_meets F.slot_list_append ⟨_, e, rfl⟩ F.entry_list_append (F.args_list_append_2 _ _) (PySem.list_append l its.toArray n u (by rw [List.size_toArray]; omega)) ⟨e, ?_⟩
  refine ⟨.non, _, I.lset (its' := its ++ [u]) hH e (by simp) (r.append (.cons ru .nil)) ?_, rfl, q⟩
  rw [List.length_append, List.length_singleton]
  omega

def rExtend : V → List V → Hp → VK → Prop := fun x vs H Q => ∃ l b xs zs, x = .ref l ∧ vs = [.ref b] ∧ H l = some (.lst xs) ∧ H b = some (.lst zs) ∧ xs.length + zs.length ≤ sizeLine ∧ Q .non (upd H l (.lst (xs ++ zs)))
theorem mt_extend : MtM X "list.extend" rExtend := by
  intro pins s σ H x vs v us Q I rx rv h
  obtain ⟨l, b, xs, zs, rfl, rfl, hH, hB, hz, q⟩ := h
  cases rx
  obtain ⟨u, rfl, ru⟩ := rv.one
  cases ru
  obtain ⟨z, its, n, r, hl, e⟩ := I.lstM hH
  obtain ⟨z2, its2, n2, r2, hl2, e2⟩ := I.lstM hB
  have hsz : its.toArray.size + its2.toArray.size ≤ sizeLine := by rw [List.size_toArray, List.size_toArray]; omega
  have hlong : ¬ (!its.toArray.isEmpty && Builtin.List.listTooLong (its.toArray.size + its2.toArray.size)) = true := by
    rw [notLongL hsz, Bool.and_false]
    exact Bool.false_ne_true
  refine call_meets F.slot_list_extend ⟨_, e, rfl⟩ F.entry_list_extend (F.args_list_extend_2 _ _)
    (AutoSeq1.list_extend_list_list_0 l its.toArray n b its2.toArray n2 hlong (by rw [List.size_toArray]; omega) (by omega)) ⟨e, e2, ?_⟩
  refine ⟨.non, _, I.lset (its' := its ++ its2) hH e (by simp) (r.append r2) ?_, rfl, q⟩
  rw [List.length_append]
  omega

def rClear : V → List V → Hp → VK → Prop := fun x vs H Q => ∃ l xs, x = .ref l ∧ vs = [] ∧ H l = some (.lst xs) ∧ Q .non (upd H l (.lst []))
theorem mt_clear : MtM X "list.clear" rClear := by
  intro pins s σ H x vs v us Q I rx rv h
  obtain ⟨l, xs, rfl, rfl, hH, q⟩ := h
  cases rx
  have hus := rv.zero
  subst hus
  obtain ⟨z, its, n, r, hl, e⟩ := I.lstM hH
  refine call_meets F.slot_list_clear ⟨_, e, rfl⟩ F.entry_list_clear (F.args_list_clear_1 _) (AutoSeq1.list_clear_list_0 l its.toArray n (by rw [List.size_toArray]; omega)) ⟨e, ?_⟩
  exact ⟨.non, _, I.lset (its' := []) (ys := []) hH e rfl .nil (Nat.zero_le _), rfl, q⟩

/-! ### list + list, list += list, list * int -/
def rCat : R2 := fun x y H Q => ∃ l b xs zs, x = .ref l ∧ y = .ref b ∧ H l = some (.lst xs) ∧ H b = some (.lst zs) ∧ xs.length + zs.length ≤ sizeLine ∧ ∀ p, H p = none → Q (.ref p) (upd H p (.lst (xs ++ zs)))
theorem op_cat : OpR X (binaryOp .Add) rCat := by
  intro pins s σ H x y v u Q I rx ry h
  obtain ⟨l, b, xs, zs, rfl, rfl, hH, hB, hz, q⟩ := h
  cases rx
  cases ry
  obtain ⟨z, its, n, r, hl, e⟩ := I.lstM hH
  obtain ⟨z2, its2, n2, r2, hl2, e2⟩ := I.lstM hB
  refine PySem.P.add_list e e2 ?_ (by rw [List.size_toArray, List.size_toArray]; omega)
  have ea : its.toArray ++ its2.toArray = (its ++ its2).toArray := by simp
  rw [ea]
  exact ⟨.ref _, _, I.lnew (t' := s.toks) (r.append r2) (by rw [List.length_append]; omega), rfl, q _ I.fresh⟩
/-! ### del xs[i] -/
end

/-! ### xs[a:b] = ys -/
section
variable {prog : Program} {w : World} {A : Around} {E : Value → Shared → Prop} {s : Shared}
end

section
variable {X : Cx}
end
end L2

namespace L2
open PySem PySem.Spec PyProof.Rows

/-! ### lists of pairs as tables -/
section
variable {κ : Type} [DecidableEq κ]
def valV (kvs : List (κ × V)) (k : κ) : Option V := (kvs.find? fun kv => decide (kv.1 = k)).map (·.2)
/-- in its place, or at the end -/
def putK (kvs : List (κ × V)) (k : κ) (v : V) : List (κ × V) :=
  if (kvs.any fun kv => decide (kv.1 = k)) = true then kvs.map (fun kv => if kv.1 = k then (kv.1, v) else kv) else kvs ++ [(k, v)]
theorem valV_pos {p : κ × V} {r : List (κ × V)} {k : κ} (e : p.1 = k) : valV (p :: r) k = some p.2 := by simp [valV, List.find?_cons, e]
theorem valV_neg {p : κ × V} {r : List (κ × V)} {k : κ} (e : ¬ p.1 = k) : valV (p :: r) k = valV r k := by simp [valV, List.find?_cons, e]
theorem length_putK (kvs : List (κ × V)) (k : κ) (v : V) : (putK kvs k v).length ≤ kvs.length + 1 := by
  unfold putK
  split
  · rw [List.length_map]; omega
  · rw [List.length_append, List.length_cons, List.length_nil]; omega
/-- raw tables of the same keys -/
theorem KV.val {kvs : List (κ × V)} {vs : List (κ × Value)} (r : KV kvs vs) (k : κ) : RelO (valV kvs k) (valueAt vs k) := by
  unfold KV at r
  induction r with
  | nil => exact True.intro
  | @cons p q ps qs h t ih =>
    obtain ⟨h1, h2⟩ := h
    by_cases e : p.1 = k
    · have e' : q.1 = k := h1.symm.trans e
      have b : valueAt (q :: qs) k = some q.2 := by simp [valueAt, List.find?_cons, e']
      rw [valV_pos e, b]; exact h2
    · have e' : ¬ q.1 = k := fun z => e (h1.trans z)
      have b : valueAt (q :: qs) k = valueAt qs k := by simp [valueAt, List.find?_cons, e']
      rw [valV_neg e, b]; exact ih
theorem KV.any {kvs : List (κ × V)} {vs : List (κ × Value)} (r : KV kvs vs) (k : κ) : (kvs.any fun kv => decide (kv.1 = k)) = vs.any fun kv => decide (kv.1 = k) := by
  unfold KV at r
  induction r with
  | nil => rfl
  | cons h t ih => rw [List.any_cons, List.any_cons, ih, h.1]
theorem KV.repl {kvs : List (κ × V)} {vs : List (κ × Value)} (r : KV kvs vs) (k : κ) {y : V} {u : Value} (ry : RelV y u) :
    KV (kvs.map fun kv => if kv.1 = k then (kv.1, y) else kv) (vs.map fun kv => if kv.1 = k then (kv.1, u) else kv) := by
  unfold KV at r ⊢
  induction r with
  | nil => exact .nil
  | @cons p q ps qs h t ih =>
    rw [List.map_cons, List.map_cons]
    refine .cons ?_ ih
    obtain ⟨h1, h2⟩ := h
    by_cases e : p.1 = k
    · rw [if_pos e, if_pos (h1.symm.trans e)]; exact ⟨h1, ry⟩
    · rw [if_neg e, if_neg (fun z => e (h1.trans z))]; exact ⟨h1, h2⟩
theorem KV.put {kvs : List (κ × V)} {vs : List (κ × Value)} (r : KV kvs vs) (k : κ) {y : V} {u : Value} (ry : RelV y u) : KV (putK kvs k y) (stored vs k u) := by
  unfold putK stored
  rw [r.any k]
  by_cases e : (vs.any fun kv => decide (kv.1 = k)) = true
  · rw [if_pos e, if_pos e]; exact r.repl k ry
  · rw [if_neg e, if_neg e]; exact Paired.snoc r ⟨rfl, ry⟩
theorem KV.length {kvs : List (κ × V)} {vs : List (κ × Value)} (r : KV kvs vs) : kvs.length = vs.length := Paired.length r
end


/-! ### a tracked dict, its keys ints and texts or tuples of these -/
theorem kV_is {P : Program} {w : World} {k : Key} {u : Value} (r : RelV (kV k) u) : (mixKind P w).is k u = true := by
  cases k with
  | inl i => obtain ⟨t, e⟩ := (show ∃ t, u = Value.int i t from r); subst e; exact mixKind_int P w i t
  | inr x => obtain ⟨t, e⟩ := (show ∃ t, u = Value.str x t from r); subst e; exact mixKind_str P w x t
theorem items_are {P : Program} {w : World} : ∀ {ks : List Key} {us : List Value}, Vals (ks.map kV) us → ItemsAre (mixKind P w) ks us
  | [], _, r => by rw [List.map_nil] at r; cases r; exact .nil
  | k :: ks, _, r => by
    rw [List.map_cons] at r
    cases r with
    | cons h t => exact .cons (kV_is h) (items_are t)

/-- raw entries of a dict with tuple keys -/
abbrev KT (H : Hp) : List (List Key × V) → List (List Key × Addr × Value) → Prop := Paired fun p q => p.1 = q.1 ∧ H q.2.1 = some (.tup (p.1.map kV)) ∧ RelV p.2 q.2.2
theorem KT.val {H : Hp} {kvs : List (List Key × V)} {xs : List (List Key × Addr × Value)} (r : KT H kvs xs) (k : List Key) : RelO (valV kvs k) ((atKey xs k).map (·.2)) := by
  induction r with
  | nil => exact True.intro
  | @cons p q ps qs h t ih =>
    obtain ⟨h1, _, h2⟩ := h
    by_cases e : p.1 = k
    · have e' : q.1 = k := h1.symm.trans e
      have b : atKey (q :: qs) k = some q.2 := by simp [atKey, List.find?_cons, e']
      rw [valV_pos e, b]; exact h2
    · have e' : ¬ q.1 = k := fun z => e (h1.trans z)
      have b : atKey (q :: qs) k = atKey qs k := by simp [atKey, List.find?_cons, e']
      rw [valV_neg e, b]; exact ih
section
variable {P : Program} {w : World} {H : Hp} {h : Heap} {a : Addr}
theorem rd_of {u : HO} (ok : HOk P w H h) (e : Rd H a u) : ObjOk P w H h a u := e.ok ok
theorem dk_rd {kvs : List (Key × V)} (ok : HOk P w H h) (e : Rd H a (.dK kvs)) : kvs.length ≤ sizeLine ∧ (a == sysModules) = false ∧ ∃ vs, KV kvs vs ∧ h.DictOf (mixKind P w) a vs :=
  show ObjOk P w H h a (.dK kvs) from rd_of ok e
theorem dk_of {kvs : List (Key × V)} (ok : HOk P w H h) (e : H a = some (.dK kvs)) : kvs.length ≤ sizeLine ∧ (a == sysModules) = false ∧ ∃ vs, KV kvs vs ∧ h.DictOf (mixKind P w) a vs := dk_rd ok (.inl e)
/-- a tracked tuple of ints and texts is a key -/
theorem key_of {ks : List Key} (ok : HOk P w H h) (e : H a = some (.tup (ks.map kV))) : (tupleKind (mixKind P w)).is h ks a := by
  obtain ⟨_, its, r, o, h1, h2, n, h3⟩ := (show ObjOk P w H h a (.tup (ks.map kV)) from ok a _ e)
  exact ⟨o, its.toArray, n, h1, h2, h3, by simpa using items_are r⟩
theorem dt_rd {kvs : List (List Key × V)} (ok : HOk P w H h) (e : Rd H a (.dT kvs)) : kvs.length ≤ sizeLine ∧ (a == sysModules) = false ∧
    ∃ xs, KT H kvs xs ∧ h.DictOfH (tupleKind (mixKind P w)) a xs := by
  obtain ⟨z, y, xs, r, o, es, ep, h1, h2, h3, h4, h5⟩ := (show ObjOk P w H h a (.dT kvs) from rd_of ok e)
  refine ⟨z, y, xs, r, o, es, ep, h1, h2, h3, h4, fun x hx => ?_, h5⟩
  have all : ∀ {l : List (List Key × V)} {m : List (List Key × Addr × Value)}, KT H l m → ∀ x ∈ m, (tupleKind (mixKind P w)).is h x.1 x.2.1 := by
    intro l m q
    induction q with
    | nil => intro x hx; exact nomatch hx
    | @cons p q ps qs hq t ih =>
      intro x hx
      rcases List.mem_cons.mp hx with e | hx
      · subst e
        exact key_of ok (by rw [← hq.1]; exact hq.2.1)
      · exact ih x hx
  exact all r x hx
end

/-- what the dict at a holds at the key y -/
def DGet (H : Hp) (a : Addr) (y : V) (r : Option V) : Prop :=
  (∃ kvs k, Rd H a (.dK kvs) ∧ y = kV k ∧ r = valV kvs k) ∨ ∃ kvs k b, Rd H a (.dT kvs) ∧ y = .ref b ∧ H b = some (.tup (k.map kV)) ∧ r = valV kvs k
section
variable {X : Cx} {pins : List (Addr × Obj)} {σ : St} {H : Hp} {s : Shared} {a : Addr} {y v : V} {u r : Value} {o : Option V} {A : Around} {E : Value → Shared → Prop}

theorem Inv.big (I : Inv X pins σ H s) : sysModules < s.heap.objs.size := by
  have h : mainGlobals < s.heap.objs.size := (I.mod.glob.keeps I.bk).lt
  exact Nat.lt_trans (by decide) h

/-- d[y], there -/
theorem d_getItem {Q : Value → Shared → Prop} (hu : A.units + 1 < cLine) (I : Inv X pins σ H s) (g : DGet H a y (some v)) (ry : RelV y u) (h : ∀ w' s', Inv X pins σ H s' → RelV v w' → Q w' s') :
    wpAny (model X.prog X.w) A (getItem (.ref a) u) Q E s := by
  rcases g with ⟨kvs, k, e, ey, l⟩ | ⟨kvs, k, b, e, ey, eb, l⟩
  · subst ey
    obtain ⟨z, hd, vs, rel, dd⟩ := dk_rd I.hok e
    obtain ⟨w', hw, rw'⟩ := RelO.some_of (v := v) (o := valueAt vs k) (by rw [l]; exact rel.val k)
    exact wpAny_getItem_of (kV_is ry) dd.mapOf hw (h w' _ (I.tok _) rw')
  · subst ey
    cases (show u = Value.ref b from ry)
    obtain ⟨z, hd, xs, rel, dd⟩ := dt_rd I.hok e
    obtain ⟨w', hw, rw'⟩ := RelO.some_of (v := v) (o := (atKey xs k).map (·.2)) (by rw [l]; exact rel.val k)
    obtain ⟨p, hp, hp2⟩ := Option.map_eq_some_iff.mp hw
    refine wpAny_getItem_heap (tupleKind_room_in1 hu) (key_of I.hok eb) dd hp ?_
    rw [hp2]
    exact h w' _ (I.tok _) rw'
/-- a dict's object is replaced -/
theorem d_write {h' : Heap} {t' : Nat} {ob : HO} (I : Inv X pins σ H s) (mu : Mut (H a)) (hs : Heap.SameBut a s.heap h') (he : ∃ q, h'.get? a = some q) (new : ObjOk X.prog X.w (upd H a ob) h' a ob) :
    Inv X pins σ (upd H a ob) { s with heap := h', toks := t' } :=
  I.write (x := a) (e := a) mu (.inl rfl) (fun b q hb z => (hs.2 b hb).trans z) he new
theorem dk_new {P : Program} {w : World} {H' : Hp} {h' : Heap} {kvs : List (Key × V)} {vs : List (Key × Value)} (z : kvs.length ≤ sizeLine) (hd : (a == sysModules) = false) (rel : KV kvs vs) (dd : h'.DictOf (mixKind P w) a vs) :
    ObjOk P w H' h' a (.dK kvs) := ⟨z, hd, vs, rel, dd⟩
end

section
variable {X : Cx} {pins : List (Addr × Obj)} {σ : St} {H : Hp} {s : Shared} {a : Addr} {kvs : List (Key × V)} {k : Key} {u : Value} {A : Around} {E : Value → Shared → Prop}
end


/-! ### readings and rules -/
/-- the element of a subscription, not a slice -/
def NoSl (i : Expr) : Prop := ∀ ov iv, subscripted i false ov iv = operate [ov, iv] (getItem ov iv)
theorem subD_of {prog : Program} {w : World} {A : Around} {E : Value → Shared → Prop} {s : Shared} {env : Env} {value slice : Expr} {pos : Pos} {T id : String} {Q : Value → Shared → Prop}
    (hl : typeLookup (.type T) "__getitem__" = pure (some (.builtin id))) (hs : NoSl slice)
    (h : wpAny (model prog w) A (eval value env) (fun o s₁ => wpAny (model prog w) A (eval slice env) (fun i s₂ => s₂.TypeIs o T ∧ wpAny (model prog w) A (getItem o i) Q E s₂) E s₁) E s) :
    wpAny (model prog w) A (eval (.Subscript value slice pos) env) Q E s := by
  refine Subscript_ (wpAny_mono h (fun o s₁ h₁ => wpAny_mono h₁ (fun i s₂ h₂ => ?_) fun _ _ x => x) fun _ _ x => x)
  obtain ⟨hT, h₂⟩ := h₂
  unfold subscriptTail
  refine wpAny_bind ?_
  rw [getitemInPython_of_ne hT.not_modules]
  refine wpAny_bind (wpAny_specialOf hT hl ?_)
  have fin : wpAny (model prog w) A (subscripted slice false o i) (fun r s₃ => wpAny (model prog w) A (letTemporaryGo value o r >>= fun _ => pure r) Q E s₃) E s₂ := by
    rw [hs o i]
    exact wpAny_operating (wpAny_mono h₂ (fun r s₃ h₃ => wpAny_bind (wpAny_letTemporaryGo (wpAny_pure h₃))) fun _ _ x => x)
  first
    | exact wpAny_pure (wpAny_bind fin)
    | exact wpAny_bind (wpAny_pure (wpAny_bind fin))
    | exact wpAny_bind fin

theorem dict_typeIs {X : Cx} {pins : List (Addr × Obj)} {σ : St} {H : Hp} {s : Shared} {a : Addr} {y : V} {o : Option V} (I : Inv X pins σ H s) (g : DGet H a y o) : s.TypeIs (.ref a) "dict" := by
  rcases g with ⟨kvs, k, e, _, _⟩ | ⟨kvs, k, b, e, _, _, _⟩
  · obtain ⟨_, _, vs, _, dd⟩ := dk_rd I.hok e
    exact dd.typeIs
  · obtain ⟨_, _, xs, _, dd⟩ := dt_rd I.hok e
    exact dd.typeIs
/-- d[y] -/
def tDGet (td ty : TE) : TE := fun σ H Q => td σ H fun x H1 => ty σ H1 fun y H2 => ∃ a v, x = .ref a ∧ DGet H2 a y (some v) ∧ Q v H2
section
variable {X : Cx} {o i e value : Expr} {pos pos' tpos : Pos} {td ty tv : TE}
theorem pe_dget (hu : X.A.units + 1 < cLine) (ho : PE X o td) (hi : PE X i ty) (hs : NoSl i) : PE X (.Subscript o i pos) (tDGet td ty) := by
  refine ⟨?_⟩
  intro pins s σ H Q I h
  refine subD_of PySem.F.slot_dict_getitem.lookup hs (thn (ho pins s σ H _ I h) fun u s1 ⟨x, H1, I1, rx, q1⟩ => thn (hi pins s1 σ H1 _ I1 q1) fun iv s2 ⟨y, H2, I2, ry, a, v, ex, g, q2⟩ => ?_)
  subst ex
  obtain rfl : u = Value.ref a := rx
  exact ⟨dict_typeIs I2 g, d_getItem hu I2 g ry fun w' s3 I3 rw' => ⟨v, H2, I3, rw', q2⟩⟩
end


/-! ### displays -/
theorem dk_empty {P : Program} {w : World} {H : Hp} (h : Heap) (hb : sysModules < h.objs.size) : ObjOk P w H (h.push { cls := .type "dict", data := .dict #[] }) h.objs.size (.dK []) :=
  ⟨Nat.zero_le _, beq_eq_false_iff_ne.mpr (Ne.symm (Nat.ne_of_lt hb)), [], .nil, Heap.DictOf.new h⟩
section
variable {X : Cx} {pos : Pos}
end

/-- the pairs of a display, from the left -/
def tPairs : List (TE × TE) → St → Hp → (List (V × V) → Hp → Prop) → Prop
  | [], _, H, Q => Q [] H
  | (tk, tv) :: r, σ, H, Q => tk σ H fun x H1 => tv σ H1 fun y H2 => tPairs r σ H2 fun ps H3 => Q ((x, y) :: ps) H3
abbrev VV : List (V × V) → List (Value × Value) → Prop := Paired fun p q => RelV p.1 q.1 ∧ RelV p.2 q.2
structure PPs (X : Cx) (pos : Pos) (keys : List (Option Expr)) (values : List Expr) (trs : List (TE × TE)) : Prop where
  run : ∀ (pins : List (Addr × Obj)) (s : Shared) (σ : St) (H : Hp) (Q : List (V × V) → Hp → Prop), Inv X pins σ H s → tPairs trs σ H Q →
    wpAny (model X.prog X.w) X.A (evalPairs (pairTrees keys values X.env pos)) (fun vs s' => ∃ ps H', Inv X pins σ H' s' ∧ VV ps vs ∧ Q ps H') X.xe s
instance {X : Cx} {pos : Pos} {keys : List (Option Expr)} {values : List Expr} {trs : List (TE × TE)} : CoeFun (PPs X pos keys values trs) (fun _ => ∀ (pins : List (Addr × Obj)) (s : Shared) (σ : St) (H : Hp) (Q : List (V × V) → Hp → Prop), Inv X pins σ H s → tPairs trs σ H Q →
    wpAny (model X.prog X.w) X.A (evalPairs (pairTrees keys values X.env pos)) (fun vs s' => ∃ ps H', Inv X pins σ H' s' ∧ VV ps vs ∧ Q ps H') X.xe s) := ⟨PPs.run⟩

theorem pps_nil {X : Cx} {pos : Pos} : PPs X pos [] [] [] := ⟨fun pins s σ H Q I h => pairTrees_nil_walk ⟨[], H, I, .nil, h⟩⟩
theorem pps_cons {X : Cx} {pos : Pos} {k v : Expr} {ks : List (Option Expr)} {vs : List Expr} {tk tv : TE} {trs : List (TE × TE)} (hk : PE X k tk) (hv : PE X v tv) (hr : PPs X pos ks vs trs) :
    PPs X pos (some k :: ks) (v :: vs) ((tk, tv) :: trs) := ⟨fun pins s σ H Q I h =>
  pairTrees_cons_walk (thn (hk pins s σ H _ I h) fun u s1 ⟨x, H1, I1, rx, q1⟩ => thn (hv pins s1 σ H1 _ I1 q1) fun w2 s2 ⟨y, H2, I2, ry, q2⟩ =>
    thn (hr pins s2 σ H2 _ I2 q2) fun ws s3 ⟨ps, H3, I3, rel, q3⟩ => ⟨(x, y) :: ps, H3, I3, .cons ⟨rx, ry⟩ rel, q3⟩)⟩

def mergeK (kvs more : List (Key × V)) : List (Key × V) := more.foldl (fun acc kv => putK acc kv.1 kv.2) kvs
theorem KV.merge : ∀ {more : List (Key × V)} {rs : List (Key × Value)} {kvs : List (Key × V)} {vs : List (Key × Value)}, KV more rs → KV kvs vs → KV (mergeK kvs more) (merged vs rs) := by
  intro more rs kvs vs r
  unfold KV at r
  induction r generalizing kvs vs with
  | nil => intro q; exact q
  | @cons p q ps qs h t ih =>
    intro r0
    have e : KV (putK kvs p.1 p.2) (stored vs q.1 q.2) := by
      have := r0.put p.1 h.2
      rw [← h.1]; exact this
    exact ih e
theorem length_mergeK : ∀ (more kvs : List (Key × V)), (mergeK kvs more).length ≤ kvs.length + more.length
  | [], kvs => by show kvs.length ≤ kvs.length + 0; omega
  | p :: r, kvs => by
    have h1 := length_mergeK r (putK kvs p.1 p.2)
    have h2 := length_putK kvs p.1 p.2
    show (mergeK (putK kvs p.1 p.2) r).length ≤ _
    rw [List.length_cons]; omega
theorem carries_of {P : Program} {w : World} : ∀ {kvs : List (Key × V)} {ws : List (Value × Value)}, VV (kvs.map fun kv => (kV kv.1, kv.2)) ws → ∃ rs, Carries (mixKind P w) ws rs ∧ KV kvs rs
  | [], _, r => by rw [List.map_nil] at r; cases r; exact ⟨[], True.intro, .nil⟩
  | p :: kvs, _, r => by
    rw [List.map_cons] at r
    cases r with
    | @cons a b as bs h t =>
      obtain ⟨rs, c, q⟩ := carries_of (P := P) (w := w) t
      obtain ⟨b1, b2⟩ := b
      exact ⟨(p.1, b2) :: rs, ⟨kV_is h.1, rfl, c⟩, .cons ⟨rfl, h.2⟩ q⟩
/-- {k: v, ..} with keys ints and texts; the new dict stands empty while the pairs are made -/
def tDisp (trs : List (TE × TE)) : TE := fun σ H Q => ∀ p, H p = none → tPairs trs σ (upd H p (.dK [])) fun ps H2 => H2 p = some (.dK []) ∧ ∃ kvs : List (Key × V), ps = kvs.map (fun kv => (kV kv.1, kv.2)) ∧ kvs.length ≤ 15 ∧ Q (.ref p) (upd H2 p (.dK (mergeK [] kvs)))
theorem pe_disp {X : Cx} {pos : Pos} {keys : List (Option Expr)} {values : List Expr} {trs : List (TE × TE)} (h : PPs X pos keys values trs) (hall : keys.all (·.isSome) = true) (hl : keys.length = values.length) (h0 : keys ≠ [])
    (h15 : keys.length ≤ 15) : PE X (.Dict keys values pos) (tDisp trs) := by
  refine ⟨?_⟩
  intro pins s σ H Q I q
  have hn := I.hok.fresh (Nat.le_refl s.heap.objs.size)
  have I1 := I.laid (a := s.heap.objs.size) (o := .dK []) (h' := s.heap.push { cls := .type "dict", data := .dict #[] }) (t' := s.toks) (fun _ _ q => Heap.get?_push_of_some _ q) (Nat.le_refl _) (dk_empty s.heap I.big)
  refine wpAny_Dict_walk (knd := mixKind X.prog X.w) hall hl h0 h15 (thn (h pins _ σ _ _ I1 (q _ hn)) fun ws s2 ⟨ps, H2, I2, rel, e, kvs, ep, lk, q2⟩ => ?_)
  subst ep
  obtain ⟨rs, c, rk⟩ := carries_of (P := X.prog) (w := X.w) rel
  obtain ⟨z, hd, vs0, r0, dd⟩ := dk_of I2.hok e
  cases r0
  refine ⟨rs, c, dd, fun h' dd' hs => ⟨.ref s.heap.objs.size, _, ?_, rfl, q2⟩⟩
  have hz : (mergeK [] kvs).length ≤ sizeLine := by
    have h1 := length_mergeK kvs []
    rw [List.length_nil] at h1
    rw [sizeLine_eq]; omega
  have he : ∃ q, h'.get? s.heap.objs.size = some q := let ⟨q, _, _, hq, _⟩ := dd'; ⟨q, hq⟩
  exact d_write I2 (by rw [e]; exact True.intro) hs he (dk_new hz hd (rk.merge .nil) dd')


/-! ### methods -/
/-- a method call o.m(e) of a built-in, with one argument: what must be seen of the text -/
structure M1 (X : Cx) (o : Expr) (m : Str) (apos : Pos) (e : Expr) (cpos : Pos) : Prop where
  base : attributeBase o m X.env (eval o X.env) = eval o X.env
  few : ((backTo cpos (starEach [e] X.env)).all (fun x => !x.1) && (backToKw cpos (keywordEach [] X.env)).all (fun x => x.1.isSome)
    && decide (([e] : List Expr).length + ([] : List Keyword).length + (if ([] : List Keyword).isEmpty then 0 else 1) < 30)) = true
  line : (apos.endLine == cpos.line) = true
  trees : backTo cpos (starEach [e] X.env) = [(false, eval e X.env)]
section
variable {X : Cx} {pins : List (Addr × Obj)} {σ : St} {H : Hp} {s : Shared} {a : Addr} {y d : V} {u r : Value} {o : Option V} {A : Around} {E : Value → Shared → Prop}
end

section
variable {X : Cx} {o e f : Expr} {apos cpos : Pos} {td ty tx : TE}
end

/-! ### dict(d): a copy -/
section
variable {X : Cx} {pins : List (Addr × Obj)} {σ : St} {H : Hp} {s : Shared} {a : Addr} {kvs : List (Key × V)} {A : Around} {E : Value → Shared → Prop}
end


section
variable {X : Cx} {pins : List (Addr × Obj)} {σ : St} {H : Hp} {s : Shared} {a : Addr} {y : V} {u : Value} {A : Around} {E : Value → Shared → Prop}
end
end L2
namespace Att
open PySem PySem.W PySem.Calls PyProof.Rows

/-! ### the script -/
theorem ints_of_wellAll {P : Params} {h : Heap} : ∀ (ns : List Int) (vs : List Value), WellAll P h vs (ns.map WData.int) → IntsAre vs ns := by
  intro ns
  induction ns with
  | nil =>
    intro vs w
    rw [List.map_nil] at w
    cases w
    exact .nil
  | cons n ns ih =>
    intro vs w
    rw [List.map_cons] at w
    cases w with
    | cons a b =>
      cases a
      exact .cons _ _ (ih _ b)

theorem script_of {l : OpenLaw} {n : Nat} (hn : l.most = some n) {P : Params} {h : Heap} {args : List WData} {vals : List Value}
    (hpre : l.row.toRowW.claim.pre args = true) (hwl : WellAll P h vals args) :
    ∃ a vs ns, vals = [Value.ref a] ∧ args = [WData.list (ns.map WData.int)] ∧ h.get? a = some { cls := .type "list", data := .seq vs.toArray } ∧ IntsAre vs ns ∧ ns.length ≤ n := by
  have hsh : WShape.hasAll [] args [.list .int] = true := (pre_splitW hpre).1
  have hc : l.pre.holds [] { args := args } = true := (pre_splitW hpre).2
  obtain ⟨d, r, rfl, h1, h2⟩ := hasAllW_cons hsh
  obtain rfl := hasAllW_nil h2
  obtain ⟨xs, rfl, h3⟩ := hasW_list h1
  obtain ⟨ns, rfl⟩ := items_int h3
  have hlen : ns.length ≤ n := by
    unfold OpenLaw.pre at hc
    have h4 : (WTm.not (.lt (.lit (.int (n : Int))) (.len (.arg 0)))).holds [] { args := [.list (ns.map .int)] } = true := by
      have h4 := (holds_andW hc).1
      rw [hn] at h4
      exact h4
    have h5 := condW_of h4 (w_not (w_lt w_lit (w_len_list (w_arg rfl))))
    rw [List.length_map] at h5
    refine Nat.le_of_not_lt fun q => ?_
    have q' : (n : Int) < ((ns.length : Nat) : Int) := by omega
    first
      | (rw [decide_eq_true q'] at h5; exact absurd h5 (by decide))
      | (simp at h5; omega)
  cases hwl with
  | cons w1 w2 =>
    cases w2
    cases w1 with
    | list ho hall => exact ⟨_, _, ns, rfl, rfl, ho, ints_of_wellAll ns _ hall, hlen⟩

theorem post_true (l : OpenLaw) (args : List WData) : l.row.toRowW.claim.post args (.bool true) args = true :=
  postW_of (r := l.row.toRowW) (X := (true == true))
    (show WShape.has [] (.bool true) .bool = true by first | rfl | decide | simp [WShape.has, WShape.arms, WShape.armsAll])
    (show (WTm.eq .res (.lit (.bool true))).value [] { args := args, res := some (.bool true), after := args } = some (.bool (true == true)) from w_eq_bool (w_res rfl) w_lit) rfl

/-! ### the attachment: holds_open's last premise (the goal 'hc' behind k_head) from a wpAny of the law's body -/
/-! ### rules over ANY heap (no ledger) from facts about the written part K: the library's own take a ledger (News) for what they write -/
section
variable {prog : Program} {w : World} {A : Around} {E : Value → Shared → Prop} {s : Shared} {K : Frag}

/-! the whole heap as the ledger: makes every rule that writes through a ledger a rule over any heap -/
def ledger (h : Heap) (L d : Addr) : List (Addr × Obj) := (List.range h.objs.size).filterMap fun a => if a = L ∨ a = d then none else (h.get? a).map fun o => (a, o)
end
end Att

namespace L2
open PySem PySem.Spec PyProof.Rows

theorem vals_ints : ∀ {vs : List Value} {ns : List Int}, IntsAre vs ns → Vals (ns.map V.int) vs
  | _, _, .nil => .nil
  | _, _, .cons n t h => .cons ⟨t, rfl⟩ (vals_ints h)

/-- nothing is tracked but the script, known to the object (or it is an object of the module) -/
def Only (H : Hp) : Prop := ∀ b, H b = none ∨ ∃ o xs, H b = some (.frz o (.lst xs))

/-- THE HEAD: the law's promise, at the heap behind the top. F, the promise of the law's def, may use that base is part of the heap (so K.In base, base.Ns mainGlobals mg stand in Mod) -/
theorem law_call {P : Program} {w : World} {K : PySem.W.Frag} {mg mb : Str → Option Value} {CX : CXT} {k : Nat} {fa a : Addr} {fd : FuncData} {x : Str} {sp : Sp} {s₁ : Shared} {vs : List Value} {ns : List Int}
    (KX : K.In s₁.heap) (hns : s₁.heap.Ns mainGlobals mg) (hb : s₁.heap.Ns builtinsNs mb) (hbb : ∀ x : Str, x ≠ "__name__" → mb x = bootBuiltins x) (hlim : s₁.heap.NoLimit) (hg : s₁.gens = #[])
    (ha : s₁.heap.get? a = some { cls := .type "list", data := .seq vs.toArray }) (hi : IntsAre vs ns) (hl : ns.length ≤ sizeLine) (hr : Room k callerA)
    (F : ∀ base : Heap, K.In base → base.Ns mainGlobals mg → FnOk P w K mg base CX k fa fd [x] sp) (hbind : ∀ (s : Shared) (u : Value), BindsTo s fd ⟨[u], []⟩ [(x, u)])
    (hsp : ∀ H : Hp, Only H → SqL K H a (ns.map V.int) → sp [.ref a] H (fun v _ => v = .bl true) fun _ _ _ => False)
    (hCX : ∀ H e s', CX [] H s₁ (fun _ _ _ => False) e s' → False) :
    codeAny (model P w) callerA (.call (.ref fa) ⟨[.ref a], []⟩) (fun r s' => r = .ok (.ret (.bool true)) ∧ OldK s₁.heap s'.heap ∧ s'.os = s₁.os ∧ AllBare s'.gens) s₁ := by
  have rv := vals_ints hi
  have lenV := hi.length
  -- from an abstract heap in which nothing but the script may be tracked
  have core : ∀ H : Hp, Only H → SqL K H a (ns.map V.int) → HOk P w H s₁.heap → (∀ b, H b ≠ none → b = a) → (H a ≠ none → K.lookup a = none) →
      codeAny (model P w) callerA (.call (.ref fa) ⟨[.ref a], []⟩) (fun r s' => r = .ok (.ret (.bool true)) ∧ OldK s₁.heap s'.heap ∧ s'.os = s₁.os ∧ AllBare s'.gens) s₁ := by
    intro H hO hS hok hA hK
    have base_of : ∀ {b : Addr} {o : Obj}, s₁.heap.get? b = some o → H b = none → (hidT s₁.heap H).get? b = some o := fun e n => hidT_get e n
    have noA : ∀ {b : Addr} {o : Obj} {es : Array DictEntry} {ep : Nat}, s₁.heap.get? b = some o → o.data = .dict es ep → H b = none := fun {b o es ep} e d => by
      cases q : H b with
      | none => rfl
      | some u =>
        have e' : b = a := hA b (by rw [q]; simp)
        subst e'
        rw [ha] at e; cases e
        have d' : Data.seq vs.toArray _ = Data.dict es ep := d
        cases d'
    have nsK : ∀ {b : Addr} {m : Str → Option Value}, s₁.heap.Ns b m → (hidT s₁.heap H).Ns b m := fun {b m} ⟨o, es, ep, e, d, r⟩ => ⟨o, es, ep, base_of e (noA e d), d, r⟩
    have hKb : K.In (hidT s₁.heap H) := fun b o e => base_of (KX b o e) (by
      cases q : H b with
      | none => rfl
      | some u =>
        have e' : b = a := hA b (by rw [q]; simp)
        subst e'
        rw [hK (by rw [q]; simp)] at e; cases e)
    have hM : Mod K mg (hidT s₁.heap H) := ⟨hKb, nsK hns, ⟨mb, nsK hb, hbb⟩, let ⟨mc, h1, h2⟩ := hlim; ⟨mc, nsK h1, h2⟩⟩
    have e0 : Env0 P w K mg (hidT s₁.heap H) callerA [] s₁ H := ⟨rfl, hM, fun b o e => of_hidT e, Nat.le_of_eq (hidT_size _ _), trivial, fun b hb => absurd (show b ∈ ([] : List Addr) from hb) (by simp), hok, .of_eq hg⟩
    refine codeAny_mono ((F _ hKb (nsK hns)).run callerA [] s₁ H ⟨[.ref a], []⟩ [.ref a] [.ref a] _ _ hr e0 (hbind s₁ (.ref a)) (.cons rfl .nil) (hsp H hO hS)) fun r s' h => ?_
    cases r with
    | error e => exact (hCX H e s' h).elim
    | ok fl =>
      cases fl with
      | next => exact False.elim h
      | brk => exact False.elim h
      | cont => exact False.elim h
      | ret u =>
        obtain ⟨v, H', os, bare, un, hok', r', q⟩ := h
        have q' : v = .bl true := q
        subst q'
        obtain rfl : u = Value.bool true := r'
        refine ⟨rfl, OldK.of_keep fun b o e => ?_, os, bare⟩
        cases q : H b with
        | none => exact un.keep b o e q (by intro z; exact absurd (show b ∈ ([] : List Addr) from z) (by simp)) (by simp)
        | some u =>
          rcases hO b with z | ⟨ob, xs, z⟩
          · rw [q] at z; cases z
          · have z2 := un.frzs b ob _ z
            obtain ⟨e1, _⟩ := hok b _ z
            obtain ⟨e2, _⟩ := hok' b _ z2
            rw [e] at e1; cases e1
            exact e2
  cases hk : K.lookup a with
  | some o =>
    -- the script is one of the module's own objects
    have e := KX a o hk
    rw [ha] at e
    cases e
    refine core (fun _ => none) (fun _ => .inl rfl) (.inr ⟨_, vs.toArray, _, hk, rfl, rfl, rfl, by rw [List.size_toArray, lenV]; exact hl, by simpa using rv⟩) (fun b u z => by have z' : (none : Option HO) = some u := z; cases z') (fun b z => absurd rfl z) fun z => absurd rfl z
  | none =>
    refine core (fun b => if b = a then some (.frz { cls := .type "list", data := .seq vs.toArray } (.lst (ns.map V.int))) else none) (fun b => ?_) (.inl (.inr ⟨{ cls := .type "list", data := .seq vs.toArray }, if_pos rfl⟩)) (fun b u z => ?_) (fun b z => ?_) fun _ => hk
    · by_cases hb : b = a
      · exact .inr ⟨_, _, if_pos hb⟩
      · exact .inl (if_neg hb)
    · by_cases hb : b = a
      · have z' := (if_pos hb).symm.trans z
        cases z'
        subst hb
        exact ⟨ha, by rw [List.length_map]; exact hl, vs, _, rv, ha⟩
      · have z' := (if_neg hb).symm.trans z
        cases z'
    · by_cases hb : b = a
      · exact hb
      · exact absurd (if_neg hb) z
end L2

namespace L2
open PySem PySem.Spec PyProof.Rows

end L2


/-! SHORT WORDS over the layer: a def of the text, its body, what a loop and a test want. -/
namespace L2
open PySem PySem.Spec PyProof.Rows

/-! ### the text by places -/
/-- the j-th statement of a class's body -/
def inClass (s : Stmt) (j : Nat) : Stmt := match s with
  | .ClassDef _ _ _ body _ _ _ _ _ _ _ => body.getD j (.Pass ⟨0, 0, 0, 0⟩)
  | _ => .Pass ⟨0, 0, 0, 0⟩
def defArgs (s : Stmt) : Arguments := match s with
  | .FunctionDef _ a _ _ _ _ _ _ _ _ => a
  | _ => { posonlyargs := [], args := [], vararg := none, kwonlyargs := [], kw_defaults := [], kwarg := none, defaults := [] }
def defBody (s : Stmt) : List Stmt := match s with
  | .FunctionDef _ _ b _ _ _ _ _ _ _ => b
  | _ => []
def defScope (s : Stmt) : Scope := match s with
  | .FunctionDef _ _ _ _ _ _ sc _ _ _ => sc
  | _ => { kind := .function, names := [], isGenerator := false, isCoroutine := false }

/-! ### no exception leaves a def -/
abbrev CX0 : CXT := fun _ _ _ _ _ _ => False
abbrev E0 : XK := fun _ _ _ => False
theorem pass0 {X : Cx} : Passes CX0 X E0 := fun _ _ _ _ _ _ _ h => h.elim

/-! ### a def (or method) of the text as it stands behind the top -/
structure Fun (K : PySem.W.Frag) (x qual : Str) (st : Stmt) (f : Addr) (fd : FuncData) : Prop where
  ex : ∃ (oc : Value) (od : Option Addr) (kV doc pm : Value) (an : Option Addr) (cdv ct : Value) (osl : Array (Option Value)),
    fd = PySem.W.fnOf x qual (defArgs st) (defBody st) (defScope st) .none kV doc pm an cdv ct ∧ K.lookup f = some ⟨oc, od, .func fd, osl⟩ ∧ PySem.W.codeIn K cdv qual = true
  kp : PySem.W.keepIn K (.ref f) = true
section
variable {P : Program} {w : World} {K : PySem.W.Frag} {mg : Str → Option Value} {base : Heap}
/-- THE RULE for a def: its body as a term of rules, and the reading of that term -/
theorem Fun.ok {x qual : Str} {st : Stmt} {f : Addr} {fd : FuncData} {N ps : List Str} {k : Nat} {sp : Sp} (F : Fun K x qual st f fd) (S : FnScope N ps (defScope st)) (len : ∀ vs H Q E, sp vs H Q E → vs.length = ps.length)
    (hbody : ∀ (cdv : Value) (A : Around) (outer : List Env) (s : Shared) (H : Hp) (vs : List V) (Q : VK) (E : XK), Room k (A.deeper (envOfC qual (defScope st) s.heap.objs.size f cdv)) → sp vs H Q E →
      ∃ t, PSs (cxOf CX0 P w K mg base N qual (defScope st) f cdv A outer s H E).nox (defBody st) t ∧ t { nx := fun _ H' => Q .non H', rt := Q } (start N vs) H) : FnOk P w K mg base CX0 (k + 1) f fd ps sp := by
  obtain ⟨oc, od, kV, doc, pm, an, cdv, ct, osl, rfl, lk, hcd⟩ := F.ex
  refine fn_of lk hcd S len fun A outer s H vs Q E hr hsp => ?_
  obtain ⟨t, h, q⟩ := hbody cdv A outer s H vs Q E hr hsp
  exact ⟨t, h.nox, q⟩
/-- how its arguments bind (no defaults): h is «fun _ _ _ _ _ _ us hl => match us, hl with | [_, _], _ => rfl», one _ a parameter -/
theorem Fun.binds {x qual : Str} {st : Stmt} {f : Addr} {fd : FuncData} {ps : List Str} (F : Fun K x qual st f fd)
    (h : ∀ (kV doc pm : Value) (an : Option Addr) (cdv ct : Value) (us : List Value), us.length = ps.length → bindArgs (PySem.W.fnOf x qual (defArgs st) (defBody st) (defScope st) .none kV doc pm an cdv ct) ⟨us, []⟩ = pure (ps.zip us)) : Binds K fd ps [] := by
  obtain ⟨oc, od, kV, doc, pm, an, cdv, ct, osl, rfl, lk, hcd⟩ := F.ex
  exact .all (h kV doc pm an cdv ct)
theorem fun_mk {x qual : Str} {st : Stmt} {f : Addr} {oc : Value} {od an : Option Addr} {osl : Array (Option Value)} {kV doc pm cdv ct : Value} (l : K.lookup f = some ⟨oc, od, .func (PySem.W.fnOf x qual (defArgs st) (defBody st) (defScope st) .none kV doc pm an cdv ct), osl⟩)
    (c : PySem.W.codeIn K cdv qual = true) (k : PySem.W.keepIn K (.ref f) = true) : Fun K x qual st f (PySem.W.fnOf x qual (defArgs st) (defBody st) (defScope st) .none kV doc pm an cdv ct) := ⟨⟨oc, od, kV, doc, pm, an, cdv, ct, osl, rfl, l, c⟩, k⟩
end
theorem hu_of {A : Around} {k : Nat} (hr : Room k A) : A.units + 1 < cLine := Nat.lt_of_le_of_lt (Nat.add_le_add_left (by decide : 1 ≤ 64) _) hr.units
theorem small1000 {n : Nat} (h : n ≤ 1000) : n < sizeLine := Nat.lt_of_le_of_lt h (by decide)

/-! ### expressions in short: the name that stands in the i-th slot -/
section
variable {X : Cx}
theorem pv (i : Nat) {x : Str} {pos : Pos} (hN : X.N[i]? = some x := by rfl) (hv : Vis X.env.scope x := by first | exact Or.inl rfl | exact Or.inr (Or.inl rfl) | exact Or.inr (Or.inr rfl)) (hd : (x == ("__debug__" : Str)) = false := by decide)
    (hcd : (x == ("__classdict__" : Str)) = false := by decide) : PE X (.Name x pos) (tVar i) := pe_var hN hv hd hcd
end

/-! ### tests -/
theorem iteF {A B : Prop} (h : B) : if false = true then A else B := by
  rw [if_neg Bool.false_ne_true]
  exact h
theorem iteT {A B : Prop} (h : A) : if true = true then A else B := by
  rw [if_pos rfl]
  exact h
theorem ite2 {c A B : Prop} [Decidable c] (h1 : c → A) (h2 : ¬ c → B) : if c then A else B := by
  by_cases h : c
  · rw [if_pos h]
    exact h1 h
  · rw [if_neg h]
    exact h2 h
/-! ### heaps -/
/-- all that was tracked is as it was -/
def Same (H H' : Hp) : Prop := ∀ b o, H b = some o → H' b = some o
theorem Same.refl (H : Hp) : Same H H := fun _ _ h => h
theorem Same.trans {H H1 H2 : Hp} (a : Same H H1) (b : Same H1 H2) : Same H H2 := fun c o h => b c o (a c o h)
theorem Same.free {H H' : Hp} (e : Same H H') {l : Addr} (h : H' l = Option.none) : H l = Option.none := by
  cases q : H l with
  | none => rfl
  | some o =>
    rw [e l o q] at h
    cases h
theorem Same.seq {K : PySem.W.Frag} {H H' : Hp} {a : Addr} {xs : List V} (e : Same H H') (h : SqL K H a xs) : SqL K H' a xs := by
  rcases h with (h | ⟨o, h⟩) | h
  · exact .inl (.inl (e _ _ h))
  · exact .inl (.inr ⟨o, e _ _ h⟩)
  · exact .inr h

end L2

namespace L2
open PySem PySem.Spec PyProof.Rows
section
variable {X : Cx}
end
/-! ### a dict's pairs: keys that differ -/
section
variable {κ : Type} [DecidableEq κ]
end
end L2

set_option Elab.async false
set_option linter.all false
set_option maxRecDepth 100000
set_option maxHeartbeats 4000000
namespace L2
open PySem PySem.Spec PyProof.Rows

/-! ### a comprehension's block -/
/-- the cells that a block takes along -/
def clB (env : Env) (fr : List Str) : List (Str × Addr) := fr.map fun n => (n, (env.cells.lookup n).getD 0)
theorem clB_look {env : Env} : ∀ {fr : List Str} {x : Str} {c : Addr}, (clB env fr).lookup x = some c → x ∈ fr ∧ c = (env.cells.lookup x).getD 0
  | [], x, c, h => by simp [clB] at h
  | n :: r, x, c, h => by
    have h' : List.lookup x ((n, (env.cells.lookup n).getD 0) :: clB env r) = some c := h
    rw [List.lookup_cons] at h'
    cases e : x == n with
    | true =>
      rw [e] at h'
      have e' : x = n := by simpa using e
      subst e'
      exact ⟨List.mem_cons_self, (Option.some.inj h').symm⟩
    | false =>
      rw [e] at h'
      obtain ⟨h1, h2⟩ := clB_look h'
      exact ⟨List.mem_cons_of_mem _ h1, h2⟩
theorem clB_in {env : Env} : ∀ {fr : List Str} {x : Str}, x ∈ fr → (clB env fr).lookup x = some ((env.cells.lookup x).getD 0)
  | n :: r, x, h => by
    show List.lookup x ((n, (env.cells.lookup n).getD 0) :: clB env r) = _
    rw [List.lookup_cons]
    cases e : x == n with
    | true =>
      have e' : x = n := by simpa using e
      subst e'
      rfl
    | false =>
      rcases List.mem_cons.mp h with z | z
      · subst z; simp at e
      · exact clB_in z
/-- the names of the block as it runs -/
theorem relabel_mem {env : Env} : ∀ {names : List (Str × NameKind)} {x : Str} {k : NameKind},
    (names.map fun (n, k) => if (k == NameKind.free && env.scope.kind == .function && env.kindOf n == some .cell) then (n, NameKind.cell) else (n, k)).lookup x = some k →
    ∃ k0, (x, k0) ∈ names ∧ (k = k0 ∨ (k0 = .free ∧ k = .cell))
  | [], _, _, h => by simp at h
  | (n, k0) :: r, x, k, h => by
    have h' : List.lookup x ((if (k0 == NameKind.free && env.scope.kind == .function && env.kindOf n == some .cell) = true then (n, NameKind.cell) else (n, k0)) ::
      (r.map fun (n, k) => if (k == NameKind.free && env.scope.kind == .function && env.kindOf n == some .cell) then (n, NameKind.cell) else (n, k))) = some k := h
    by_cases hc : (k0 == NameKind.free && env.scope.kind == .function && env.kindOf n == some .cell) = true
    · rw [if_pos hc, List.lookup_cons] at h'
      cases e : x == n with
      | true =>
        rw [e] at h'
        have e' : x = n := by simpa using e
        subst e'
        simp only [Bool.and_eq_true] at hc
        exact ⟨k0, List.mem_cons_self, .inr ⟨by simpa using hc.1.1, (Option.some.inj h').symm⟩⟩
      | false =>
        rw [e] at h'
        obtain ⟨k1, h1, h2⟩ := relabel_mem h'
        exact ⟨k1, List.mem_cons_of_mem _ h1, h2⟩
    · rw [if_neg hc, List.lookup_cons] at h'
      cases e : x == n with
      | true =>
        rw [e] at h'
        have e' : x = n := by simpa using e
        subst e'
        exact ⟨k0, List.mem_cons_self, .inl (Option.some.inj h').symm⟩
      | false =>
        rw [e] at h'
        obtain ⟨k1, h1, h2⟩ := relabel_mem h'
        exact ⟨k1, List.mem_cons_of_mem _ h1, h2⟩
theorem relabel_free {env : Env} (hk : env.scope.kind = .function) : ∀ {names : List (Str × NameKind)} {x : Str}, names.lookup x = some .free → env.kindOf x = some .cell →
    (names.map fun (n, k) => if (k == NameKind.free && env.scope.kind == .function && env.kindOf n == some .cell) then (n, NameKind.cell) else (n, k)).lookup x = some .cell
  | [], _, h, _ => by simp at h
  | (n, k0) :: r, x, h, hx => by
    show List.lookup x ((if (k0 == NameKind.free && env.scope.kind == .function && env.kindOf n == some .cell) = true then (n, NameKind.cell) else (n, k0)) ::
      (r.map fun (n, k) => if (k == NameKind.free && env.scope.kind == .function && env.kindOf n == some .cell) then (n, NameKind.cell) else (n, k))) = some .cell
    rw [List.lookup_cons] at h
    cases e : x == n with
    | true =>
      rw [e] at h
      have e' : x = n := by simpa using e
      subst e'
      have h0 : k0 = .free := Option.some.inj h
      subst h0
      rw [if_pos (by rw [hk, hx]; decide), List.lookup_cons]
      simp
    | false =>
      rw [e] at h
      have ih := relabel_free hk h hx
      split
      · rw [List.lookup_cons, e]; exact ih
      · rw [List.lookup_cons, e]; exact ih

/-- the block's context: entered at s (the iterator and the list stand), its frame at C -/
abbrev compCx (X : Cx) (pins : List (Addr × Obj)) (sc : Scope) (fr Nc : List Str) (fp : List Addr) (s : Shared) (H : Hp) (C : Addr) : Cx :=
  { prog := X.prog, w := X.w, K := X.K, mg := X.mg, base := X.base, A := X.A, N := Nc, s₀ := s, H₀ := H, env := compEnvC sc (clB X.env fr) C X.env,
    outer := X.stack, stack := X.stack, ex := fp, fn := fun _ => false, calm := X.calm, pn := X.pn ++ pins, xe := fun _ _ => False }
/-- what is asked of the block's names -/
structure BlockOk (env : Env) (sc : Scope) (fr : List Str) : Prop where
  kind : sc.kind = .function
  clos : closureFor sc env = pure (clB env fr)
  cells : (fr.all fun n => (env.cells.lookup n).isSome) = true
  names : (sc.names.all fun y => (y.2 != .cell) && (y.2 != .free || fr.contains y.1) && (y.2 != .local || sc.names.lookup y.1 == some .local)) = true
/-- which of the block's names are the def's, at which slot -/
def capChk (N Nc : List Str) (caps : List (Option Nat)) (env : Env) (sc : Scope) (fr : List Str) : Bool :=
  (Nc.zip caps).all fun p => match p.2 with
    | none => true
    | some j => (N[j]? == some p.1) && (env.kindOf p.1 == some .cell) && (sc.names.lookup p.1 == some .free) && fr.contains p.1
def capS (caps : List (Option Nat)) (σ : St) : St := caps.map fun o => match o with
  | none => none
  | some j => (σ[j]?).join
section
variable {X : Cx} {pins : List (Addr × Obj)} {σ : St} {H : Hp} {s : Shared} {sc : Scope} {fr Nc : List Str} {fp : List Addr} {C : Addr}
theorem BlockOk.sub {env : Env} (B : BlockOk env sc fr) {x : Str} {c : Addr} (h : (clB env fr).lookup x = some c) : env.cells.lookup x = some c := by
  obtain ⟨h1, h2⟩ := clB_look h
  have h3 := List.all_eq_true.mp B.cells x h1
  obtain ⟨d, hd⟩ := Option.isSome_iff_exists.mp h3
  rw [hd] at h2 ⊢
  rw [h2]; rfl
theorem BlockOk.free {env : Env} (B : BlockOk env sc fr) {x : Str} {k : NameKind} (h : (relabel sc env).names.lookup x = some k) (hk : k = .cell ∨ k = .free) : x ∈ fr := by
  obtain ⟨k0, h1, h2⟩ := relabel_mem h
  have h3 := List.all_eq_true.mp B.names _ h1
  simp only [Bool.and_eq_true, Bool.or_eq_true, bne_iff_ne, ne_eq, List.contains_iff_mem] at h3
  have h4 : k0 = .free := by
    rcases h2 with h2 | ⟨h2, _⟩
    · subst h2
      rcases hk with z | z
      · exact absurd z h3.1.1
      · exact z
    · exact h2
  rcases h3.1.2 with z | z
  · exact absurd h4 z
  · exact z
theorem comp_ok (I : Inv X pins σ H s) (B : BlockOk X.env sc fr) (hf : ∀ b ∈ fp, FpOk X pins H b) (ho : ∀ b ∈ fp, ∃ o, s.heap.get? b = some o) (hC : s.heap.objs.size ≤ C) : (compCx X pins sc fr Nc fp s H C).Ok where
  mod := I.ok.mod
  kind := B.kind
  glob := I.ok.glob
  blt := I.ok.blt
  above := hC
  inj := fun x y c h1 h2 => I.ok.inj x y c (B.sub h1) (B.sub h2)
  has := fun x h => by
    have hx : x ∈ fr := by
      rcases h with h | h
      · exact B.free h (.inl rfl)
      · exact B.free h (.inr rfl)
    exact ⟨_, clB_in hx⟩
  cab := fun x c h => absurd h (by simp)
  hd := I.ok.hd
  frames := I.ok.frames
  stk := .inl rfl
  exf := fun b hb => by
    obtain ⟨o, e⟩ := ho b hb
    refine ⟨fun z => ?_, fun x c h => (hf b hb).2.2.2.2.1 x c (B.sub h)⟩
    have z' : b = C := z
    have := Heap.lt_size e
    rw [z'] at this
    exact absurd (Nat.lt_of_lt_of_le this hC) (Nat.lt_irrefl _)
  bs := I.bs
  bsz := Nat.le_trans I.ok.bsz I.sz
  noex := fun b o e hb => by
    rcases (hf b hb).2.2.2.1 with z | z
    · exact I.ok.noex b o e z
    · exact absurd (Nat.lt_of_lt_of_le (Heap.lt_size (I.ok.bs b o e).1) z) (Nat.lt_irrefl _)
  exfs := fun b hb h => by
    rcases List.mem_cons.mp (I.stkSub b h) with z | z
    · exact (hf b hb).2.1 z
    · exact (hf b hb).2.2.1 z
  funs := I.stack
  frf := I.stkFree
theorem Inv.pin_lt (I : Inv X pins σ H s) {p : Addr × Obj} (hp : p ∈ X.pn ++ pins) : p.1 < s.heap.objs.size := Heap.lt_size (I.pin p hp).1
/-- the block at its entry: the list at D, the frame at C, both new -/
theorem comp_start {caps : List (Option Nat)} {h' : Heap} {D : Addr} {m : Str → Option Value} {t' n0 : Nat} (I : Inv X pins σ H s) (B : BlockOk X.env sc fr) (hf : ∀ b ∈ fp, FpOk X pins H b) (ho : ∀ b ∈ fp, ∃ o, s.heap.get? b = some o)
    (hC : s.heap.objs.size ≤ C) (hD : s.heap.objs.size ≤ D) (hDC : D ≠ C) (keep : ∀ b o, s.heap.get? b = some o → h'.get? b = some o) (hl : h'.get? D = some { cls := .type "list", data := .seq ([] : List Value).toArray n0 }) (hn : h'.Ns C m)
    (hcap : capChk X.N Nc caps X.env sc fr = true) (hlen : caps.length = Nc.length) :
    Inv (compCx X pins sc fr Nc fp s H C) [] (capS caps σ) (upd H D (.lst [])) { s with heap := h', toks := t' } := by
  have hk : X.env.scope.kind = .function := I.ok.kind
  have fresh : ∀ a, s.heap.objs.size ≤ a → H a = none := fun a ha => I.hok.fresh ha
  refine ⟨comp_ok I B hf ho hC, rfl, I.bare, Un.laid keep hD (fresh D hD), ⟨m, hn, fun i x v e1 e2 e3 => ?_⟩, fun x c h => ?_, ?_, fun x c h => ?_, fun p hp => ?_, ?_, ?_⟩
  · -- a captured name
    have e2' : (caps[i]?).map (fun o => match o with | none => none | some j => (σ[j]?).join) = some (some v) := by
      have : (capS caps σ)[i]? = some (some v) := e2
      unfold capS at this
      rw [List.getElem?_map] at this
      exact this
    cases hc : caps[i]? with
    | none => rw [hc] at e2'; cases e2'
    | some o =>
      rw [hc] at e2'
      cases o with
      | none => simp at e2'
      | some j =>
        have e4 : (σ[j]?).join = some v := by simpa using e2'
        have e5 : σ[j]? = some (some v) := by
          cases q : σ[j]? with
          | none => rw [q] at e4; cases e4
          | some w' => rw [q] at e4; simp at e4; rw [e4]
        have e6 : (Nc.zip caps)[i]? = some (x, some j) := by
          rw [List.getElem?_zip_eq_some]
          exact ⟨e1, hc⟩
        have e7 := List.all_eq_true.mp hcap _ (List.mem_of_getElem? e6)
        simp only [Bool.and_eq_true, beq_iff_eq, List.contains_iff_mem] at e7
        obtain ⟨⟨⟨a1, a2⟩, a3⟩, a4⟩ := e7
        obtain ⟨m0, hn0, hl0⟩ := I.loc
        obtain ⟨u, r, l⟩ := hl0 j x v a1 e5 (.inr (.inl a2))
        refine ⟨u, r, .inr ⟨.inl (relabel_free hk a3 a2), _, clB_in a4, ?_⟩⟩
        rcases l with ⟨z, _⟩ | ⟨_, c, ec, hcell⟩
        · rw [a2] at z; cases z
        · have : (X.env.cells.lookup x).getD 0 = c := by rw [ec]; rfl
          rw [this]
          exact hcell.keeps keep
  · obtain ⟨v, hv⟩ := I.cell x c (B.sub h)
    exact ⟨v, hv.keeps keep⟩
  · show upd H D (.lst []) C = none
    rw [upd_ne (Ne.symm hDC)]; exact fresh C hC
  · obtain ⟨v, hv⟩ := I.cell x c (B.sub h)
    have : c ≠ D := fun z => by have := hv.lt; rw [z] at this; exact absurd (Nat.lt_of_lt_of_le this hD) (Nat.lt_irrefl _)
    rw [upd_ne this]; exact I.freeC x c (B.sub h)
  · have hp' : p ∈ X.pn ++ pins := by simpa using hp
    obtain ⟨e, n, ne, nf, d⟩ := I.pin p hp'
    have hlt := I.pin_lt hp'
    refine ⟨keep _ _ e, ?_, ?_, fun z => ?_, d⟩
    · rw [upd_ne (fun z => by rw [z] at hlt; exact absurd (Nat.lt_of_lt_of_le hlt hD) (Nat.lt_irrefl _))]; exact n
    · intro z
      have z' : p.1 = C := z
      rw [z'] at hlt; exact absurd (Nat.lt_of_lt_of_le hlt hC) (Nat.lt_irrefl _)
    · rcases List.mem_cons.mp (I.stkSub p.1 z) with q | q
      · exact ne q
      · exact nf q
  · exact I.hok.laid keep hD ⟨Nat.zero_le _, [], n0, .nil, hl⟩
  · show (capS caps σ).length = Nc.length
    unfold capS
    rw [List.length_map, hlen]
/-- back in the def -/
theorem comp_back {pl : List (Addr × Obj)} {σ' : St} {H' : Hp} {s' : Shared} (I : Inv X pins σ H s) (hf : ∀ b ∈ fp, FpOk X pins H b) (J : Inv (compCx X pins sc fr Nc fp s H C) pl σ' H' s') : Inv X pins σ H' s' :=
  I.call' J.os J.base J.hok J.bare fun b hb => ⟨(hf b hb).2.2.2.1, (hf b hb).2.1, (hf b hb).2.2.2.2.1, (hf b hb).2.2.2.2.2⟩
/-- .. the block's frame let go -/
theorem comp_gone {pl : List (Addr × Obj)} {σ' σ2 : St} {H' : Hp} {s' : Shared} {h2 : Heap} {t2 : Nat} (I : Inv X pins σ H s) (J : Inv (compCx X pins sc fr Nc fp s H C) pl σ' H' s') (J2 : Inv X pins σ2 H' s') (hs : Heap.SameBut C s'.heap h2) : Inv X pins σ2 H' { s' with heap := h2, toks := t2 } := by
  have hC : s.heap.objs.size ≤ C := J.ok.above
  refine J2.turned (it := C) (fun b o hb e => (hs.2 b hb).trans e) J.free ?_ (.inr (Nat.le_trans I.sz hC)) (fun x c h z => ?_) fun p hp z => ?_
  · intro z
    have := I.lt
    rw [← z] at this
    exact absurd (Nat.lt_of_lt_of_le this hC) (Nat.lt_irrefl _)
  · obtain ⟨v, hv⟩ := I.cell x c h
    have := hv.lt
    rw [z] at this
    exact absurd (Nat.lt_of_lt_of_le this hC) (Nat.lt_irrefl _)
  · have := I.pin_lt hp
    rw [z] at this
    exact absurd (Nat.lt_of_lt_of_le this hC) (Nat.lt_irrefl _)
end
end L2

set_option Elab.async false
set_option linter.all false
set_option maxRecDepth 100000
set_option maxHeartbeats 4000000
namespace L2
open PySem PySem.Spec PyProof.Rows

/-! ### the tests of a clause -/
def tTrue : TT := fun _ H Q => Q true H
structure PIf (X : Cx) (ifs : List Expr) (t : TT) : Prop where
  run : ∀ (pins : List (Addr × Obj)) (s : Shared) (σ : St) (H : Hp) (Q : Bool → Hp → Prop), Inv X pins σ H s → t σ H Q →
    wpAny (model X.prog X.w) X.A (forIn ifs true fun c r => if r = true then do let ok ← isTrue c X.env (eval c X.env); pure (ForInStep.yield ok) else pure (ForInStep.yield r)) (TP X pins σ Q) X.xe s
instance {X : Cx} {ifs : List Expr} {t : TT} : CoeFun (PIf X ifs t) (fun _ => ∀ (pins : List (Addr × Obj)) (s : Shared) (σ : St) (H : Hp) (Q : Bool → Hp → Prop), Inv X pins σ H s → t σ H Q →
    wpAny (model X.prog X.w) X.A (forIn ifs true fun c r => if r = true then do let ok ← isTrue c X.env (eval c X.env); pure (ForInStep.yield ok) else pure (ForInStep.yield r)) (TP X pins σ Q) X.xe s) := ⟨PIf.run⟩

theorem pif_nil {X : Cx} : PIf X [] tTrue := ⟨fun _ _ _ H _ I h => wpAny_tests_nil ⟨H, I, h⟩⟩
theorem pif_one {X : Cx} {c : Expr} {t : TT} (hc : PT X c t) : PIf X [c] t := ⟨fun pins s σ H Q I h => wpAny_tests_one (hc pins s σ H Q I h)⟩

/-! ### targets that write their own slots alone -/
def GOwn (g : TG) (ow : List Nat) : Prop :=
  ∀ (v : V) (σ : St) (H : Hp) (Q : St → Hp → Prop), g v σ H Q → g v σ H fun σ2 H2 => Q σ2 H2 ∧ σ2.length = σ.length ∧ ∀ i, i ∉ ow → σ2[i]? = σ[i]?
theorem gown_name (i : Nat) : GOwn (gName i) [i] := fun v σ H Q h => ⟨h, List.length_set .., fun j hj => List.getElem?_set_ne (fun e => hj (by simp [e]))⟩
theorem gown_tup2 {K : PySem.W.Frag} {n : Nat} (i j : Nat) : GOwn (gTup K n (gCons (gName i) (gCons (gName j) gNil))) [i, j] := by
  rintro v σ H Q ⟨a, xs, e1, e2, e3, v1, r1, e4, v2, r2, e5, e6, q⟩
  refine ⟨a, xs, e1, e2, e3, v1, r1, e4, v2, r2, e5, e6, q, by rw [List.length_set, List.length_set], fun k hk => ?_⟩
  have h1 : i ≠ k := fun e => hk (by simp [e])
  have h2 : j ≠ k := fun e => hk (by simp [e])
  rw [List.getElem?_set_ne h2, List.getElem?_set_ne h1]

/-! ### the loop of a comprehension -/
section
variable {prog : Program} {w : World} {A : Around} {R : Result → Shared → Prop} {s : Shared}
theorem compLoop_any {elt target iter : Expr} {ifs : List Expr} {scope : Scope} {pos : Pos} {it acc : Value} {env : Env} (I : Nat → Shared → Prop)
    (turn : ∀ n s, I n s → wpAny (model prog w) A (pyNext it) (fun r s₁ => match r with
      | none => R (.ok .next) s₁
      | some v => wpAny (model prog w) A (letOwnedTupleGo target it v) (fun _ s₀ => wpAny (model prog w) A (assign target env v) (fun _ s₂ =>
          wpAny (model prog w) A (forIn ifs true fun c r => if r = true then do let ok ← isTrue c env (eval c env); pure (ForInStep.yield ok) else pure (ForInStep.yield r)) (fun ok s₃ =>
            if ok = true then wpAny (model prog w) A (eval elt env) (fun x s₄ =>
              wpAny (model prog w) A (call (.builtin "list.append") [acc, x]) (fun _ s₅ => ∃ m, m < n ∧ I m s₅) (fun _ _ => False) s₄) (fun _ _ => False) s₃
            else ∃ m, m < n ∧ I m s₃) (fun _ _ => False) s₂) (fun _ _ => False) s₀) (fun _ _ => False) s₁) (fun _ _ => False) s)
    (n : Nat) (h : I n s) :
    codeAny (model prog w) A (.compLoop (.ListComp elt [⟨target, iter, ifs, 0⟩] scope pos) 0 it acc env) R s := by
  refine codeAny_loop rfl I (fun n s hI => ?_) n h
  show wpAny _ A ((compTurn (.ListComp elt [⟨target, iter, ifs, 0⟩] scope pos) 0 it acc env).onRaise (fun x => do noteFrame x env; theTreesLotGoes x)) _ _ s
  refine wpAny_noted ?_
  rw [compTurn_list]
  refine wpAny_bind (wpAny_standAt (wpAny_bind (wpAny_mono (turn n s hI) (fun r s₁ h₁ => ?_) fun _ _ z => z.elim)))
  cases r with
  | none => exact wpAny_pure h₁
  | some v =>
    refine wpAny_bind (wpAny_mono h₁ (fun _ s₀ h₀ => ?_) fun _ _ z => z.elim)
    refine wpAny_bind (wpAny_mono h₀ (fun _ s₂ h₂ => wpAny_bind (wpAny_mono h₂ (fun ok s₃ h₃ => ?_) fun _ _ z => z.elim)) fun _ _ z => z.elim)
    cases ok with
    | false => exact wpAny_pure ⟨rfl, h₃⟩
    | true =>
      exact wpAny_bind (wpAny_bind (wpAny_mono h₃ (fun x s₄ h₄ => wpAny_bind (wpAny_mono h₄ (fun _ s₅ h₅ => wpAny_pure (wpAny_pure ⟨rfl, h₅⟩)) fun _ _ z => z.elim)) fun _ _ z => z.elim))
end

/-! ### a list comprehension of one clause -/
/-- what is asked of a block that makes the list at D -/
def LCr (J : It) (caps : List (Option Nat)) (g : TG) (tt : TT) (te : TE) (σ : St) (H1 : Hp) (Q : VK) (D : Addr) : Prop :=
  ∃ W : Nat → Nat → List V → Hp → Prop, (∃ m, W 0 m [] (upd H1 D (.lst []))) ∧ ∀ i m ys H, W i m ys H →
    (J.stop i H ∧ Q (.ref D) H) ∨
    (J.go i H ∧ ∀ x H', J.yld i H x H' → g x (capS caps σ) H' fun σ2 H2 => tt σ2 H2 fun ok H3 =>
      (ok = true → te σ2 H3 fun v H4 => H4 D = some (.lst ys) ∧ ys.length < sizeLine ∧ ∃ m', m' < m ∧ W (i + 1) m' (ys ++ [v]) (upd H4 D (.lst (ys ++ [v])))) ∧
      (ok = false → ∃ m', m' < m ∧ W (i + 1) m' ys H3))
def tLC (wi : TI) (caps : List (Option Nat)) (g : TG) (tt : TT) (te : TE) : TE := fun σ H Q => wi σ H fun J H1 => ∀ D, H1 D = none → LCr J caps g tt te σ H1 Q D
section
variable {X : Cx} {pins : List (Addr × Obj)} {σ : St} {s : Shared} {sc : Scope} {fr Nc : List Str} {caps : List (Option Nat)} {elt tg iter : Expr} {ifs : List Expr} {g : TG} {tt : TT} {te : TE} {ow : List Nat} {pos pos2 : Pos} {E : Value → Shared → Prop}
theorem comp_run {H2 : Hp} {it : Addr} {fp : List Addr} {tn : Nat → Heap → Prop} {J : It} {Q : VK} {RR : Value → Addr → Result → Shared → Prop}
    (hc : X.calm = true) (B : BlockOk X.env sc fr) (go : GOwn g ow) (how : (ow.all fun i => caps[i]? == some none) = true) (hcap : capChk X.N Nc caps X.env sc fr = true) (hlen : caps.length = Nc.length)
    (hb : ∀ (pins : List (Addr × Obj)) (fp : List Addr) (s : Shared) (H : Hp) (C : Addr), PG (compCx X pins sc fr Nc fp s H C) tg g ∧ PIf (compCx X pins sc fr Nc fp s H C) ifs tt ∧ PE (compCx X pins sc fr Nc fp s H C) elt te)
    (I2 : Inv X pins σ H2 s) (T : Turn X.prog X.w X.K tg J fp it tn) (st2 : tn 0 s.heap) (f2 : ∀ b ∈ fp, FpOk X pins H2 b) (h : ∀ D, H2 D = none → LCr J caps g tt te σ H2 Q D)
    (fin : ∀ (D C : Addr) (σ' : St) (H' : Hp) (s' : Shared), Inv (compCx X pins sc fr Nc fp s H2 C) [] σ' H' s' → Q (.ref D) H' → RR (.ref D) C (.ok .next) s') :
    wpAny (model X.prog X.w) X.A (newList []) (fun acc s₃ => wpAny (model X.prog X.w) X.A (newFunctionEnv sc X.env.globals (clB X.env fr) [] X.env.qual none .none (some X.env)) (fun cenv s₄ =>
      codeAny (model X.prog X.w) X.A (.compStart (.ListComp elt [⟨tg, iter, ifs, 0⟩] sc pos) 0 (.ref it) acc { cenv with scope := relabel sc X.env }) (RR acc cenv.locals) s₄) E s₃) E s := by
  have hcell : ∀ y ∈ sc.names, y.2 ≠ .cell := fun y hy => by
    have h3 := List.all_eq_true.mp B.names _ hy
    simp only [Bool.and_eq_true, bne_iff_ne, ne_eq] at h3
    exact h3.1.1
  refine wpAny_newObj_type (wpAny_newFunctionEnv hcell (by intro y hy; simp at hy) (fun h₁ hns₁ hsb₁ => ?_) B.kind)
  dsimp only at hns₁ hsb₁ ⊢
  generalize hH2 : s.heap.push { cls := .type "list", dict := none, data := .seq ([] : List Value).toArray } = H3 at hns₁ hsb₁ ⊢
  have hCs : H3.objs.size = s.heap.objs.size + 1 := by rw [← hH2, Heap.size_push]
  have hDC : s.heap.objs.size ≠ H3.objs.size := by rw [hCs]; exact Nat.ne_of_lt (Nat.lt_succ_self _)
  have hC : s.heap.objs.size ≤ H3.objs.size := by rw [hCs]; exact Nat.le_succ _
  have old : ∀ b o, s.heap.get? b = some o → h₁.get? b = some o := fun b o e =>
    hsb₁.extBut b o (Nat.ne_of_lt (Nat.lt_of_lt_of_le (Heap.lt_size e) hC)) (Heap.get?_push_of_some _ (hH2 ▸ Heap.get?_push_of_some _ e))
  have hD : h₁.get? s.heap.objs.size = some { cls := .type "list", data := .seq ([] : List Value).toArray } := hsb₁.extBut _ _ hDC (Heap.get?_push_of_some _ (hH2 ▸ Heap.get?_push_size _ rfl))
  have ho : ∀ b ∈ fp, ∃ o, s.heap.get? b = some o := fun b hb' => let ⟨o, e, _⟩ := T.obj 0 _ st2 b hb'; ⟨o, e⟩
  have I4 : ∀ t', Inv (compCx X pins sc fr Nc fp s H2 H3.objs.size) [] (capS caps σ) (upd H2 s.heap.objs.size (.lst [])) { s with heap := h₁, toks := t' } := fun t' =>
    comp_start I2 B f2 ho hC (Nat.le_refl _) hDC old hD hns₁ hcap hlen
  have ok := (I4 0).ok
  obtain ⟨hbg, hbt, hbe⟩ := hb pins fp s H2 H3.objs.size
  obtain ⟨W, ⟨m0, w0⟩, turn⟩ := h s.heap.objs.size (I2.hok.fresh (Nat.le_refl _))
  have stat : ∀ {H' : Hp}, (∀ b ∈ fp, H' b = none) → ∀ b ∈ fp, FpOk (compCx X pins sc fr Nc fp s H2 H3.objs.size) [] H' b := fun hn b hb' =>
    ⟨hn b hb', (ok.exf b hb').1, ok.exfs b hb', .inl hb', (ok.exf b hb').2, fun p hp => (f2 b hb').2.2.2.2.2 p (by simpa using hp)⟩
  have hfp0 : ∀ b ∈ fp, upd H2 s.heap.objs.size (.lst []) b = none := fun b hb' => by
    obtain ⟨o, e⟩ := ho b hb'
    rw [upd_ne (Nat.ne_of_lt (Heap.lt_size e))]
    exact (f2 b hb').1
  have loop : ∀ s₃ : Shared, s₃ = { s with heap := h₁, toks := s.toks + ([] : List (Str × Value)).length } →
      codeAny (model X.prog X.w) X.A (.compLoop (.ListComp elt [⟨tg, iter, ifs, 0⟩] sc pos) 0 (.ref it) (.ref s.heap.objs.size) (compEnvC sc (clB X.env fr) H3.objs.size X.env)) (RR (.ref s.heap.objs.size) H3.objs.size) s₃ := by
    rintro s₃ rfl
    refine compLoop_any (fun n s' => ∃ i σ' H' ys, Inv (compCx X pins sc fr Nc fp s H2 H3.objs.size) [] σ' H' s' ∧ tn i s'.heap ∧ (∀ b ∈ fp, H' b = none) ∧ W i n ys H' ∧
      (∀ (k : Nat) (v : V), (capS caps σ)[k]? = some (some v) → σ'[k]? = some (some v))) ?_ m0
      ⟨0, _, _, [], I4 _, T.keep _ _ _ st2 (fun b _ o e => old b o e), hfp0, w0, fun _ _ e => e⟩
    rintro n s3 ⟨i, σ3, H4, ys, I3, st3, fr3, w3, wk3⟩
    have I3' : Inv (compCx X pins sc fr Nc fp s H2 H3.objs.size) [] (capS caps σ) H4 s3 := I3.weak (by rw [I3.len]; exact (I4 0).len) wk3
    rcases turn i n ys H4 w3 with ⟨stop, qn⟩ | ⟨gg, step⟩
    · refine thn (T.done (compCx X pins sc fr Nc fp s H2 H3.objs.size) rfl rfl rfl hc i [] s3 _ H4 (fun _ _ => False) I3' (stat fr3) st3 stop) fun r s4 ⟨hr, I4'⟩ => ?_
      subst hr
      exact fin _ _ _ _ _ I4' qn
    · refine thn (T.item (compCx X pins sc fr Nc fp s H2 H3.objs.size) rfl rfl rfl hc i [] s3 _ H4 (fun _ _ => False) I3' (stat fr3) st3 gg) fun r s4 ⟨u, hr, h4⟩ => ?_
      subst hr
      refine thn h4 fun _ s5 ⟨x, H5, I5, r5, y5, st5, fr5⟩ => ?_
      have I5' := I5.pinned (stat fr5) (T.obj _ _ st5)
      refine thn (hbg _ s5 _ H5 x u _ I5' r5 (go _ _ _ _ (step x H5 y5))) fun _ s6 ⟨σ6, H6, I6, q6, l6, k6⟩ => ?_
      have wk6 : ∀ (k : Nat) (v : V), (capS caps σ)[k]? = some (some v) → σ6[k]? = some (some v) := fun k v e => by
        rw [k6 k fun hk => ?_]
        · exact e
        · have h1 := List.all_eq_true.mp how k hk
          have h2 : caps[k]? = some none := by simpa using h1
          unfold capS at e
          rw [List.getElem?_map, h2] at e
          cases e
      refine thn (hbt _ s6 σ6 H6 _ I6 q6) fun ok s7 ⟨H7, I7, q7⟩ => ?_
      have again : ∀ {H8 : Hp} {s8 : Shared} {ys' : List V}, Inv (compCx X pins sc fr Nc fp s H2 H3.objs.size) ([] ++ pinsAt fp s5.heap) σ6 H8 s8 → (∃ m', m' < n ∧ W (i + 1) m' ys' H8) →
          ∃ m, m < n ∧ ∃ i σ' H' ys, Inv (compCx X pins sc fr Nc fp s H2 H3.objs.size) [] σ' H' s8 ∧ tn i s8.heap ∧ (∀ b ∈ fp, H' b = none) ∧ W i m ys H' ∧ (∀ (k : Nat) (v : V), (capS caps σ)[k]? = some (some v) → σ'[k]? = some (some v)) := fun {H8 s8 ys'} I8 ⟨m', hm, w8⟩ => by
        refine ⟨m', hm, i + 1, σ6, H8, ys', I8.unpinned, T.keep _ _ _ st5 fun b hb' o e => (I8.pin (b, o) (List.mem_append_right _ (List.mem_append_right _ (mem_pinsAt hb' e)))).1, fun b hb' => ?_, w8, wk6⟩
        obtain ⟨o, e, d⟩ := T.obj _ _ st5 b hb'
        exact (I8.pin (b, o) (List.mem_append_right _ (List.mem_append_right _ (mem_pinsAt hb' e)))).2.1
      cases ok with
      | false =>
        rw [if_neg Bool.false_ne_true]
        exact again I7 (q7.2 rfl)
      | true =>
        rw [if_pos rfl]
        refine thn (hbe _ s7 σ6 H7 _ I7 (q7.1 rfl)) fun uv s8 ⟨v, H8, I8, r8, hD8, hz, q8⟩ => ?_
        refine thn (mt_append (X := compCx X pins sc fr Nc fp s H2 H3.objs.size) _ s8 σ6 H8 (.ref s.heap.objs.size) [v] _ [uv] (fun _ H' => H' = upd H8 s.heap.objs.size (.lst (ys ++ [v]))) I8 rfl (.cons r8 .nil) ⟨_, ys, v, rfl, rfl, hD8, hz, rfl⟩) fun _ s9 ⟨_, H9, I9, _, e9⟩ => ?_
        subst e9
        exact again I9 q8
  exact codeAny_compStart_list (loop _ rfl) (T.self _ 0 _ _ _ (T.keep _ _ _ st2 (fun b _ o e => old b o e)) (loop _ rfl))
theorem BlockOk.loc {env : Env} (B : BlockOk env sc fr) : ∀ x ∈ sc.names, x.2 = .local → sc.names.lookup x.1 = some .local := fun y hy e => by
  have h3 := List.all_eq_true.mp B.names _ hy
  simp only [Bool.and_eq_true, Bool.or_eq_true, bne_iff_ne, ne_eq, beq_iff_eq] at h3
  rcases h3.2 with z | z
  · exact absurd e z
  · exact z
theorem pe_lc {wi : TI} (fr Nc : List Str) (caps : List (Option Nat)) (hc : X.calm = true) (B : BlockOk X.env sc fr) (hi : PI X tg iter wi) (go : GOwn g ow) (how : (ow.all fun i => caps[i]? == some none) = true)
    (hcap : capChk X.N Nc caps X.env sc fr = true) (hlen : caps.length = Nc.length)
    (hb : ∀ (pins : List (Addr × Obj)) (fp : List Addr) (s : Shared) (H : Hp) (C : Addr), PG (compCx X pins sc fr Nc fp s H C) tg g ∧ PIf (compCx X pins sc fr Nc fp s H C) ifs tt ∧ PE (compCx X pins sc fr Nc fp s H C) elt te)
    (hs : ∀ x, foldedSetIterable iter X.env x = pure x := by intro _; rfl) : PE X (.ListComp elt [⟨tg, iter, ifs, 0⟩] sc pos) (tLC wi caps g tt te) := by
  refine ⟨?_⟩
  intro pins s σ H Q I h
  rw [eval_ListComp]
  refine wpAny_comprehension_free (use := none) rfl hs B.clos B.kind B.loc (thn (hi pins s σ H _ I h) fun v s1 h1 => thn h1 fun itv s2 h2 => ?_)
  obtain ⟨it, fp, tn, J, H2, e, I2, T, st2, f2, q⟩ := h2
  subst e
  refine comp_run (RR := fun acc C => compPost (model X.prog X.w) X.A X.xe none (EP X pins σ Q) acc C) hc B go how hcap hlen hb I2 T st2 f2 q ?_
  intro D C σ' H' s' J' qq
  obtain ⟨m, hn, _⟩ := J'.loc
  exact ⟨m, hn, fun h' hs' => ⟨.ref D, H', comp_gone I2 J' (comp_back I2 f2 J') hs', rfl, qq⟩⟩
/-- x = [..] on one row: the store comes ahead of the block's end -/
theorem ps_lc {wi : TI} {i : Nat} {x : Str} {pos' : Pos} (fr Nc : List Str) (caps : List (Option Nat)) (hN : X.N.Nodup) (hix : X.N[i]? = some x) (hx : Loc X.env.scope x) (hc : X.calm = true) (B : BlockOk X.env sc fr) (hi : PI X tg iter wi) (go : GOwn g ow) (how : (ow.all fun i => caps[i]? == some none) = true)
    (hcap : capChk X.N Nc caps X.env sc fr = true) (hlen : caps.length = Nc.length)
    (hb : ∀ (pins : List (Addr × Obj)) (fp : List Addr) (s : Shared) (H : Hp) (C : Addr), PG (compCx X pins sc fr Nc fp s H C) tg g ∧ PIf (compCx X pins sc fr Nc fp s H C) ifs tt ∧ PE (compCx X pins sc fr Nc fp s H C) elt te)
    (hsw : swapsWith (.ListComp elt [⟨tg, iter, ifs, 0⟩] sc pos) (some (.Name x pos')) pos2.line X.env = pure true := by rfl)
    (hs : ∀ x, foldedSetIterable iter X.env x = pure x := by intro _; rfl) (hf : X.fn x = true ∨ X.env.scope.names.lookup x = some .local := by first | exact .inl rfl | exact .inr rfl | assumption) :
    PS X (.Assign [.Name x pos'] (.ListComp elt [⟨tg, iter, ifs, 0⟩] sc pos) pos2) (tAsg (tLC wi caps g tt te) (gName i)) := by
  refine ⟨?_⟩
  intro pins s σ H D0 I h
  rw [exec_Assign_Name_used _ _ _ _ hsw]
  refine wpAny_bind (wpAny_standAt (wpAny_bind ?_))
  show wpAny _ X.A (do let _ ← comprehension (.ListComp elt [⟨tg, iter, ifs, 0⟩] sc pos) sc X.env _ (newList []) false (eval iter X.env) (some (assign (.Name x pos') X.env))) _ _ s
  refine wpAny_bind (wpAny_mono (wpAny_comprehension_free (use := some (assign (.Name x pos') X.env)) (Q := fun _ s' => SP X pins D0 .next s') rfl hs B.clos B.kind B.loc
    (thn (hi pins s σ H _ I h) fun v s1 h1 => thn h1 fun itv s2 h2 => ?_)) (fun _ s' hq => wpAny_pure (wpAny_pure hq)) fun _ _ e => e)
  obtain ⟨it, fp, tn, J, H2, e, I2, T, st2, f2, q⟩ := h2
  subst e
  refine comp_run (Q := fun v H1 => gName i v σ H1 D0.nx) (RR := fun acc C => compPost (model X.prog X.w) X.A X.xe (some (assign (.Name x pos') X.env)) (fun _ s' => SP X pins D0 .next s') acc C) hc B go how hcap hlen hb I2 T st2 f2 q ?_
  intro D C σ' H' s' J' qq
  have I' := comp_back I2 f2 J'
  obtain ⟨m, hn, _⟩ := J'.loc
  have hC : s2.heap.objs.size ≤ C := J'.ok.above
  show wpAny _ X.A (assign (.Name x pos') X.env (.ref D)) _ _ s'
  refine wpAny_assign_Name (store_ok2 (v := .ref D) I' hN hix hx rfl (fun s'' I'' ⟨a, sb, ha⟩ => ?_) hf)
  have haC : C ≠ a := by
    rintro rfl
    rcases ha with z | z
    · have := I2.lt
      rw [← z] at this
      exact absurd (Nat.lt_of_lt_of_le this hC) (Nat.lt_irrefl _)
    · obtain ⟨v, hv⟩ := I2.cell x C z
      exact absurd (Nat.lt_of_lt_of_le hv.lt hC) (Nat.lt_irrefl _)
  have hCH : H' C = none := J'.free
  refine ⟨m, hn.sameBut sb haC, fun h' hs' => ⟨_, H', ?_, qq⟩⟩
  refine I''.turned (it := C) (t' := s''.toks) (fun b o hb e => (hs'.2 b hb).trans e) hCH ?_ (.inr (Nat.le_trans I2.sz hC)) (fun x c h z => ?_) fun p hp z => ?_
  · intro z
    have := I2.lt
    rw [← z] at this
    exact absurd (Nat.lt_of_lt_of_le this hC) (Nat.lt_irrefl _)
  · obtain ⟨v, hv⟩ := I2.cell x c h
    have := hv.lt
    rw [z] at this
    exact absurd (Nat.lt_of_lt_of_le this hC) (Nat.lt_irrefl _)
  · have := I2.pin_lt hp
    rw [z] at this
    exact absurd (Nat.lt_of_lt_of_le this hC) (Nat.lt_irrefl _)
end
end L2

set_option Elab.async false
set_option linter.all false
set_option maxRecDepth 100000
set_option maxHeartbeats 4000000
namespace L2
open PySem PySem.Spec PyProof.Rows

/-! ### the signs of a text -/
def Its (z : Str) : It := ⟨fun i _ => i < z.cps.size, fun i H x H' => H' = H ∧ ∃ c, z.cps[i]? = some c ∧ x = .str ⟨#[c]⟩, fun i _ => z.cps.size ≤ i⟩
theorem turn_str {P : Program} {w : World} {K : PySem.W.Frag} {tg : Expr} (it : Addr) (z : Str) (t : Tok) : Turn P w K tg (Its z) [it] it (fun i h => h.IsStrIter it (strIterType z) z t i) where
  mem := by simp
  obj := fun i h st b hb => by
    have e : b = it := by simpa using hb
    subst e
    obtain ⟨o, e, _, d⟩ := st
    exact ⟨o, e, fun v q => by rw [d] at q; cases q⟩
  keep := fun i h h' st k => by
    obtain ⟨o, e, r⟩ := st
    exact ⟨o, k it (by simp) o e, r⟩
  item := by
    intro X hP hw hK hc i pins s σ H E I hf st hg
    subst hP hw hK
    obtain ⟨f0, f1, f2, f3, f4, f5⟩ := hf it (by simp)
    have hi : i < z.cps.size := hg
    have hx : z.cps[i]? = some z.cps[i] := by simp [hi]
    have fin : ∀ h', h'.IsStrIter it (strIterType z) z t (i + 1) → Heap.SameBut it s.heap h' →
        ∃ u, some (Value.str ⟨#[z.cps[i]]⟩ s.toks) = some u ∧ wpAny (model X.prog X.w) X.A (letOwnedTupleGo tg (.ref it) u) (fun _ s2 => ∃ x H', Inv X pins σ H' s2 ∧ RelV x u ∧ (Its z).yld i H x H' ∧ s2.heap.IsStrIter it (strIterType z) z t (i + 1) ∧ ∀ b ∈ [it], H' b = none) E { s with heap := h', toks := s.toks + 1 } := fun h' hit hs => by
      have I1 : Inv X pins σ H { s with heap := h', toks := s.toks + 1 } := I.turned (fun b o hb e => (hs.2 b hb).trans e) f0 f1 f3 f4 f5
      obtain ⟨o, e1, e2, e3⟩ := id hit
      refine ⟨_, rfl, go_of (s := { s with heap := h', toks := s.toks + 1 }) e1 e2 e3 ?_ ⟨.str ⟨#[z.cps[i]]⟩, H, I1, ⟨_, rfl⟩, ⟨rfl, _, hx, rfl⟩, hit, fun b hb => (hf b hb).1⟩⟩
      unfold strIterType
      split <;> decide
    cases ha : z.cps.all (· < 128)
    · have e : strIterType z = "str_iterator" := by simp [strIterType, ha]
      rw [e] at st
      exact wpAny_pyNext_wide_item st hx fun h' a b => fin h' (e.symm ▸ a) b
    · have e : strIterType z = "str_ascii_iterator" := by simp [strIterType, ha]
      rw [e] at st
      exact wpAny_pyNext_ascii_item st hx fun h' a b => fin h' (e.symm ▸ a) b
  done := by
    intro X hP hw hK hc i pins s σ H E I hf st hg
    subst hP hw hK
    obtain ⟨f0, f1, f2, f3, f4, f5⟩ := hf it (by simp)
    have hi : z.cps.size ≤ i := hg
    have hx : z.cps[i]? = none := by simp [hi]
    have fin : ∀ h', Heap.ExtBut it s.heap h' → (none : Option Value) = none ∧ Inv X pins σ H { s with heap := h' } := fun h' eb => ⟨rfl, I.turned (t' := s.toks) (fun b o hb e => eb b o hb e) f0 f1 f3 f4 f5⟩
    cases ha : z.cps.all (· < 128)
    · have e : strIterType z = "str_iterator" := by simp [strIterType, ha]
      rw [e] at st
      exact wpAny_pyNext_wide_end (I.ok.hd hc) st hx fin
    · have e : strIterType z = "str_ascii_iterator" := by simp [strIterType, ha]
      rw [e] at st
      exact wpAny_pyNext_ascii_end (I.ok.hd hc) st hx fin
  self := fun A i s Q E st h => by
    cases ha : z.cps.all (· < 128)
    · have e : strIterType z = "str_iterator" := by simp [strIterType, ha]
      rw [e] at st
      exact wpAny_pyIter_striter_wide st h
    · have e : strIterType z = "str_ascii_iterator" := by simp [strIterType, ha]
      rw [e] at st
      exact wpAny_pyIter_striter_ascii st h
section
variable {X : Cx} {tg : Expr}
def iStr (tl : TE) : TI := fun σ H R => tl σ H fun x H1 => ∃ z, x = .str z ∧ R (Its z) H1
theorem pi_str {l : Expr} {tl : TE} (hl : PE X l tl) : PI X tg l (iStr tl) := by
  refine ⟨?_⟩
  intro pins s σ H R I h
  refine thn (hl pins s σ H _ I h) fun v s1 ⟨x, H1, I1, r1, q1⟩ => ?_
  obtain ⟨z, e, q⟩ := q1
  subst e
  obtain ⟨t, rfl⟩ := r1
  refine wpAny_pyIter_strU ?_
  refine ⟨s1.heap.objs.size, [s1.heap.objs.size], _, _, H1, rfl, I1.kept (t' := s1.toks) fun b o e => Heap.get?_push_of_some _ e, turn_str _ z t, ⟨_, Heap.get?_push_size _ rfl, rfl, rfl⟩, fun b hb => ?_, q⟩
  have e : b = s1.heap.objs.size := by simpa using hb
  subst e
  exact I1.fpOk (Nat.le_refl _) (I1.hok.fresh (Nat.le_refl _))

/-! ### t[lo:hi] of a text -/
def rSlS : V → Option Int → Option Int → Hp → VK → Prop := fun x lo hi H Q => ∃ z, x = .str z ∧ z.length ≤ sizeLine ∧ Q (.str (Txt.slice z lo hi)) H
theorem sl_str : SlR X rSlS := by
  intro pins s σ H x v vl vu lo hi sl Q I rx hs pl pu h
  obtain ⟨z, rfl, hz, q⟩ := h
  obtain ⟨t, rfl⟩ := rx
  refine ⟨"str", _, F.slot_str_getitem.lookup, typeIs_str _ _ _, ?_⟩
  have fin : ∀ t' k, EP X pins σ Q (.str (Txt.slice z lo hi) t') { s with toks := k } := fun t' k => ⟨.str (Txt.slice z lo hi), H, I.tok k, ⟨t', rfl⟩, q⟩
  cases pl with
  | none =>
    cases pu with
    | none => exact wpAny_getItem_str_slice (l := none) (u := none) (st := none) hs rfl (post_val_or_str ⟨Nat.le_trans (Txt.slice_le z _ _) hz, fin⟩)
    | int j tj => exact wpAny_getItem_str_slice (l := none) (u := some (j, tj)) (st := none) hs rfl (post_val_or_str ⟨Nat.le_trans (Txt.slice_le z _ _) hz, fin⟩)
  | int i ti =>
    cases pu with
    | none => exact wpAny_getItem_str_slice (l := some (i, ti)) (u := none) (st := none) hs rfl (post_val_or_str ⟨Nat.le_trans (Txt.slice_le z _ _) hz, fin⟩)
    | int j tj => exact wpAny_getItem_str_slice (l := some (i, ti)) (u := some (j, tj)) (st := none) hs rfl (post_val_or_str ⟨Nat.le_trans (Txt.slice_le z _ _) hz, fin⟩)

/-! ### all(xs), a list of bools -/
theorem call_allB (hc : X.calm = true) : CallR X (.builtin "all") (fun xs H Q => ∃ (p : Addr) (bs : List Bool), xs = [.ref p] ∧ SqL X.K H p (bs.map V.bl) ∧ Q (.bl (bs.all id)) H) := by
  intro pins s σ H xs us Q I r h
  obtain ⟨p, bs, rfl, hS, q⟩ := h
  obtain ⟨u, rfl, ru⟩ := vals1 r
  cases ru
  obtain ⟨its, rv, hp, hz⟩ := I.list hS
  have hlen : its.length = bs.length := by rw [← rv.length, List.length_map]
  have hne : p ≠ s.heap.objs.size := Nat.ne_of_lt (by obtain ⟨_, e, _⟩ := hp.isList; exact Heap.lt_size e)
  refine call_all_walk (wpAny_pyIter_list hp.isList ?_)
  refine ⟨s.heap.objs.size, _, _, _, _, _, fun i => bs.getD i false, rfl, Walks.list (A := X.A.in1) (I.ok.hd hc) s.heap.objs.size p hne its.toArray, ⟨⟨_, Heap.get?_push_size _ rfl, rfl, rfl⟩, hp.isList.push _⟩, ?_, fun h' tk k => ?_⟩
  · intro i v s' Q' E' hP hQ
    have hv : its[i]? = some v := by simpa using hP
    have hi : i < bs.length := by rw [← hlen]; exact (List.getElem?_eq_some_iff.mp hv).1
    obtain ⟨u', e1, e2⟩ := rv.get (i := i) (x := V.bl bs[i]) (by rw [List.getElem?_map, List.getElem?_eq_getElem hi]; rfl)
    rw [hv] at e1
    cases e1
    cases e2
    refine wpAny_truthy_bool ?_
    have : bs.getD i false = bs[i] := by rw [List.getD_eq_getElem?_getD, List.getElem?_eq_getElem hi]; rfl
    rw [← this]
    exact hQ
  · have e : ((List.range its.toArray.size).all fun i => bs.getD i false) = bs.all id := by
      rw [List.size_toArray, hlen, Bool.eq_iff_iff, List.all_eq_true, List.all_eq_true]
      constructor
      · intro hh b hb
        obtain ⟨i, hi, rfl⟩ := List.getElem_of_mem hb
        have := hh i (List.mem_range.mpr hi)
        rw [List.getD_eq_getElem?_getD, List.getElem?_eq_getElem hi] at this
        exact this
      · intro hh i hi
        have hi' := List.mem_range.mp hi
        rw [List.getD_eq_getElem?_getD, List.getElem?_eq_getElem hi']
        exact hh _ (List.getElem_mem hi')
    rw [e]
    exact ⟨.bl (bs.all id), H, I.kept (h' := h') (t' := tk) (fun b o q => k b o (fun hm => by
      have e : b = s.heap.objs.size := by simpa using hm
      exact absurd (Heap.lt_size q) (by rw [e]; exact Nat.lt_irrefl _)) (Heap.get?_push_of_some _ q)), rfl, q⟩

/-! ### str.upper -/
/-! ### is, is not a written truth -/
/-! ### isinstance(x, T) -/
theorem call_isinst : CallR X (.builtin "isinstance") (fun xs H Q => ∃ x T t b, xs = [x, .ty T] ∧ TyOf X.K H x t ∧ PySem.W.kitOne X.K t (.type T) = some b ∧ Q (.bl b) H) := by
  intro pins s σ H xs us Q I r h
  obtain ⟨x, T, t, b, rfl, ty, e, q⟩ := h
  obtain ⟨u, w', rfl, ru, rw'⟩ := vals2 r
  cases rw'
  exact isinst_ok I ru ty e fun tk => ⟨.bl b, H, I.tok tk, rfl, q⟩
end
end L2

set_option Elab.async false
set_option linter.all false
set_option maxRecDepth 100000
set_option maxHeartbeats 4000000
namespace L2
open PySem PySem.Spec PyProof.Rows

/-! ### argument lists without stars, by their heads alone -/
def isSt : Expr → Bool
  | .Starred .. => true
  | _ => false
theorem star_cons {e : Expr} {es : List Expr} {env : Env} (h : isSt e = false) : starEach (e :: es) env = (false, eval e env) :: starEach es env := by
  cases e <;> first | rfl | cases h
theorem star_any {env : Env} {pos : Pos} : ∀ {es : List Expr}, es.any isSt = false → (backTo pos (starEach es env)).any (·.1) = false
  | [], _ => rfl
  | e :: es, h => by
    rw [List.any_cons, Bool.or_eq_false_iff] at h
    rw [star_cons h.1]
    show (false || (backTo pos (starEach es env)).any (·.1)) = false
    rw [star_any h.2]
    rfl
section
variable {X : Cx} {CX : CXT} {k : Nat} {f C : Addr} {fd : FuncData} {ps : List Str} {sp : Sp} {dvs : List V} {ds : List Value} {E : XK} {x m : Str} {p pos apos : Pos} {e o : Expr} {es : List Expr} {te ta : TE} {t : TA} {id T : String} {r : List V → Hp → VK → Prop}
theorem ac (ha : PE X e te) (hr : PA X es t) (h : isSt e = false := by rfl) : PA X (e :: es) (tCons te t) := pa_cons ha hr (star_cons h)
theorem cB (hc : CallR X (.builtin id) r) (hm : X.mg x = none) (hv : bootBuiltins x = some (.builtin id)) (ha : PA X (e :: es) t) (hg : Gl X x := by rfl) (hn : x ≠ "__name__" := by decide) (hdb : (x == ("__debug__" : Str)) = false := by decide)
    (h1 : isSt e = false := by rfl) (h2 : es.any isSt = false := by rfl) : PE X (.Call (.Name x p) (e :: es) [] pos) (tCB r t) := pe_callB hc hg hm hv ha hn hdb (star_cons h1) (star_any h2)
theorem cTy (hc : CallR X (.type T) r) (hm : X.mg x = none) (hv : bootBuiltins x = some (.type T)) (ha : PA X (e :: es) t) (hg : Gl X x := by rfl) (hn : x ≠ "__name__" := by decide) (hdb : (x == ("__debug__" : Str)) = false := by decide)
    (h1 : isSt e = false := by rfl) (h2 : es.any isSt = false := by rfl) : PE X (.Call (.Name x p) (e :: es) [] pos) (tCB r t) := pe_callTy hc hg hm hv ha hn hdb (star_cons h1) (star_any h2)
/-- a def of the text as callers have it -/
structure Callee (P : Program) (w : World) (K : PySem.W.Frag) (mg : Str → Option Value) (base : Heap) (k : Nat) (x : Str) (f : Addr) (fd : FuncData) (ps : List Str) (sp : Sp) : Prop where
  ok : FnOk P w K mg base CX0 k f fd ps sp
  mg : mg x = some (.ref f)
  kp : PySem.W.keepIn K (.ref f) = true
  bd : Binds K fd ps []
theorem cF (c : Callee X.prog X.w X.K X.mg X.base k x f fd ps sp) (hr : Room k X.A) (ha : PA X (e :: es) t) (hg : Gl X x := by rfl) (hdb : (x == ("__debug__" : Str)) = false := by decide)
    (h1 : isSt e = false := by rfl) (h2 : es.any isSt = false := by rfl) : PE X (.Call (.Name x p) (e :: es) [] pos) (tCall sp [] E0 t) :=
  pe_call c.ok hr hg c.mg c.kp c.bd .nil pass0 ha hdb (star_cons h1) (star_any h2)
end
end L2

set_option maxRecDepth 100000
set_option maxHeartbeats 4000000
namespace L2
open PySem PyProof.Rows
/-! ### isinstance of built-in kinds -/
theorem kt_NoneType_str (K : PySem.W.Frag) : PySem.W.kitOne K (.type "NoneType") (.type "str") = some false := by kernel_rfl
theorem kt_int_str (K : PySem.W.Frag) : PySem.W.kitOne K (.type "int") (.type "str") = some false := by kernel_rfl
theorem kt_int_int (K : PySem.W.Frag) : PySem.W.kitOne K (.type "int") (.type "int") = some true := by kernel_rfl
theorem kt_bool_str (K : PySem.W.Frag) : PySem.W.kitOne K (.type "bool") (.type "str") = some false := by kernel_rfl
theorem kt_bool_bool (K : PySem.W.Frag) : PySem.W.kitOne K (.type "bool") (.type "bool") = some true := by kernel_rfl
theorem kt_str_str (K : PySem.W.Frag) : PySem.W.kitOne K (.type "str") (.type "str") = some true := by kernel_rfl
theorem kt_list_str (K : PySem.W.Frag) : PySem.W.kitOne K (.type "list") (.type "str") = some false := by kernel_rfl
theorem kt_list_list (K : PySem.W.Frag) : PySem.W.kitOne K (.type "list") (.type "list") = some true := by kernel_rfl
theorem kt_tuple_str (K : PySem.W.Frag) : PySem.W.kitOne K (.type "tuple") (.type "str") = some false := by kernel_rfl
theorem kt_tuple_tuple (K : PySem.W.Frag) : PySem.W.kitOne K (.type "tuple") (.type "tuple") = some true := by kernel_rfl
theorem kt_dict_str (K : PySem.W.Frag) : PySem.W.kitOne K (.type "dict") (.type "str") = some false := by kernel_rfl
end L2

set_option Elab.async false
set_option linter.all false
set_option maxRecDepth 100000
set_option maxHeartbeats 4000000
namespace L2
open PySem PySem.Spec PyProof.Rows

/-! ### data: what a value says, lists and tuples within -/
inductive Dt where
  | non | bl (b : Bool) | int (i : Int) | str (z : Str) | tup (ds : List Dt) | lst (ds : List Dt)
def FlatD : V → Dt → Prop
  | .non, .non => True
  | .bl a, .bl b => a = b
  | .int a, .int b => a = b
  | .str a, .str b => a = b
  | _, _ => False
/-- at most n deep; the lists within stand at addresses that are ok -/
def Says (K : PySem.W.Frag) (ok : Addr → Prop) (H : Hp) : Nat → V → Dt → Prop
  | 0, x, d => FlatD x d
  | n + 1, x, d => FlatD x d ∨ (∃ a xs ds, x = .ref a ∧ d = .tup ds ∧ SqT K H a xs ∧ Paired (Says K ok H n) xs ds) ∨ (∃ a xs ds, x = .ref a ∧ d = .lst ds ∧ ok a ∧ H a = some (.lst xs) ∧ Paired (Says K ok H n) xs ds)
section
variable {K : PySem.W.Frag} {ok ok' : Addr → Prop} {H H' : Hp}
theorem Says.flat {n : Nat} {x : V} {d : Dt} (h : FlatD x d) : Says K ok H n x d := by
  cases n with
  | zero => exact h
  | succ n => exact .inl h
theorem Says.int {n : Nat} {i : Int} : Says K ok H n (.int i) (.int i) := .flat rfl
theorem Says.str {n : Nat} {z : Str} : Says K ok H n (.str z) (.str z) := .flat rfl
theorem Says.bl {n : Nat} {b : Bool} : Says K ok H n (.bl b) (.bl b) := .flat rfl
theorem Says.tup {n : Nat} {a : Addr} {xs : List V} {ds : List Dt} (h : SqT K H a xs) (r : Paired (Says K ok H n) xs ds) : Says K ok H (n + 1) (.ref a) (.tup ds) := .inr (.inl ⟨a, xs, ds, rfl, rfl, h, r⟩)
theorem Says.lst {n : Nat} {a : Addr} {xs : List V} {ds : List Dt} (o : ok a) (h : H a = some (.lst xs)) (r : Paired (Says K ok H n) xs ds) : Says K ok H (n + 1) (.ref a) (.lst ds) := .inr (.inr ⟨a, xs, ds, rfl, rfl, o, h, r⟩)
/-- what is kept stays said -/
theorem Says.frame (hT : ∀ a xs, SqT K H a xs → SqT K H' a xs) (hL : ∀ a xs, ok a → H a = some (.lst xs) → ok' a ∧ H' a = some (.lst xs)) : ∀ {n : Nat} {x : V} {d : Dt}, Says K ok H n x d → Says K ok' H' n x d
  | 0, _, _, h => h
  | n + 1, x, d, h => by
    rcases h with h | ⟨a, xs, ds, e1, e2, h, r⟩ | ⟨a, xs, ds, e1, e2, o, h, r⟩
    · exact .inl h
    · exact .inr (.inl ⟨a, xs, ds, e1, e2, hT a xs h, Paired.imp' (fun _ _ z => Says.frame hT hL z) r⟩)
    · exact .inr (.inr ⟨a, xs, ds, e1, e2, (hL a xs o h).1, (hL a xs o h).2, Paired.imp' (fun _ _ z => Says.frame hT hL z) r⟩)
theorem Same.sqT {a : Addr} {xs : List V} (e : Same H H') (h : SqT K H a xs) : SqT K H' a xs := by
  rcases h with (h | ⟨o, h⟩) | h
  · exact .inl (.inl (e _ _ h))
  · exact .inl (.inr ⟨o, e _ _ h⟩)
  · exact .inr h
theorem Says.same {n : Nat} {x : V} {d : Dt} (e : Same H H') (h : Says K ok H n x d) : Says K ok H' n x d := h.frame (fun _ _ z => e.sqT z) fun _ _ o z => ⟨o, e _ _ z⟩
theorem Paired.get {α β : Type} {F : α → β → Prop} : ∀ {l₁ : List α} {l₂ : List β} {i : Nat} {a : α}, Paired F l₁ l₂ → l₁[i]? = some a → ∃ b, l₂[i]? = some b ∧ F a b
  | _, _, _, _, .nil, e => by simp at e
  | _, _, 0, _, .cons r _, e => by simp at e; subst e; exact ⟨_, rfl, r⟩
  | _, _, i + 1, a, .cons _ t, e => by
    obtain ⟨b, h1, h2⟩ := Paired.get (i := i) (a := a) t (by simpa using e)
    exact ⟨b, by simpa using h1, h2⟩
end
section
variable {X : Cx} {pins : List (Addr × Obj)} {σ : St} {H : Hp} {s : Shared} {ok ok' : Addr → Prop}
theorem flat_same {A : Around} {x y : V} {d : Dt} {u v : Value} (hx : FlatD x d) (hy : FlatD y d) (ru : RelV x u) (rv : RelV y v) : SeqAt.EqAt A s u v true := by
  cases d with
  | non =>
    cases x <;> try exact hx.elim
    cases y <;> try exact hy.elim
    cases ru; cases rv; exact SeqAt.EqAt.same _
  | bl b =>
    cases x <;> try exact hx.elim
    cases y <;> try exact hy.elim
    rename_i a c
    obtain rfl : a = b := hx
    obtain rfl : c = a := hy
    cases ru; cases rv; exact SeqAt.EqAt.same _
  | int b =>
    cases x <;> try exact hx.elim
    cases y <;> try exact hy.elim
    rename_i a c
    obtain rfl : a = b := hx
    obtain rfl : c = a := hy
    obtain ⟨t, rfl⟩ := ru
    obtain ⟨t', rfl⟩ := rv
    have := SeqAt.EqAt.int_int (A := A) (s := s) c t c t'
    simpa using this
  | str b =>
    cases x <;> try exact hx.elim
    cases y <;> try exact hy.elim
    rename_i a c
    obtain rfl : a = b := hx
    obtain rfl : c = a := hy
    obtain ⟨t, rfl⟩ := ru
    obtain ⟨t', rfl⟩ := rv
    have := SeqAt.EqAt.str_str (A := A) (s := s) c t c t'
    simpa using this
  | tup ds => cases x <;> exact hx.elim
  | lst ds => cases x <;> exact hx.elim
theorem flat_ref {a : Addr} {d : Dt} (h : FlatD (.ref a) d) : False := by cases d <;> exact h
theorem all_true (n : Nat) : ((List.range n).all fun _ => true) = true := by rw [List.all_eq_true]; intro _ _; rfl
/-- two values that say the same are equal -/
theorem eqAt_same (I : Inv X pins σ H s) : ∀ (n : Nat) {A : Around} {x y : V} {d : Dt} {u v : Value}, Says X.K ok H n x d → Says X.K ok' H n y d → RelV x u → RelV y v → A.units + n < cLine → SeqAt.EqAt A s u v true
  | 0, A, x, y, d, u, v, hx, hy, ru, rv, _ => flat_same hx hy ru rv
  | n + 1, A, x, y, d, u, v, hx, hy, ru, rv, hu => by
    have hin : A.in1.units + n < cLine := by show A.units + 1 + n < cLine; omega
    rcases hx with hx | ⟨a, xs, ds, rfl, rfl, hx, r⟩ | ⟨a, xs, ds, rfl, rfl, _, hx, r⟩
    · rcases hy with hy | ⟨b, ys, es, rfl, rfl, hy, q⟩ | ⟨b, ys, es, rfl, rfl, _, hy, q⟩
      · exact flat_same hx hy ru rv
      · cases x <;> exact hx.elim
      · cases x <;> exact hx.elim
    · rcases hy with hy | ⟨b, ys, es, rfl, e2, hy, q⟩ | ⟨b, ys, es, rfl, e2, _, hy, q⟩
      · cases y <;> exact hy.elim
      · cases e2
        cases ru; cases rv
        by_cases hab : a = b
        · subst hab; exact SeqAt.EqAt.same _
        · obtain ⟨ia, va, pa, _⟩ := I.tuple hx
          obtain ⟨ib, vb, pb, _⟩ := I.tuple hy
          have la : ia.length = ds.length := by rw [← va.length, r.length]
          have lb : ib.length = ds.length := by rw [← vb.length, q.length]
          have := SeqAt.RcAt.tuples (A := A) (s := s) (e := fun _ => true) (show s.heap.IsTuple a ia.toArray from pa) (show s.heap.IsTuple b ib.toArray from pb) (by omega) (fun j h1 h2 => by
            have j1 : j < ia.length := by simpa using h1
            have j2 : j < ib.length := by simpa using h2
            have hxl : j < xs.length := by rw [va.length]; exact j1
            have hyl : j < ys.length := by rw [vb.length]; exact j2
            obtain ⟨u', e1, e2⟩ := va.get (i := j) (List.getElem?_eq_getElem hxl)
            obtain ⟨v', e3, e4⟩ := vb.get (i := j) (List.getElem?_eq_getElem hyl)
            obtain ⟨d1, f1, f2⟩ := Paired.get r (List.getElem?_eq_getElem hxl)
            obtain ⟨d2, f3, f4⟩ := Paired.get q (List.getElem?_eq_getElem hyl)
            rw [f1] at f3
            cases f3
            rw [List.getElem?_eq_getElem j1] at e1
            rw [List.getElem?_eq_getElem j2] at e3
            cases e1; cases e3
            simpa using eqAt_same I n f2 f4 e2 e4 hin)
          rw [all_true] at this
          have z : (ia.toArray.size == ib.toArray.size) = true := by simp [la, lb]
          rw [z] at this
          exact SeqAt.EqAt.of_refs hab this
      · cases e2
    · rcases hy with hy | ⟨b, ys, es, rfl, e2, hy, q⟩ | ⟨b, ys, es, rfl, e2, _, hy, q⟩
      · cases y <;> exact hy.elim
      · cases e2
      · cases e2
        cases ru; cases rv
        by_cases hab : a = b
        · subst hab; exact SeqAt.EqAt.same _
        · obtain ⟨ia, va, pa, _⟩ := I.list (SqL.of hx)
          obtain ⟨ib, vb, pb, _⟩ := I.list (SqL.of hy)
          have la : ia.length = ds.length := by rw [← va.length, r.length]
          have lb : ib.length = ds.length := by rw [← vb.length, q.length]
          have := SeqAt.RcAt.lists (A := A) (s := s) (e := fun _ => true) pa.isList pb.isList (by simp [la, lb]) (by omega) (fun j h1 h2 => by
            have j1 : j < ia.length := by simpa using h1
            have j2 : j < ib.length := by simpa using h2
            have hxl : j < xs.length := by rw [va.length]; exact j1
            have hyl : j < ys.length := by rw [vb.length]; exact j2
            obtain ⟨u', e1, e2⟩ := va.get (i := j) (List.getElem?_eq_getElem hxl)
            obtain ⟨v', e3, e4⟩ := vb.get (i := j) (List.getElem?_eq_getElem hyl)
            obtain ⟨d1, f1, f2⟩ := Paired.get r (List.getElem?_eq_getElem hxl)
            obtain ⟨d2, f3, f4⟩ := Paired.get q (List.getElem?_eq_getElem hyl)
            rw [f1] at f3
            cases f3
            rw [List.getElem?_eq_getElem j1] at e1
            rw [List.getElem?_eq_getElem j2] at e3
            cases e1; cases e3
            simpa using eqAt_same I n f2 f4 e2 e4 hin)
          rw [all_true] at this
          exact SeqAt.EqAt.of_refs hab this
end
end L2

set_option Elab.async false
set_option linter.all false
set_option maxRecDepth 100000
set_option maxHeartbeats 4000000
namespace L2
open PySem PySem.Spec PyProof.Rows
/-! ### == and != of two objects that say the same -/
section
variable {X : Cx} {pins : List (Addr × Obj)} {σ : St} {H : Hp} {s : Shared} {ok ok' : Addr → Prop}
theorem rc_same (I : Inv X pins σ H s) {n : Nat} {A : Around} {a b : Addr} {d : Dt} (hx : Says X.K ok H (n + 1) (.ref a) d) (hy : Says X.K ok' H (n + 1) (.ref b) d) (hu : A.units + n + 1 < cLine) :
    SeqAt.RcAt A s (.ref a) (.ref b) true ∧ SeqAt.RcNeAt A s (.ref a) (.ref b) false := by
  have hin : A.in1.units + n < cLine := by show A.units + 1 + n < cLine; omega
  rcases hx with hx | ⟨a, xs, ds, e0, rfl, hx, r⟩ | ⟨a, xs, ds, e0, rfl, _, hx, r⟩
  · exact (flat_ref hx).elim
  · cases e0
    rcases hy with hy | ⟨b, ys, es, e1, e2, hy, q⟩ | ⟨b, ys, es, e1, e2, _, hy, q⟩
    · exact (flat_ref hy).elim
    · cases e1; cases e2
      obtain ⟨ia, va, pa, _⟩ := I.tuple hx
      obtain ⟨ib, vb, pb, _⟩ := I.tuple hy
      have la : ia.length = ds.length := by rw [← va.length, r.length]
      have lb : ib.length = ds.length := by rw [← vb.length, q.length]
      have el : ∀ j (h1 : j < ia.toArray.size) (h2 : j < ib.toArray.size), SeqAt.EqAt A.in1 s ia.toArray[j] ib.toArray[j] true := fun j h1 h2 => by
        have j1 : j < ia.length := by simpa using h1
        have j2 : j < ib.length := by simpa using h2
        have hxl : j < xs.length := by rw [va.length]; exact j1
        have hyl : j < ys.length := by rw [vb.length]; exact j2
        obtain ⟨u', e1, e2⟩ := va.get (i := j) (List.getElem?_eq_getElem hxl)
        obtain ⟨v', e3, e4⟩ := vb.get (i := j) (List.getElem?_eq_getElem hyl)
        obtain ⟨d1, f1, f2⟩ := Paired.get r (List.getElem?_eq_getElem hxl)
        obtain ⟨d2, f3, f4⟩ := Paired.get q (List.getElem?_eq_getElem hyl)
        rw [f1] at f3
        cases f3
        rw [List.getElem?_eq_getElem j1] at e1
        rw [List.getElem?_eq_getElem j2] at e3
        cases e1; cases e3
        simpa using eqAt_same I n f2 f4 e2 e4 hin
      have z : (ia.toArray.size == ib.toArray.size) = true := by simp [la, lb]
      have t1 := SeqAt.RcAt.tuples (A := A) (s := s) (e := fun _ => true) (show s.heap.IsTuple a ia.toArray from pa) (show s.heap.IsTuple b ib.toArray from pb) (by omega) el
      have t2 := SeqAt.RcNeAt.tuples (A := A) (s := s) (e := fun _ => true) (show s.heap.IsTuple a ia.toArray from pa) (show s.heap.IsTuple b ib.toArray from pb) (by omega) el
      rw [all_true, z] at t1 t2
      exact ⟨t1, t2⟩
    · cases e1; cases e2
  · cases e0
    rcases hy with hy | ⟨b, ys, es, e1, e2, hy, q⟩ | ⟨b, ys, es, e1, e2, _, hy, q⟩
    · exact (flat_ref hy).elim
    · cases e1; cases e2
    · cases e1; cases e2
      obtain ⟨ia, va, pa, _⟩ := I.list (SqL.of hx)
      obtain ⟨ib, vb, pb, _⟩ := I.list (SqL.of hy)
      have la : ia.length = ds.length := by rw [← va.length, r.length]
      have lb : ib.length = ds.length := by rw [← vb.length, q.length]
      have el : ∀ j (h1 : j < ia.toArray.size) (h2 : j < ib.toArray.size), SeqAt.EqAt A.in1 s ia.toArray[j] ib.toArray[j] true := fun j h1 h2 => by
        have j1 : j < ia.length := by simpa using h1
        have j2 : j < ib.length := by simpa using h2
        have hxl : j < xs.length := by rw [va.length]; exact j1
        have hyl : j < ys.length := by rw [vb.length]; exact j2
        obtain ⟨u', e1, e2⟩ := va.get (i := j) (List.getElem?_eq_getElem hxl)
        obtain ⟨v', e3, e4⟩ := vb.get (i := j) (List.getElem?_eq_getElem hyl)
        obtain ⟨d1, f1, f2⟩ := Paired.get r (List.getElem?_eq_getElem hxl)
        obtain ⟨d2, f3, f4⟩ := Paired.get q (List.getElem?_eq_getElem hyl)
        rw [f1] at f3
        cases f3
        rw [List.getElem?_eq_getElem j1] at e1
        rw [List.getElem?_eq_getElem j2] at e3
        cases e1; cases e3
        simpa using eqAt_same I n f2 f4 e2 e4 hin
      have t1 := SeqAt.RcAt.lists (A := A) (s := s) (e := fun _ => true) pa.isList pb.isList (by simp [la, lb]) (by omega) el
      have t2 := SeqAt.RcNeAt.lists (A := A) (s := s) (e := fun _ => true) pa.isList pb.isList (by simp [la, lb]) (by omega) el
      rw [all_true] at t1 t2
      exact ⟨t1, t2⟩
def rSame (K : PySem.W.Frag) (b : Bool) : R2 := fun x y H Q => ∃ (a c : Addr) (n : Nat) (d : Dt) (ok ok' : Addr → Prop), x = .ref a ∧ y = .ref c ∧ n ≤ 20 ∧ Says K ok H (n + 1) x d ∧ Says K ok' H (n + 1) y d ∧ Q (.bl b) H
theorem op_eqS (hu : X.A.units + 64 < cLine) : OpR X (compareOp .Eq) (rSame X.K true) := by
  intro pins s σ H x y v u Q I rx ry h
  obtain ⟨a, c, n, d, ok, ok', rfl, rfl, hn, hx, hy, q⟩ := h
  cases rx; cases ry
  exact (rc_same (A := X.A) I hx hy (by omega)).1 X.prog X.w X.xe _ ⟨.bl true, H, I, rfl, q⟩
theorem op_neS (hu : X.A.units + 64 < cLine) : OpR X (compareOp .NotEq) (rSame X.K false) := by
  intro pins s σ H x y v u Q I rx ry h
  obtain ⟨a, c, n, d, ok, ok', rfl, rfl, hn, hx, hy, q⟩ := h
  cases rx; cases ry
  exact (rc_same (A := X.A) I hx hy (by omega)).2 X.prog X.w X.xe _ ⟨.bl false, H, I, rfl, q⟩
end

/-! ### enumerate over a list -/
def Ite (K : PySem.W.Frag) (a : Addr) : It :=
  ⟨fun i H => ∃ xs x, SqL K H a xs ∧ xs[i]? = some x, fun i H x H' => ∃ (p : Addr) (y : V), x = .ref p ∧ H p = none ∧ (∀ xs, SqL K H a xs → xs[i]? = some y) ∧ H' = upd H p (.tup [.int i, y]), fun i H => ∃ xs, SqL K H a xs ∧ xs.length ≤ i⟩
theorem turn_enum {P : Program} {w : World} {K : PySem.W.Frag} {elts : List Expr} {x1 : Nat} {tpos : Pos} (a e it : Addr) (hne : e ≠ it) :
    Turn P w K (.Tuple elts x1 tpos) (Ite K a) [e, it] e (fun i h => (∃ old, IsEnum h e it (i : Int) old) ∧ h.IsListIter it a i) where
  mem := by simp
  obj := fun i h st b hb => by
    rcases List.mem_cons.mp hb with rfl | hb
    · obtain ⟨⟨old, he⟩, _⟩ := st
      exact ⟨_, he, fun v q => by cases q⟩
    · have e' : b = it := by simpa using hb
      subst e'
      obtain ⟨_, o, ho, _, hd⟩ := st
      exact ⟨o, ho, fun v q => by rw [hd] at q; cases q⟩
  keep := fun i h h' st k => by
    obtain ⟨⟨old, he⟩, o, ho, r⟩ := st
    exact ⟨⟨old, k e (by simp) _ he⟩, o, k it (by simp) o ho, r⟩
  item := by
    intro X hP hw hK hc i pins s σ H E I hf st hg
    subst hP hw hK
    obtain ⟨f0, f1, f2, f3, f4, f5⟩ := hf e (by simp)
    obtain ⟨g0, g1, g2, g3, g4, g5⟩ := hf it (by simp)
    obtain ⟨⟨old, he⟩, hit⟩ := st
    obtain ⟨xs, x, hS, hx⟩ := hg
    obtain ⟨its, rv, hp, hz⟩ := I.list hS
    obtain ⟨u, hu, ru⟩ := rv.get hx
    refine wpAny_pyNext_enum_item he hit hp.isList (x := u) (by simpa using hu) hne fun h' he' hit' htup hsz hk => ?_
    have I0 : Inv X pins σ H { s with heap := h', toks := s.toks + 1 } := by
      refine I.step (g' := s.gens) (d' := s.drawn) (ch := [e, it]) (fun b hb => ?_) (fun b o _ _ hc' e1 _ => hk b o (fun z => hc' (by simp [z])) (fun z => hc' (by simp [z])) e1) (fun b o _ _ hc' e1 _ => ⟨o.slots, hk b o (fun z => hc' (by simp [z])) (fun z => hc' (by simp [z])) e1⟩) (fun _ _ _ _ n => n)
        (fun b o hc' e1 => ⟨o, hk b o (fun z => hc' (by simp [z])) (fun z => hc' (by simp [z])) e1⟩) (fun _ _ e1 => e1) (fun _ _ _ e1 => e1) (fun b ps e1 => ⟨#[], by rw [e1]; simp⟩) (fun m hm => ?_) (fun b u' e1 => ?_) I.bare
      · rcases List.mem_cons.mp hb with rfl | hb
        · exact ⟨f3, f1, f4, f5⟩
        · have e' : b = it := by simpa using hb
          subst e'
          exact ⟨g3, g1, g4, g5⟩
      · obtain ⟨o, es, ep, ho, r⟩ := hm
        exact ⟨o, es, ep, hk _ o (Ne.symm f1) (Ne.symm g1) ho, r⟩
      · have nit : ∀ c v', H c = some v' → c ≠ e ∧ c ≠ it := fun c v' q => ⟨fun z => (by rw [z, f0] at q; cases q), fun z => (by rw [z, g0] at q; cases q)⟩
        refine (I.hok b u' e1).stay (fun c v' hc' q => ?_) (fun _ q => q) fun _ _ q => q
        rcases hc' with z | z
        · subst z; exact hk c v' (nit c _ e1).1 (nit c _ e1).2 q
        · exact hk c v' (nit c _ z).1 (nit c _ z).2 q
    have hfr : H s.heap.objs.size = none := I.hok.fresh (Nat.le_refl _)
    have I1 : Inv X pins σ (upd H s.heap.objs.size (.tup [.int i, x])) { s with heap := h', toks := s.toks + 1 } := by
      have hok : HOk X.prog X.w (upd H s.heap.objs.size (.tup [.int i, x])) h' := fun b o q => by
        by_cases hb : b = s.heap.objs.size
        · subst hb
          rw [upd_same] at q; cases q
          exact ⟨by show 2 ≤ sizeLine; decide, [.int i s.toks, u], .cons ⟨_, rfl⟩ (.cons ru .nil), ⟨_, htup, rfl, _, rfl⟩⟩
        · rw [upd_ne hb] at q
          exact (I0.hok b o q).stay (fun _ _ _ z => z) (fun c z => by rw [upd_ne (ne_of_none z hfr)]; exact z) fun c xs' z => by rw [upd_ne (ne_of_none z hfr)]; exact z
      refine I0.step (s := { s with heap := h', toks := s.toks + 1 }) (g' := s.gens) (d' := s.drawn) (h' := h') (t' := s.toks + 1) (ch := [s.heap.objs.size]) (fun b hb => ?_) (fun b o _ _ _ e1 _ => e1) (fun b o _ _ _ e1 _ => ⟨o.slots, e1⟩) (fun b o hb e1 n => by rw [upd_ne (fun z => hb (by simp [z]))]; exact n)
        (fun b o _ e1 => ⟨o, e1⟩) (fun b xs' e1 => by rw [upd_ne (ne_of_none e1 hfr)]; exact e1) (fun b o' u' e1 => by rw [upd_ne (ne_of_none e1 hfr)]; exact e1) (fun b ps e1 => ⟨#[], by rw [upd_ne (ne_of_none e1 hfr), e1]; simp⟩) (fun m hm => hm) hok I0.bare
      have e' : b = s.heap.objs.size := by simpa using hb
      subst e'
      refine ⟨.inr I.sz, fun z => ?_, fun y c h z => ?_, fun p hp' z => ?_⟩
      · have := I.lt; rw [← z] at this; exact absurd this (Nat.lt_irrefl _)
      · obtain ⟨v', hv⟩ := I.cell y c h
        have := hv.lt; rw [z] at this; exact absurd this (Nat.lt_irrefl _)
      · have := I.pin_lt hp'; rw [z] at this; exact absurd this (Nat.lt_irrefl _)
    refine ⟨_, rfl, wpAny_letOwnedTupleGo_enum he' fun h2 he2 hs2 => ?_⟩
    have nes : s.heap.objs.size ≠ e := fun z => by
      have := Heap.lt_size (show s.heap.get? e = some _ from he)
      rw [← z] at this; exact absurd this (Nat.lt_irrefl _)
    have nis : s.heap.objs.size ≠ it := fun z => by
      obtain ⟨o, ho, _⟩ := hit
      have := Heap.lt_size ho
      rw [← z] at this; exact absurd this (Nat.lt_irrefl _)
    have I2 : Inv X pins σ (upd H s.heap.objs.size (.tup [.int i, x])) { s with heap := h2, toks := s.toks + 1 } :=
      I1.turned (s := { s with heap := h', toks := s.toks + 1 }) (t' := s.toks + 1) (it := e) (fun b o hb q => (hs2.2 b hb).trans q) (by rw [upd_ne nes.symm]; exact f0) f1 f3 f4 f5
    refine ⟨.ref s.heap.objs.size, _, I2, rfl, ⟨_, x, rfl, hfr, fun xs' h' => ?_, rfl⟩, ⟨⟨_, by simpa using he2⟩, ?_⟩, fun b hb => ?_⟩
    · rw [I.list_inj h' hS]; exact hx
    · obtain ⟨o, ho, r⟩ := hit'
      exact ⟨o, (hs2.2 it (Ne.symm hne)).trans ho, r⟩
    · rcases List.mem_cons.mp hb with rfl | hb
      · rw [upd_ne nes.symm]; exact f0
      · have e' : b = it := by simpa using hb
        subst e'
        rw [upd_ne nis.symm]; exact g0
  done := by
    intro X hP hw hK hc i pins s σ H E I hf st hg
    subst hP hw hK
    obtain ⟨⟨old, he⟩, hit⟩ := st
    obtain ⟨g0, g1, g2, g3, g4, g5⟩ := hf it (by simp)
    obtain ⟨xs, hS, hle⟩ := hg
    obtain ⟨its, rv, hp, hz⟩ := I.list hS
    have hx : its.toArray[i]? = none := by simp [← rv.length, hle]
    exact wpAny_pyNext_enum_end (I.ok.hd hc) he hit hp.isList hx fun h' eb => ⟨rfl, I.turned (t' := s.toks) (fun b o hb e1 => eb b o hb e1) g0 g1 g3 g4 g5⟩
  self := fun A i s Q E st h => by
    obtain ⟨⟨old, he⟩, _⟩ := st
    exact wpAny_pyIter_enum he h
section
variable {X : Cx} {elts : List Expr} {x1 : Nat} {tpos : Pos}
def iEnum (K : PySem.W.Frag) (ta : TA) : TI := fun σ H R => ta σ H fun vs H1 => ∃ a, vs = [.ref a] ∧ (∃ xs, SqL K H1 a xs) ∧ R (Ite K a) H1
theorem pi_enum {l : Expr} {ta : TA} {p pos : Pos} (hg : Gl X "enumerate") (hm : X.mg "enumerate" = none) (ha : PA X [l] ta) (hl : isSt l = false := by rfl) : PI X (.Tuple elts x1 tpos) (.Call (.Name "enumerate" p) [l] [] pos) (iEnum X.K ta) := by
  refine ⟨?_⟩
  intro pins s σ H R I h
  refine Call_ (ld_blt I hg hm PyProof.Rows.boot_enumerate (PyProof.Rows.callWith_type1 (thn (ha pos pins s σ H _ I h) fun us s1 ⟨vs, H1, I1, r1, q1⟩ => ?_) (star_cons hl) rfl))
  obtain ⟨a, e, ⟨xs, hS⟩, q⟩ := q1
  subst e
  obtain ⟨u, rfl, ru⟩ := vals1 r1
  cases ru
  obtain ⟨its, rv, hp, hz⟩ := I1.list hS
  refine call_enumerate_list hp.isList fun h' he hit hsz hk => ?_
  refine wpAny_pyIter_enum he ?_
  have hfr : ∀ b, s1.heap.objs.size ≤ b → H1 b = none := fun b hb => I1.hok.fresh hb
  have I2 : Inv X pins σ H1 { s1 with heap := h' } := I1.kept (t' := s1.toks) hk
  refine ⟨s1.heap.objs.size + 1, [s1.heap.objs.size + 1, s1.heap.objs.size], _, _, H1, rfl, I2, turn_enum a _ _ (Nat.succ_ne_self _), ⟨⟨_, he⟩, hit⟩, fun b hb => ?_, q⟩
  rcases List.mem_cons.mp hb with rfl | hb
  · exact I1.fpOk (Nat.le_succ _) (hfr _ (Nat.le_succ _))
  · have e' : b = s1.heap.objs.size := by simpa using hb
    subst e'
    exact I1.fpOk (Nat.le_refl _) (hfr _ (Nat.le_refl _))
end
end L2

set_option Elab.async false
set_option linter.all false
set_option maxRecDepth 100000
set_option maxHeartbeats 4000000
namespace Att
open PySem PySem.W PySem.Calls PyProof.Rows
/-! ### the script's numbers have at most 2 ^ 20 bits each -/
theorem script_bits {ns : List Int} (h : WData.layableAll [WData.list (ns.map WData.int)] = true) : ∀ n ∈ ns, Builtin.Int.intBits n ≤ 1048576 := fun n hn =>
  PySem.intBits_le_of_layable (layable0_of_all (lay0_int (layableW_item (layW_cons h).1 (.int n) (List.mem_map.mpr ⟨n, hn, rfl⟩))))
theorem attach_callB {l : OpenLaw} {n : Nat} {q : Program} {loose : List Str} {XP : (Str → Option Value) → Heap → Prop} {YP : World → Heap → Prop} {d : DefRec}
    (hn : l.most = some n) (hdf : d.params.defaults = [])
    (call : ∀ (w : World) (s₀ s₁ : Shared) (mg mb : Str → Option Value) (fa : Addr) (o : Obj) (pm cd doc : Value) (a : Addr) (vs : List Value) (ns : List Int),
      Ground q loose [] XP w s₀ mg mb s₁.heap → YP w s₁.heap →
      s₁.heap.get? fa = some o → o.data = .func (docDef d.name d.params d.body d.scope pm cd doc) → s₁.heap.CodeRec cd d.name → mg d.name = some (.ref fa) →
      s₁.heap.get? a = some { cls := .type "list", data := .seq vs.toArray } → IntsAre vs ns → ns.length ≤ n → (∀ m ∈ ns, Builtin.Int.intBits m ≤ 1048576) → s₁.gens = #[] →
      codeAny (model l.prog w) callerA (.call (.ref fa) ⟨[.ref a], []⟩) (fun r s' => r = .ok (.ret (.bool true)) ∧ OldK s₁.heap s'.heap ∧ s'.os = s₁.os ∧ AllBare s'.gens) s₁) :
    WalkO q loose XP YP l.row.toRowW d [] (fun f vs => PySem.call f vs) := by
  intro w s₀ s₁ mg mb G Y fa o pm cd doc dV kV ho hd hcd hD hmg hg args vals as hpre hlay hrd hwl hlo
  obtain rfl : dV = .none := Dflts.none hD hdf
  obtain rfl : kV = .none := Dflts.noKw hD
  obtain ⟨a, vs, ns, rfl, rfl, hobj, hints, hlen⟩ := script_of hn hpre hwl
  refine enter_call (codeAny_mono (call w s₀ s₁ mg mb fa o pm cd doc a vs ns G Y ho (fd_plain hd) hcd hmg hobj hints hlen (script_bits hlay) hg) fun r s' hq => ?_)
  obtain ⟨rfl, h2, h3, h4⟩ := hq
  exact ⟨.inl ⟨.bool true, .bool true, [], rfl, fun _ => rfl, .bool true, post_true l _, fun _ => ⟨List.Pairwise.nil, fun _ hm => (nomatch hm)⟩⟩, h2, h3, h4⟩
end Att
namespace L2
open PySem PySem.Spec PyProof.Rows
theorem walk_ofB {l : PySem.W.OpenLaw} {n k : Nat} {q : Program} {loose : List Str} {XP : (Str → Option Value) → Heap → Prop} {YP : World → Heap → Prop} {d : DefRec} {K : Params → PySem.W.Frag} {CX : World → CXT} {sp : World → Sp} {x : Str}
    (hn : l.most = some n) (hn2 : n ≤ sizeLine) (hdf : d.params.defaults = []) (hr : Room k callerA)
    (hY : ∀ (w : World) (h : Heap), YP w h → (K w.params).In h)
    (F : ∀ (w : World) (mg : Str → Option Value) (fa : Addr) (h : Heap), (K w.params).In h → h.Ns mainGlobals mg → mg d.name = some (.ref fa) →
      ∃ fd : FuncData, (∀ (s : Shared) (u : Value), BindsTo s fd ⟨[u], []⟩ [(x, u)]) ∧
        ∀ base : Heap, (K w.params).In base → base.Ns mainGlobals mg → FnOk l.prog w (K w.params) mg base (CX w) k fa fd [x] (sp w))
    (hsp : ∀ (w : World) (H : Hp) (a : Addr) (ns : List Int), ns.length ≤ n → (∀ m ∈ ns, Builtin.Int.intBits m ≤ 1048576) → Only H → SqL (K w.params) H a (ns.map V.int) → sp w [.ref a] H (fun v _ => v = .bl true) fun _ _ _ => False)
    (hCX : ∀ (w : World) (H : Hp) (s : Shared) (e : Value) (s' : Shared), CX w [] H s (fun _ _ _ => False) e s' → False) :
    PySem.W.WalkO q loose XP YP l.row.toRowW d [] (fun f vs => PySem.call f vs) := by
  refine Att.attach_callB hn hdf fun w s₀ s₁ mg mb fa o pm cd doc a vs ns G Y ho hd hcd hmg hobj hints hlen hbits hg => ?_
  have KX := hY w _ Y
  obtain ⟨fd, hb, hF⟩ := F w mg fa _ KX G.T.g hmg
  exact law_call KX G.T.g G.T.b G.T.builtins G.T.nolimit hg hobj hints (Nat.le_trans hlen hn2) hr hF hb (fun H hO hS => hsp w H a ns hlen hbits hO hS) fun H e s' => hCX w H s₁ e s'
section
variable {X : Cx}
end
end L2

set_option Elab.async false
set_option linter.all false
set_option maxRecDepth 100000
set_option maxHeartbeats 4000000
namespace L2
open PySem PySem.Spec PyProof.Rows
/-! ### defs with defaults; an instance made with keywords -/
/-- a def or method whose defaults are these values -/
structure FunD (K : PySem.W.Frag) (x qual : Str) (st : Stmt) (f : Addr) (fd : FuncData) (items : List Value) : Prop where
  ex : ∃ (oc : Value) (od : Option Addr) (T : Addr) (kV doc pm : Value) (an : Option Addr) (cdv ct : Value) (osl : Array (Option Value)) (o : Obj) (n : Nat),
    fd = PySem.W.fnOf x qual (defArgs st) (defBody st) (defScope st) (.ref T) kV doc pm an cdv ct ∧ K.lookup f = some ⟨oc, od, .func fd, osl⟩ ∧ PySem.W.codeIn K cdv qual = true ∧ K.lookup T = some o ∧ o.data = .seq items.toArray n
  kp : PySem.W.keepIn K (.ref f) = true
section
variable {P : Program} {w : World} {K : PySem.W.Frag} {mg : Str → Option Value} {base : Heap}
theorem FunD.ok {x qual : Str} {st : Stmt} {f : Addr} {fd : FuncData} {items : List Value} {N ps : List Str} {k : Nat} {sp : Sp} (F : FunD K x qual st f fd items) (S : FnScope N ps (defScope st)) (len : ∀ vs H Q E, sp vs H Q E → vs.length = ps.length)
    (hbody : ∀ (cdv : Value) (A : Around) (outer : List Env) (s : Shared) (H : Hp) (vs : List V) (Q : VK) (E : XK), Room k (A.deeper (envOfC qual (defScope st) s.heap.objs.size f cdv)) → sp vs H Q E →
      ∃ t, PSs (cxOf CX0 P w K mg base N qual (defScope st) f cdv A outer s H E).nox (defBody st) t ∧ t { nx := fun _ H' => Q .non H', rt := Q } (start N vs) H) : FnOk P w K mg base CX0 (k + 1) f fd ps sp := by
  obtain ⟨oc, od, T, kV, doc, pm, an, cdv, ct, osl, o, n, rfl, lk, hcd, _, _⟩ := F.ex
  refine fn_of lk hcd S len fun A outer s H vs Q E hr hsp => ?_
  obtain ⟨t, h, q⟩ := hbody cdv A outer s H vs Q E hr hsp
  exact ⟨t, h.nox, q⟩
/-- how it binds: h is «fun _ _ _ _ _ _ _ => ⟨_, rfl, rfl⟩» -/
theorem FunD.bindsTo {x qual : Str} {st : Stmt} {f : Addr} {fd : FuncData} {items : List Value} (F : FunD K x qual st f fd items) {args : Args} {bs : List (Str × Value)}
    (h : ∀ (T : Addr) (kV doc pm : Value) (an : Option Addr) (cdv ct : Value), ∃ k : Option (Array Value) → Sem (List (Str × Value)),
      bindArgs (PySem.W.fnOf x qual (defArgs st) (defBody st) (defScope st) (.ref T) kV doc pm an cdv ct) args = seqItems? (.ref T) >>= k ∧ k (some items.toArray) = pure bs) {s : Shared} (KX : K.In s.heap) : BindsTo s fd args bs := by
  obtain ⟨oc, od, T, kV, doc, pm, an, cdv, ct, osl, o, n, rfl, lk, hcd, lt, hs⟩ := F.ex
  obtain ⟨k, h1, h2⟩ := h T kV doc pm an cdv ct
  exact BindsTo.of_defaults (T := T) (n := n) rfl (KX _ _ lt) hs h1 h2
theorem funD_mk {x qual : Str} {st : Stmt} {f T : Addr} {oc : Value} {od an : Option Addr} {osl : Array (Option Value)} {kV doc pm cdv ct : Value} {o : Obj} {n : Nat} {items : List Value}
    (l : K.lookup f = some ⟨oc, od, .func (PySem.W.fnOf x qual (defArgs st) (defBody st) (defScope st) (.ref T) kV doc pm an cdv ct), osl⟩)
    (c : PySem.W.codeIn K cdv qual = true) (k : PySem.W.keepIn K (.ref f) = true) (lT : K.lookup T = some o) (hs : o.data = .seq items.toArray n) :
    FunD K x qual st f (PySem.W.fnOf x qual (defArgs st) (defBody st) (defScope st) (.ref T) kV doc pm an cdv ct) items := ⟨⟨oc, od, T, kV, doc, pm, an, cdv, ct, osl, o, n, rfl, l, c, lT, hs⟩, k⟩
end
section
variable {X : Cx} {CX : CXT} {k : Nat} {f C : Addr} {fd : FuncData} {ps ks : List Str} {sp : Sp} {E : XK} {x : Str} {p pos : Pos} {e : Expr} {es : List Expr} {kws : List Keyword} {t tk : TA}
  {g : List Value → List Value → List Value} {gV : List V → List V → List V}
end
/-! ### a statement and what follows, with what holds between them; comprehensions over a list -/
theorem seq_via {t u : TS} {D : Ends} {σ : St} {H : Hp} (R : St → Hp → Prop) (h2 : ∀ σ H, R σ H → u D σ H) (h1 : (∀ σ H, R σ H → u D σ H) → t { D with nx := u D } σ H) : tSeq t u D σ H := h1 h2
/-- what a turn of a block that makes the list at D asks of its item -/
def lcN (n i : Nat) (D : Addr) (Pv : Nat → List V → Hp → Prop) (ys : List V) : VK := fun v H4 => H4 D = some (.lst ys) ∧ ys.length < sizeLine ∧ ∃ m', m' < n - i ∧ m' = n - (i + 1) ∧ i + 1 ≤ n ∧ Pv (i + 1) (ys ++ [v]) (upd H4 D (.lst (ys ++ [v])))
def lcS (n i : Nat) (Pv : Nat → List V → Hp → Prop) (ys : List V) : Hp → Prop := fun H4 => ∃ m', m' < n - i ∧ m' = n - (i + 1) ∧ i + 1 ≤ n ∧ Pv (i + 1) ys H4
theorem lcN.mk {n i : Nat} {D : Addr} {Pv : Nat → List V → Hp → Prop} {ys : List V} {v : V} {H4 : Hp} (hi : i < n) (hn : n ≤ sizeLine) (hD : H4 D = some (.lst ys)) (hy : ys.length ≤ i) (p : Pv (i + 1) (ys ++ [v]) (upd H4 D (.lst (ys ++ [v])))) : lcN n i D Pv ys v H4 :=
  ⟨hD, by omega, n - (i + 1), by omega, rfl, hi, p⟩
theorem lcS.mk {n i : Nat} {Pv : Nat → List V → Hp → Prop} {ys : List V} {H4 : Hp} (hi : i < n) (p : Pv (i + 1) ys H4) : lcS n i Pv ys H4 := ⟨n - (i + 1), by omega, rfl, hi, p⟩
theorem lc_list {K : PySem.W.Frag} {a : Addr} {xs : List V} {caps : List (Option Nat)} {g : TG} {tt : TT} {te : TE} {σ : St} {H1 : Hp} {Q : VK} {D : Addr} (Pv : Nat → List V → Hp → Prop) (h0 : Pv 0 [] (upd H1 D (.lst [])))
    (hl : ∀ i ys H, Pv i ys H → SqL K H a xs)
    (hs : ∀ i x ys H, i < xs.length → xs[i]? = some x → Pv i ys H → g x (capS caps σ) H fun σ2 H2 => tt σ2 H2 fun ok H3 => (ok = true → te σ2 H3 (lcN xs.length i D Pv ys)) ∧ (ok = false → lcS xs.length i Pv ys H3))
    (hd : ∀ ys H, Pv xs.length ys H → Q (.ref D) H) : LCr (Itl K a) caps g tt te σ H1 Q D := by
  refine ⟨fun i m ys H => m = xs.length - i ∧ i ≤ xs.length ∧ Pv i ys H, ⟨xs.length, by simp, Nat.zero_le _, h0⟩, ?_⟩
  rintro i m ys H ⟨rfl, hi, p⟩
  have q := hl i ys H p
  by_cases hlt : i < xs.length
  · refine .inr ⟨⟨xs, xs[i], q, by simp [hlt]⟩, fun x H' y => ?_⟩
    obtain ⟨e, y⟩ := y
    subst e
    exact hs i x ys _ hlt (y xs q) p
  · have e : i = xs.length := by omega
    subst e
    exact .inl ⟨⟨xs, q, Nat.le_refl _⟩, hd ys H p⟩
theorem same_make0 {H : Hp} {x dx : Addr} {o1 : HO} (hx : H x = none) (hd : H dx = none) : Same H (upd (upd H dx (.own x)) x o1) := fun b u q => by
  rw [upd_ne (ne_of_none q hx), upd_ne (ne_of_none q hd)]
  exact q
theorem same_new {H : Hp} {p : Addr} (h : H p = none) (o : HO) : Same H (upd H p o) := fun b u q => by rw [upd_ne (ne_of_none q h)]; exact q
end L2

set_option Elab.async false
set_option linter.all false
set_option maxRecDepth 100000
set_option maxHeartbeats 4000000
namespace L2
open PySem PySem.Spec PyProof.Rows
/-! ### comprehensions over a range, over enumerate -/
theorem lc_range {lo : Int} {n : Nat} {caps : List (Option Nat)} {g : TG} {tt : TT} {te : TE} {σ : St} {H1 : Hp} {Q : VK} {D : Addr} (Pv : Nat → List V → Hp → Prop) (h0 : Pv 0 [] (upd H1 D (.lst [])))
    (hs : ∀ i ys H, i < n → Pv i ys H → g (.int (lo + i)) (capS caps σ) H fun σ2 H2 => tt σ2 H2 fun ok H3 => (ok = true → te σ2 H3 (lcN n i D Pv ys)) ∧ (ok = false → lcS n i Pv ys H3))
    (hd : ∀ ys H, Pv n ys H → Q (.ref D) H) : LCr (Itr lo n) caps g tt te σ H1 Q D := by
  refine ⟨fun i m ys H => m = n - i ∧ i ≤ n ∧ Pv i ys H, ⟨n, by simp, Nat.zero_le _, h0⟩, ?_⟩
  rintro i m ys H ⟨rfl, hi, p⟩
  by_cases hlt : i < n
  · refine .inr ⟨hlt, fun x H' y => ?_⟩
    obtain ⟨e, y⟩ := y
    subst e y
    exact hs i ys _ hlt p
  · have e : i = n := by omega
    subst e
    exact .inl ⟨Nat.le_refl _, hd ys H p⟩
theorem for_enum {K : PySem.W.Frag} {a : Addr} {xs : List V} {g : TG} {tb : TS} {D : Ends} {σ : St} {H : Hp} (Pv : Nat → St → Hp → Prop) (h0 : Pv 0 σ H) (hl : ∀ i σ H, i ≤ xs.length → Pv i σ H → SqL K H a xs)
    (hs : ∀ i x p σ H, xs[i]? = some x → Pv i σ H → H p = none → g (.ref p) σ (upd H p (.tup [.int i, x])) fun σ2 H2 => tb { D with nx := Pv (i + 1), ct := Pv (i + 1), bk := D.nx } σ2 H2) (hd : ∀ σ H, Pv xs.length σ H → D.nx σ H) :
    ∃ W : Nat → Nat → St → Hp → Prop, (∃ m, W 0 m σ H) ∧ ∀ i m σ H, W i m σ H →
      ((Ite K a).stop i H ∧ D.nx σ H) ∨ ((Ite K a).go i H ∧ ∃ N : St → Hp → Prop, (∀ σ' H', N σ' H' → ∃ m', m' < m ∧ W (i + 1) m' σ' H') ∧ ∀ x H', (Ite K a).yld i H x H' → g x σ H' fun σ2 H2 => tb { D with nx := N, ct := N, bk := D.nx } σ2 H2) := by
  refine ⟨fun i m σ H => m = xs.length - i ∧ i ≤ xs.length ∧ Pv i σ H, ⟨xs.length, by simp, Nat.zero_le _, h0⟩, ?_⟩
  rintro i m σ H ⟨rfl, hi, p⟩
  have q := hl i σ H hi p
  by_cases hlt : i < xs.length
  · refine .inr ⟨⟨xs, xs[i], q, by simp [hlt]⟩, Pv (i + 1), fun σ' H' p' => ⟨xs.length - (i + 1), by omega, rfl, hlt, p'⟩, fun x H' y => ?_⟩
    obtain ⟨pp, y, rfl, hp, y2, rfl⟩ := y
    exact hs i y pp σ H (y2 xs q) p hp
  · have e : i = xs.length := by omega
    subst e
    exact .inl ⟨⟨xs, q, Nat.le_refl _⟩, hd σ H p⟩
/-! ### places within a sequence; fewer bits -/
theorem atI_pos {α : Type} {xs : List α} {i : Int} (h0 : 0 ≤ i) (h1 : i < xs.length) : ∃ x, x ∈ xs ∧ atI xs i = some x ∧ xs[i.toNat]? = some x := by
  obtain ⟨k, rfl⟩ := Int.eq_ofNat_of_zero_le h0
  have hk : k < xs.length := by omega
  exact ⟨xs[k], List.getElem_mem hk, atI_nat (List.getElem?_eq_getElem hk), by simp [hk]⟩
/-! ### isinstance of a tuple that is read -/
theorem call_isinstT {X : Cx} : CallR X (.builtin "isinstance") (fun xs H Q => ∃ a ys T b, xs = [.ref a, .ty T] ∧ SqT X.K H a ys ∧ PySem.W.kitOne X.K (.type "tuple") (.type T) = some b ∧ Q (.bl b) H) := by
  intro pins s σ H xs us Q I r h
  obtain ⟨a, ys, T, b, rfl, hS, e, q⟩ := h
  obtain ⟨u, w', rfl, ru, rw'⟩ := vals2 r
  cases rw'
  cases ru
  obtain ⟨its, r, ⟨o, h1, h2, _⟩, _⟩ := I.tuple hS
  exact PySem.W.kia_one PySem.W.kitx_tuple I.kIn ⟨o, h1, h2⟩ e (fun z => nomatch z) fun tk => ⟨.bl b, H, I.tok tk, rfl, q⟩
end L2

set_option Elab.async false
set_option linter.all false
set_option maxRecDepth 100000
set_option maxHeartbeats 4000000
namespace L2
open PySem PySem.Spec PyProof.Rows
/-! ### an exception in flight -/
section
variable {X : Cx} {pins : List (Addr × Obj)} {σ : St} {H H' : Hp} {s s' : Shared} {ea : Addr} {cls : Value} {vs : List Value} {h' : Heap} {M : Model} {E : Value → Shared → Prop}
theorem HOk.sameAt {P : Program} {w : World} {h h' : Heap} (x : HOk P w H h) (k : ∀ b u o, H b = some u → h.get? b = some o → h'.get? b = some o) : HOk P w H h' := fun a o e =>
  (x a o e).stay (fun b u hb q => by
    rcases hb with z | z
    · exact k b o u (by rw [z]; exact e) q
    · exact k b _ u z q) (fun _ q => q) fun _ _ q => q
end
end L2

set_option Elab.async false
set_option linter.all false
set_option maxRecDepth 100000
set_option maxHeartbeats 4000000
namespace L2
open PySem PySem.Spec PyProof.Rows
/-! ### raise C(..) -/
section
variable {X : Cx} {E : XK} {x : Str} {C : Addr} {B Bn newId nid initId inN : String} {bm bmN : List Value} {np cpos pos : Pos} {e : Expr} {es : List Expr} {t : TA}
end
/-! ### a def that may raise -/
section
variable {P : Program} {w : World} {K : PySem.W.Frag} {mg : Str → Option Value} {base : Heap} {N : List Str} {qual : Str} {scope : Scope} {f : Addr} {cd : Value} {A : Around} {outer : List Env} {s : Shared} {H : Hp} {E E' : XK}
end
section
variable {X : Cx} {k : Nat} {f : Addr} {fd : FuncData} {ps : List Str} {sp : Sp} {E : XK} {x : Str} {p pos : Pos} {e : Expr} {es : List Expr} {t : TA}
end
end L2

set_option Elab.async false
set_option linter.all false
set_option maxRecDepth 100000
set_option maxHeartbeats 4000000
namespace L2
open PySem PySem.Spec PyProof.Rows
/-! ### an exception that is caught -/
section
variable {X : Cx} {pins : List (Addr × Obj)} {σ : St} {H H' : Hp} {s s' : Shared} {ea a : Addr} {cls : Value} {o : HO} {h5 : Heap}
/-- an untracked thing is tracked from now on -/
theorem Inv.track (I : Inv X pins σ H s) (hn : H a = none) (new : ObjOk X.prog X.w (upd H a o) s.heap a o) (h0 : ∀ u, X.s₀.heap.get? a = some u → X.H₀ a = none → a ∉ X.ex → False) (hL : X.env.locals ≠ a)
    (hc : ∀ x c, X.env.cells.lookup x = some c → c ≠ a) (hp : ∀ p ∈ X.pn ++ pins, p.1 ≠ a) : Inv X pins σ (upd H a o) s := by
  refine ⟨I.ok, I.os, I.bare, ⟨I.base.keep, I.base.slot, fun b u e n x => ?_, I.base.there, fun b xs e => ?_, fun b u v e => ?_, fun b ps e => ?_⟩, I.loc, I.cell, ?_, fun x c e => ?_, fun p hp' => ?_, fun b u e => ?_, I.len⟩
  · have hb : b ≠ a := fun z => by subst z; exact h0 u e n x
    rw [upd_ne hb]
    exact I.base.free b u e n x
  · have e1 := I.base.tups b xs e
    rw [upd_ne (ne_of_none e1 hn)]; exact e1
  · have e1 := I.base.frzs b u v e
    rw [upd_ne (ne_of_none e1 hn)]; exact e1
  · obtain ⟨more, e1⟩ := I.base.tbls b ps e
    exact ⟨more, by rw [upd_ne (ne_of_none e1 hn)]; exact e1⟩
  · rw [upd_ne hL]; exact I.free
  · rw [upd_ne (hc x c e)]; exact I.freeC x c e
  · obtain ⟨q1, q2, q3⟩ := I.pin p hp'
    exact ⟨q1, by rw [upd_ne (hp p hp')]; exact q2, q3⟩
  · by_cases hb : b = a
    · subst hb; rw [upd_same] at e; cases e; exact new
    · rw [upd_ne hb] at e
      exact (I.hok b u e).stay (fun _ _ _ q => q) (fun c q => by rw [upd_ne (ne_of_none q hn)]; exact q) fun c xs q => by rw [upd_ne (ne_of_none q hn)]; exact q
end
end L2

set_option Elab.async false
set_option linter.all false
set_option maxRecDepth 100000
set_option maxHeartbeats 4000000
namespace L2
open PySem PySem.Spec PyProof.Rows
section
variable {X : Cx} {pins : List (Addr × Obj)} {σ : St} {H : Hp} {s : Shared} {M : Model} {A : Around} {E : Value → Shared → Prop} {i : Nat} {n : Str} {pos : Pos}
end
/-! ### code that may raise, at known values of the names -/
structure PS1 (X : Cx) (pins : List (Addr × Obj)) (σ : St) (st : Stmt) (t : TS) : Prop where
  run : ∀ (s : Shared) (H : Hp) (D : Ends), Inv X pins σ H s → t D σ H → wpAny (model X.prog X.w) X.A (exec st X.env) (SP X pins D) X.xe s
section
variable {X : Cx} {pins : List (Addr × Obj)} {σ : St} {e : Expr} {es : List Expr} {te ta : TE} {t tr : TA} {E : XK} {x m : Str} {p pos apos : Pos} {k : Nat} {f C : Addr} {fd : FuncData} {ps : List Str} {sp : Sp} {o : Expr} {dvs : List V} {ds : List Value}
end
/-! ### try: one statement; except C as n: suite -/
abbrev Cx.suite (X : Cx) (ea : Addr) : Cx := { X with A := X.A.mark (some (.ref ea)), calm := false, xe := fun _ _ => False }
section
variable {X : Cx} {pins : List (Addr × Obj)} {σ : St} {H : Hp} {s : Shared} {ea : Addr}
theorem Inv.suite (I : Inv X pins σ H s) (ea : Addr) : Inv (X.suite ea) pins σ H s :=
  ⟨⟨I.ok.mod, I.ok.kind, I.ok.glob, I.ok.blt, I.ok.above, I.ok.inj, I.ok.has, I.ok.cab, (fun z => Bool.noConfusion z), I.ok.frames, I.ok.stk, I.ok.exf, I.ok.bs, I.ok.bsz, I.ok.noex, I.ok.exfs, I.ok.funs, I.ok.frf⟩, I.os, I.bare, I.base, I.loc, I.cell, I.free, I.freeC, I.pin, I.hok, I.len⟩
theorem Inv.unsuite (hok : X.Ok) (I : Inv (X.suite ea) pins σ H s) : Inv X pins σ H s :=
  ⟨hok, I.os, I.bare, I.base, I.loc, I.cell, I.free, I.freeC, I.pin, I.hok, I.len⟩
/-- what becomes of an exception within a try -/
abbrev tryXe (X : Cx) (pins : List (Addr × Obj)) (D : Ends) (hs : List ExceptHandler) : Value → Shared → Prop := fun e s₁ =>
  wpAny (model X.prog X.w) X.A (noteFrame e X.env) (fun _ s₂ => wpAny (model X.prog X.w) X.A (setFlight e none) (fun _ s₃ => wpAny (model X.prog X.w) X.A (handleBy e X.env hs) (SP X pins D) X.xe s₃) X.xe s₂) X.xe s₁
variable {st b₀ : Stmt} {suite : List Stmt} {c n : Str} {np hpos pos : Pos} {C : Addr} {i : Nat} {tb : XK → TS} {ts : TS} {ok : Value → Prop}
end
end L2

set_option Elab.async false
set_option linter.all false
set_option maxRecDepth 100000
set_option maxHeartbeats 4000000
namespace L2
open PySem PySem.W PySem.Builtin PySem.Builtin.ObjectAttr PySem.Builtin.Getset_descriptor PySem.Spec PyProof.Rows
/-! ### isinstance of an exception -/
section
variable {prog : Program} {w : World} {A : Around} {E : Value → Shared → Prop} {s : Shared} {K : PySem.W.Frag} {x D : Addr}
end
end L2

set_option Elab.async false
set_option linter.all false
set_option maxRecDepth 100000
set_option maxHeartbeats 4000000
namespace L2
open PySem PySem.Spec PyProof.Rows
section
variable {X : Cx}
end
/-! ### defs that are called within an except suite -/
section
variable {P : Program} {w : World} {K : PySem.W.Frag} {mg : Str → Option Value} {base : Heap}
end
section
variable {X : Cx} {k : Nat} {f : Addr} {fd : FuncData} {ps : List Str} {sp : Sp} {x : Str} {p pos : Pos} {e : Expr} {es : List Expr} {t : TA}
end
end L2

set_option Elab.async false
set_option linter.all false
set_option maxRecDepth 100000
set_option maxHeartbeats 4000000
namespace L2
open PySem PySem.Spec PyProof.Rows
/-! ### reversed(range(n)) -/
section
variable {prog : Program} {w : World} {A : Around} {E : Value → Shared → Prop} {s : Shared} {r : Addr} {n : Int} {t u v : Tok}
end
section
variable {X : Cx} {tg : Expr}
end
end L2

set_option Elab.async false
set_option linter.all false
set_option maxRecDepth 100000
set_option maxHeartbeats 4000000
namespace L2
open PySem PySem.Spec PyProof.Rows
section
variable {X : Cx} {o i : Expr} {to ti : TE} {pos tpos : Pos}
/-! ### del xs[i] -/
/-! ### == of two lists that are not of one length -/
def rLen : R2 := fun x y H Q => ∃ (a c : Addr) (xs ys : List V), x = .ref a ∧ y = .ref c ∧ H a = some (.lst xs) ∧ H c = some (.lst ys) ∧ xs.length ≠ ys.length ∧ Q (.bl false) H
theorem op_eqLen (hu : X.A.units < cLine) : OpR X (compareOp .Eq) rLen := by
  intro pins s σ H x y v u Q I rx ry h
  obtain ⟨a, c, xs, ys, rfl, rfl, ha, hc, hn, q⟩ := h
  cases rx
  cases ry
  obtain ⟨its, r, pl, _⟩ := I.list (SqL.of ha)
  obtain ⟨its2, r2, pl2, _⟩ := I.list (SqL.of hc)
  have e1 := r.length
  have e2 := r2.length
  exact PySem.SeqAt.eq_list_lengthsAt pl.isList pl2.isList (by simp only [List.size_toArray, bne_iff_ne]; omega) hu ⟨.bl false, H, I, rfl, q⟩
end
end L2

set_option Elab.async false
set_option linter.all false
set_option maxRecDepth 100000
set_option maxHeartbeats 4000000
namespace L2
open PySem PySem.Spec PyProof.Rows
section
variable {X : Cx} {pins : List (Addr × Obj)} {σ : St} {e : Expr} {te : TE} {pos p : Pos} {C : Addr} {x : Str}
/-! ### an instance of a class without an __init__ of its own -/
end
theorem same_after {H H1 : Hp} {x dx : Addr} {o1 o2 : HO} (hx : H x = none) (hd : H dx = none) (s : Same (upd (upd H dx (.own x)) x o1) H1) : Same H (upd H1 x o2) := fun b u q => by
  rw [upd_ne (ne_of_none q hx)]
  exact s _ _ (same_make0 hx hd b u q)
/-- a class as its makers have it -/
structure Ctor (P : Program) (w : World) (K : PySem.W.Frag) (mg : Str → Option Value) (base : Heap) (CX : CXT) (k : Nat) (x : Str) (C i : Addr) (fd : FuncData) (ps : List Str) (ds : List Value) (sp : Sp) : Prop where
  mkr : Mk K C i
  ok : FnOk P w K mg base CX k i fd ps sp
  mg : mg x = some (.ref C)
  bd : Binds K fd ps ds
section
variable {X : Cx} {CX : CXT} {k : Nat} {C i f : Addr} {fd : FuncData} {ps ks : List Str} {sp : Sp} {E : XK} {x m : Str} {p pos apos : Pos} {e : Expr} {es : List Expr} {t tk : TA} {ds : List Value} {dvs : List V} {kws : List Keyword}
  {g : List Value → List Value → List Value} {gV : List V → List V → List V}
theorem cMk (c : Ctor X.prog X.w X.K X.mg X.base CX k x C i fd ps ds sp) (hd : Vals dvs ds) (hp : Passes CX X E) (hr : Room (k + 1) X.A) (ha : PA X (e :: es) t) (hg : Gl X x := by rfl) (hdb : (x == ("__debug__" : Str)) = false := by decide)
    (h1 : isSt e = false := by rfl) (h2 : es.any isSt = false := by rfl) : PE X (.Call (.Name x p) (e :: es) [] pos) (tMake C sp dvs E t) := pe_make c.mkr c.ok hr hg c.mg c.bd hd hp ha hdb (star_cons h1) (star_any h2)
/-! ### C(e, .., k = v, ..) -/
/-! ### C.m(e, ..), C a class, m a def of it -/
structure ClsFn (K : PySem.W.Frag) (C : Addr) (m : Str) (f : Addr) : Prop where
  ga : PySem.W.specialIn K (.ref C) "__getattribute__" = some (some (.builtin "type.__getattribute__"))
  rd : PySem.W.readsIn K C (.type "type") = true
  fc : PySem.W.findCls K (.ref C) (.type "type") m = some (.val (.ref f))
  kp : PySem.W.keepIn K (.ref f) = true
theorem pe_cm {pl : Sem Bool} (B : ClsFn X.K C m f) (hm : X.mg x = some (.ref C)) (F : FnOk X.prog X.w X.K X.mg X.base CX k f fd ps sp) (hr : Room k X.A) (hb : Binds X.K fd ps []) (hx : Passes CX X E) (ha : PA X (e :: es) t) (hg : Gl X x := by rfl)
    (hdb : (x == ("__debug__" : Str)) = false := by decide) (h1 : isSt e = false := by rfl) (h2 : es.any isSt = false := by rfl)
    (ht : eval (.Call (.Attribute (.Name x p) m apos) (e :: es) [] pos) X.env = (do
      let ov ← eval (.Name x p) X.env
      standAt apos.atName
      let (f, first) ← holding [ov] (getMethod ov m pl)
      callWith pos f first (backTo pos (starEach (e :: es) X.env)) (backToKw pos (keywordEach [] X.env))) := by rfl) :
    PE X (.Call (.Attribute (.Name x p) m apos) (e :: es) [] pos) (tCall sp [] E t) := by
  refine ⟨?_⟩
  intro pins s σ H Q I h
  refine PySem.W.methodCall_KW (pl := pl) (ld_glob I hg hm ?_ hdb) ht
  refine PySem.W.method_cls I.kIn B.ga (PySem.W.cls_value I.kIn B.rd B.fc rfl ?_)
  have It := I.tok (s.toks + 1)
  refine PySem.W.callWith_K (first := []) (h₀ := X.base) I.ok.mod.kin B.kp (thn (ha pos pins _ σ H _ It h) fun us s2 ⟨vs, H2, I2, r, q2⟩ => ⟨I2.kIn, ?_⟩) (star_cons h1) (star_any h2)
  exact run_fn F hr hb .nil hx I2 r q2
end
end L2

set_option Elab.async false
set_option linter.all false
set_option maxRecDepth 100000
set_option maxHeartbeats 4000000
namespace L2
open PySem PySem.Spec PyProof.Rows
/-- a statement that is never reached -/
theorem ps_dead {X : Cx} {st : Stmt} : PS X st (fun _ _ _ => False) := ⟨fun _ _ _ _ _ _ h => h.elim⟩
/-! ### a set of texts -/
def SetT (P : Program) (w : World) (a : Addr) (S : Str → Bool) (n : Nat) (h : Heap) : Prop := h.SetOf (strKind P w) a S n
abbrev setO (P : Program) (w : World) (a : Addr) (S : Str → Bool) (n : Nat) : HO := .ext (SetT P w a S n)
theorem setO_ok {P : Program} {w : World} {H : Hp} {h : Heap} {a : Addr} {S : Str → Bool} {n : Nat} (e : h.SetOf (strKind P w) a S n) : ObjOk P w H h a (setO P w a S n) :=
  ⟨e, let ⟨o, _, _, _, h1, _⟩ := e; ⟨o, h1⟩, fun g1 g2 q k => let ⟨o, es, ep, t, h1, c⟩ := q; ⟨o, es, ep, t, k o h1, c⟩⟩
section
variable {X : Cx}
theorem call_set0 : CallR X (.type "set") (fun xs H Q => xs = [] ∧ ∀ p, H p = none → Q (.ref p) (upd H p (setO X.prog X.w p (fun _ => false) 0))) := by
  intro pins s σ H xs us Q I r h
  obtain ⟨rfl, q⟩ := h
  cases r
  refine call_set_0 fun led => ?_
  have hf : H s.heap.objs.size = none := I.hok.fresh (Nat.le_refl _)
  refine ⟨.ref s.heap.objs.size, _, I.laid (t' := s.toks) (fun b u e => Heap.get?_push_of_some _ e) (Nat.le_refl _) (setO_ok ?_), rfl, q _ hf⟩
  exact (setObjOf_fresh led).setOf (Heap.get?_push_size _ rfl) (by decide)
theorem op_in_setT : OpR X (compareOp .In) (fun x y H Q => ∃ (a : Addr) (S : Str → Bool) (n : Nat) (z : Str), x = .str z ∧ y = .ref a ∧ H a = some (setO X.prog X.w a S n) ∧ Q (.bl (S z)) H) := by
  intro pins s σ H x y v u Q I rx ry h
  obtain ⟨a, S, n, z, rfl, rfl, e, q⟩ := h
  obtain ⟨t, rfl⟩ := rx
  cases ry
  have hS : s.heap.SetOf (strKind X.prog X.w) a S n := (I.hok a _ e).1
  exact wpAny_inSet_of (strKind_is X.prog X.w z t) rfl hS ⟨.bl (S z), H, I.tok _, rfl, q⟩
def tSAdd (P : Program) (w : World) (to te : TE) : TE := fun σ H Q => to σ H fun x H1 => ∃ (a : Addr) (S : Str → Bool) (n : Nat), x = .ref a ∧ H1 a = some (setO P w a S n) ∧ te σ H1 fun y H2 => ∃ (S : Str → Bool) (n : Nat) (z : Str), y = .str z ∧ H2 a = some (setO P w a S n) ∧ n + 1 < scanBound ∧
  Q .non (upd H2 a (setO P w a (fun k => S k || decide (k = z)) (if S z then n else n + 1)))
theorem pe_sadd {o e : Expr} {apos cpos : Pos} {to te : TE} (ho : PE X o to) (he : PE X e te) (m : M1 X o "add" apos e cpos) : PE X (.Call (.Attribute o "add" apos) [e] [] cpos) (tSAdd X.prog X.w to te) := by
  refine ⟨?_⟩
  intro pins s σ H Q I h
  refine wpAny_Call_method m.base m.few m.line PySem.F.plainAttrs_set PySem.F.slot_set_add PySem.F.type_set_add (thn (ho pins s σ H _ I h) fun u s1 ⟨x, H1, I1, rx, a, S, n, ex, d, q1⟩ => ?_)
  subst ex
  obtain rfl : u = Value.ref a := rx
  have hS : s1.heap.SetOf (strKind X.prog X.w) a S n := (I1.hok a _ d).1
  refine ⟨hS.typeIs, hS.noDict, ?_⟩
  rw [m.trees]
  refine Calls.callWith_builtin rfl (Calls.evalArgs_plain (Calls.spliced_cons (thn (he pins s1 σ H1 _ I1 q1) fun iv s2 ⟨y, H2, I2, ry, S2, n2, z, ey, e2, hn, q2⟩ => Calls.spliced_nil ?_)))
  subst ey
  obtain ⟨t, rfl⟩ := ry
  have hS2 : s2.heap.SetOf (strKind X.prog X.w) a S2 n2 := (I2.hok a _ e2).1
  refine call_set_add (strKind_is X.prog X.w z t) rfl hS2 hn fun h' hs hS3 => ⟨.non, _, ?_, rfl, q2⟩
  refine I2.write (x := a) (e := a) (by rw [e2]; exact True.intro) (.inl rfl) (fun b q hb z => (hs.2 b hb).trans z) (let ⟨o, _, _, _, h1, _⟩ := hS3; ⟨o, h1⟩) (setO_ok hS3)
/-! ### o.m() of an instance of one of several classes -/
def tMethP (Cs : Addr → Prop) (m : Str) (sp : Sp) (E : XK) (ta : TE) : TE := fun σ H Q => ta σ H fun x H1 => ∃ a C dx fs, x = .ref a ∧ Cs C ∧ H1 a = some (.ins C dx fs) ∧ fs.lookup m = none ∧ sp [x] H1 Q E
theorem pe_methP {CX : CXT} {k : Nat} {f : Addr} {fd : FuncData} {ps : List Str} {sp : Sp} {E : XK} {m : Str} {pos apos : Pos} {o : Expr} {ta : TE} {Cs : Addr → Prop} {pl : Sem Bool} (he : PE X o ta) (hC : ∀ C, Cs C → Cls X.K C ∧ Meth X.K C m f) (F : FnOk X.prog X.w X.K X.mg X.base CX k f fd ps sp) (hr : Room k X.A) (hb : Binds X.K fd ps []) (hx : Passes CX X E)
    (ht : eval (.Call (.Attribute o m apos) [] [] pos) X.env = (do
      let ov ← eval o X.env
      standAt apos.atName
      let (f, first) ← holding [ov] (getMethod ov m pl)
      callWith pos f first (backTo pos (starEach [] X.env)) (backToKw pos (keywordEach [] X.env))) := by rfl) :
    PE X (.Call (.Attribute o m apos) [] [] pos) (tMethP Cs m sp E ta) := by
  refine ⟨?_⟩
  intro pins s σ H Q I h
  refine PySem.W.methodCall_KW (pl := pl) (thn (he pins s σ H _ I h) fun u s1 ⟨x, H1, I1, rx, a, C, dx, fs, ex, hc, ea, l, q⟩ => ?_) ht
  subst ex
  obtain rfl : u = Value.ref a := rx
  obtain ⟨c, hm⟩ := hC C hc
  refine getmeth_ok I1 ea c hm l ?_
  exact PySem.W.callWith_K0 (first := [.ref a]) I1.kIn hm.kp (run_fn (us := [.ref a]) (vs := [.ref a]) F hr hb .nil hx I1 (.cons rfl .nil) q)
/-! ### D[e], D a written dict of the text with texts as keys -/
structure KTab (w : World) (K : PySem.W.Frag) (a : Addr) (f : Str → Option V) : Prop where
  obj : ∃ es n, K.lookup a = some ⟨.type "dict", none, .dict es n, #[]⟩ ∧ PySem.W.KeysLit w.params es.toList
  vals : ∀ x v, f x = some v → ∃ u, PySem.W.nsIn K a x = some (some u) ∧ RelV v u
theorem pe_kget {e : Expr} {d : Str} {p pos : Pos} {a : Addr} {f : Str → Option V} {te : TE} (T : KTab X.w X.K a f) (hm : X.mg d = some (.ref a)) (he : PE X e te) (hg : Gl X d := by rfl) (hs : NoSl e := by first | exact fun _ _ => rfl | decide | rfl) (hdb : (d == ("__debug__" : Str)) = false := by decide) :
    PE X (.Subscript (.Name d p) e pos) (fun σ H Q => te σ H fun y H1 => ∃ x v, y = .str x ∧ f x = some v ∧ Q v H1) := by
  refine ⟨?_⟩
  intro pins s σ H Q I h
  obtain ⟨es, n, hl, hk⟩ := T.obj
  refine subD_of PySem.F.slot_dict_getitem.lookup hs (ld_glob I hg hm (thn (he pins s σ H _ I h) fun iv s2 ⟨y, H2, I2, ry, x, v, ey, ef, q2⟩ => ?_) hdb)
  subst ey
  obtain ⟨t, rfl⟩ := ry
  obtain ⟨u, eu, ru⟩ := T.vals x v ef
  have hmap := PySem.W.mapOf_K (prog := X.prog) (w := X.w) I2.kIn hl hk
  exact ⟨hmap.typeIs, wpAny_getItem_of (strKind_is X.prog X.w x t) hmap (PySem.W.find_K hl eu) ⟨v, H2, I2.tok _, ru, q2⟩⟩
end
end L2

set_option Elab.async false
set_option linter.all false
set_option maxRecDepth 100000
set_option maxHeartbeats 4000000
namespace L2
open PySem PySem.Spec PyProof.Rows
section
variable {X : Cx} {pins : List (Addr × Obj)} {σ : St} {H : Hp} {s : Shared} {sc : Scope} {fr Nc : List Str} {fp : List Addr} {C : Addr}
/-- the block at its entry: the list at D, the frame at C, both new -/
theorem comp_startO {caps : List (Option Nat)} {h' : Heap} {D : Addr} {m : Str → Option Value} {t' : Nat} {o0 : HO} (I : Inv X pins σ H s) (B : BlockOk X.env sc fr) (hf : ∀ b ∈ fp, FpOk X pins H b) (ho : ∀ b ∈ fp, ∃ o, s.heap.get? b = some o)
    (hC : s.heap.objs.size ≤ C) (hD : s.heap.objs.size ≤ D) (hDC : D ≠ C) (keep : ∀ b o, s.heap.get? b = some o → h'.get? b = some o) (new : ObjOk X.prog X.w (upd H D o0) h' D o0) (hn : h'.Ns C m)
    (hcap : capChk X.N Nc caps X.env sc fr = true) (hlen : caps.length = Nc.length) :
    Inv (compCx X pins sc fr Nc fp s H C) [] (capS caps σ) (upd H D o0) { s with heap := h', toks := t' } := by
  have hk : X.env.scope.kind = .function := I.ok.kind
  have fresh : ∀ a, s.heap.objs.size ≤ a → H a = none := fun a ha => I.hok.fresh ha
  refine ⟨comp_ok I B hf ho hC, rfl, I.bare, Un.laid keep hD (fresh D hD), ⟨m, hn, fun i x v e1 e2 e3 => ?_⟩, fun x c h => ?_, ?_, fun x c h => ?_, fun p hp => ?_, ?_, ?_⟩
  · -- a captured name
    have e2' : (caps[i]?).map (fun o => match o with | none => none | some j => (σ[j]?).join) = some (some v) := by
      have : (capS caps σ)[i]? = some (some v) := e2
      unfold capS at this
      rw [List.getElem?_map] at this
      exact this
    cases hc : caps[i]? with
    | none => rw [hc] at e2'; cases e2'
    | some o =>
      rw [hc] at e2'
      cases o with
      | none => simp at e2'
      | some j =>
        have e4 : (σ[j]?).join = some v := by simpa using e2'
        have e5 : σ[j]? = some (some v) := by
          cases q : σ[j]? with
          | none => rw [q] at e4; cases e4
          | some w' => rw [q] at e4; simp at e4; rw [e4]
        have e6 : (Nc.zip caps)[i]? = some (x, some j) := by
          rw [List.getElem?_zip_eq_some]
          exact ⟨e1, hc⟩
        have e7 := List.all_eq_true.mp hcap _ (List.mem_of_getElem? e6)
        simp only [Bool.and_eq_true, beq_iff_eq, List.contains_iff_mem] at e7
        obtain ⟨⟨⟨a1, a2⟩, a3⟩, a4⟩ := e7
        obtain ⟨m0, hn0, hl0⟩ := I.loc
        obtain ⟨u, r, l⟩ := hl0 j x v a1 e5 (.inr (.inl a2))
        refine ⟨u, r, .inr ⟨.inl (relabel_free hk a3 a2), _, clB_in a4, ?_⟩⟩
        rcases l with ⟨z, _⟩ | ⟨_, c, ec, hcell⟩
        · rw [a2] at z; cases z
        · have : (X.env.cells.lookup x).getD 0 = c := by rw [ec]; rfl
          rw [this]
          exact hcell.keeps keep
  · obtain ⟨v, hv⟩ := I.cell x c (B.sub h)
    exact ⟨v, hv.keeps keep⟩
  · show upd H D o0 C = none
    rw [upd_ne (Ne.symm hDC)]; exact fresh C hC
  · obtain ⟨v, hv⟩ := I.cell x c (B.sub h)
    have : c ≠ D := fun z => by have := hv.lt; rw [z] at this; exact absurd (Nat.lt_of_lt_of_le this hD) (Nat.lt_irrefl _)
    rw [upd_ne this]; exact I.freeC x c (B.sub h)
  · have hp' : p ∈ X.pn ++ pins := by simpa using hp
    obtain ⟨e, n, ne, nf, d⟩ := I.pin p hp'
    have hlt := I.pin_lt hp'
    refine ⟨keep _ _ e, ?_, ?_, fun z => ?_, d⟩
    · rw [upd_ne (fun z => by rw [z] at hlt; exact absurd (Nat.lt_of_lt_of_le hlt hD) (Nat.lt_irrefl _))]; exact n
    · intro z
      have z' : p.1 = C := z
      rw [z'] at hlt; exact absurd (Nat.lt_of_lt_of_le hlt hC) (Nat.lt_irrefl _)
    · rcases List.mem_cons.mp (I.stkSub p.1 z) with q | q
      · exact ne q
      · exact nf q
  · exact I.hok.laid keep hD new
  · show (capS caps σ).length = Nc.length
    unfold capS
    rw [List.length_map, hlen]
end
section
variable {prog : Program} {w : World} {A : Around} {R : Result → Shared → Prop} {s : Shared}
theorem compLoop_anyD {kx vx target iter : Expr} {ifs : List Expr} {scope : Scope} {pos : Pos} {it : Value} {D : Addr} {env : Env} (I : Nat → Shared → Prop)
    (turn : ∀ n s, I n s → wpAny (model prog w) A (pyNext it) (fun r s₁ => match r with
      | none => R (.ok .next) s₁
      | some v => wpAny (model prog w) A (letOwnedTupleGo target it v) (fun _ s₀ => wpAny (model prog w) A (assign target env v) (fun _ s₂ =>
          wpAny (model prog w) A (forIn ifs true fun c r => if r = true then do let ok ← isTrue c env (eval c env); pure (ForInStep.yield ok) else pure (ForInStep.yield r)) (fun ok s₃ =>
            if ok = true then wpAny (model prog w) A (eval kx env) (fun kv s₄ => wpAny (model prog w) A (eval vx env) (fun vv s₅ =>
              wpAny (model prog w) A (dictSet D kv vv) (fun _ s₆ => ∃ m, m < n ∧ I m s₆) (fun _ _ => False) s₅) (fun _ _ => False) s₄) (fun _ _ => False) s₃
            else ∃ m, m < n ∧ I m s₃) (fun _ _ => False) s₂) (fun _ _ => False) s₀) (fun _ _ => False) s₁) (fun _ _ => False) s)
    (n : Nat) (h : I n s) :
    codeAny (model prog w) A (.compLoop (.DictComp kx vx [⟨target, iter, ifs, 0⟩] scope pos) 0 it (.ref D) env) R s := by
  refine codeAny_loop rfl I (fun n s hI => ?_) n h
  show wpAny _ A ((compTurn (.DictComp kx vx [⟨target, iter, ifs, 0⟩] scope pos) 0 it (.ref D) env).onRaise (fun x => do noteFrame x env; theTreesLotGoes x)) _ _ s
  refine wpAny_noted ?_
  rw [compTurn_dict]
  refine wpAny_bind (wpAny_standAt (wpAny_bind (wpAny_mono (turn n s hI) (fun r s₁ h₁ => ?_) fun _ _ z => z.elim)))
  cases r with
  | none => exact wpAny_pure h₁
  | some v =>
    refine wpAny_bind (wpAny_mono h₁ (fun _ s₀ h₀ => ?_) fun _ _ z => z.elim)
    refine wpAny_bind (wpAny_mono h₀ (fun _ s₂ h₂ => wpAny_bind (wpAny_mono h₂ (fun ok s₃ h₃ => ?_) fun _ _ z => z.elim)) fun _ _ z => z.elim)
    cases ok with
    | false => exact wpAny_pure ⟨rfl, h₃⟩
    | true =>
      exact wpAny_bind (wpAny_bind (wpAny_mono h₃ (fun kv s₄ h₄ => wpAny_bind (wpAny_holding (wpAny_mono h₄ (fun vv s₅ h₅ => wpAny_bind (wpAny_standAt (wpAny_holding (wpAny_mono h₅ (fun _ s₆ h₆ => wpAny_pure ⟨rfl, h₆⟩) fun _ _ z => z.elim)))) fun _ _ z => z.elim))) fun _ _ z => z.elim))
end
/-- what is asked of a block that makes the dict at D -/
def DCr (J : It) (caps : List (Option Nat)) (g : TG) (tt : TT) (tk tv : TE) (σ : St) (H1 : Hp) (Q : VK) (D : Addr) : Prop :=
  ∃ W : Nat → Nat → List (Key × V) → Hp → Prop, (∃ m, W 0 m [] (upd H1 D (.dK []))) ∧ ∀ i m ys H, W i m ys H →
    (J.stop i H ∧ Q (.ref D) H) ∨
    (J.go i H ∧ ∀ x H', J.yld i H x H' → g x (capS caps σ) H' fun σ2 H2 => tt σ2 H2 fun ok H3 =>
      (ok = true → tk σ2 H3 fun y H4 => tv σ2 H4 fun v H5 => ∃ k, y = kV k ∧ H5 D = some (.dK ys) ∧ ys.length < sizeLine ∧ ∃ m', m' < m ∧ W (i + 1) m' (putK ys k v) (upd H5 D (.dK (putK ys k v)))) ∧
      (ok = false → ∃ m', m' < m ∧ W (i + 1) m' ys H3))
def tDC (wi : TI) (caps : List (Option Nat)) (g : TG) (tt : TT) (tk tv : TE) : TE := fun σ H Q => wi σ H fun J H1 => ∀ D, H1 D = none → DCr J caps g tt tk tv σ H1 Q D
section
variable {X : Cx} {pins : List (Addr × Obj)} {σ : St} {s : Shared} {sc : Scope} {fr Nc : List Str} {caps : List (Option Nat)} {kx vx tg iter : Expr} {ifs : List Expr} {g : TG} {tt : TT} {tk tv : TE} {ow : List Nat} {pos pos2 : Pos} {E : Value → Shared → Prop}
theorem sysLt {H : Hp} (I : Inv X pins σ H s) : sysModules < s.heap.objs.size := I.big
theorem comp_runD {H2 : Hp} {it : Addr} {fp : List Addr} {tn : Nat → Heap → Prop} {J : It} {Q : VK} {RR : Value → Addr → Result → Shared → Prop}
    (hc : X.calm = true) (B : BlockOk X.env sc fr) (go : GOwn g ow) (how : (ow.all fun i => caps[i]? == some none) = true) (hcap : capChk X.N Nc caps X.env sc fr = true) (hlen : caps.length = Nc.length)
    (hb : ∀ (pins : List (Addr × Obj)) (fp : List Addr) (s : Shared) (H : Hp) (C : Addr), PG (compCx X pins sc fr Nc fp s H C) tg g ∧ PIf (compCx X pins sc fr Nc fp s H C) ifs tt ∧ PE (compCx X pins sc fr Nc fp s H C) kx tk ∧ PE (compCx X pins sc fr Nc fp s H C) vx tv)
    (I2 : Inv X pins σ H2 s) (T : Turn X.prog X.w X.K tg J fp it tn) (st2 : tn 0 s.heap) (f2 : ∀ b ∈ fp, FpOk X pins H2 b) (h : ∀ D, H2 D = none → DCr J caps g tt tk tv σ H2 Q D)
    (fin : ∀ (D C : Addr) (σ' : St) (H' : Hp) (s' : Shared), Inv (compCx X pins sc fr Nc fp s H2 C) [] σ' H' s' → Q (.ref D) H' → RR (.ref D) C (.ok .next) s') :
    wpAny (model X.prog X.w) X.A newDict (fun acc s₃ => wpAny (model X.prog X.w) X.A (newFunctionEnv sc X.env.globals (clB X.env fr) [] X.env.qual none .none (some X.env)) (fun cenv s₄ =>
      codeAny (model X.prog X.w) X.A (.compStart (.DictComp kx vx [⟨tg, iter, ifs, 0⟩] sc pos) 0 (.ref it) acc { cenv with scope := relabel sc X.env }) (RR acc cenv.locals) s₄) E s₃) E s := by
  have hcell : ∀ y ∈ sc.names, y.2 ≠ .cell := fun y hy => by
    have h3 := List.all_eq_true.mp B.names _ hy
    simp only [Bool.and_eq_true, bne_iff_ne, ne_eq] at h3
    exact h3.1.1
  refine wpAny_newObj_type (wpAny_newFunctionEnv hcell (by intro y hy; simp at hy) (fun h₁ hns₁ hsb₁ => ?_) B.kind)
  dsimp only at hns₁ hsb₁ ⊢
  have hnew : (s.heap.push { cls := .type "dict", dict := none, data := .dict #[] }).DictOf (mixKind X.prog X.w) s.heap.objs.size [] := Heap.DictOf.new s.heap
  generalize hH2 : s.heap.push { cls := .type "dict", dict := none, data := .dict #[] } = H3 at hns₁ hsb₁ hnew ⊢
  have hCs : H3.objs.size = s.heap.objs.size + 1 := by rw [← hH2, Heap.size_push]
  have hDC : s.heap.objs.size ≠ H3.objs.size := by rw [hCs]; exact Nat.ne_of_lt (Nat.lt_succ_self _)
  have hC : s.heap.objs.size ≤ H3.objs.size := by rw [hCs]; exact Nat.le_succ _
  have old : ∀ b o, s.heap.get? b = some o → h₁.get? b = some o := fun b o e =>
    hsb₁.extBut b o (Nat.ne_of_lt (Nat.lt_of_lt_of_le (Heap.lt_size e) hC)) (Heap.get?_push_of_some _ (hH2 ▸ Heap.get?_push_of_some _ e))
  have hsm : sysModules < s.heap.objs.size := sysLt I2
  have hD : h₁.DictOf (mixKind X.prog X.w) s.heap.objs.size [] := hnew.at fun o e => hsb₁.extBut _ _ hDC (Heap.get?_push_of_some _ e)
  have hDo : ∀ H', ObjOk X.prog X.w H' h₁ s.heap.objs.size (.dK []) := fun _ => ⟨Nat.zero_le _, beq_eq_false_iff_ne.mpr (Ne.symm (Nat.ne_of_lt hsm)), [], .nil, hD⟩
  have ho : ∀ b ∈ fp, ∃ o, s.heap.get? b = some o := fun b hb' => let ⟨o, e, _⟩ := T.obj 0 _ st2 b hb'; ⟨o, e⟩
  have I4 : ∀ t', Inv (compCx X pins sc fr Nc fp s H2 H3.objs.size) [] (capS caps σ) (upd H2 s.heap.objs.size (.dK [])) { s with heap := h₁, toks := t' } := fun t' =>
    comp_startO I2 B f2 ho hC (Nat.le_refl _) hDC old (hDo _) hns₁ hcap hlen
  have ok := (I4 0).ok
  obtain ⟨hbg, hbt, hbk, hbv⟩ := hb pins fp s H2 H3.objs.size
  obtain ⟨W, ⟨m0, w0⟩, turn⟩ := h s.heap.objs.size (I2.hok.fresh (Nat.le_refl _))
  have stat : ∀ {H' : Hp}, (∀ b ∈ fp, H' b = none) → ∀ b ∈ fp, FpOk (compCx X pins sc fr Nc fp s H2 H3.objs.size) [] H' b := fun hn b hb' =>
    ⟨hn b hb', (ok.exf b hb').1, ok.exfs b hb', .inl hb', (ok.exf b hb').2, fun p hp => (f2 b hb').2.2.2.2.2 p (by simpa using hp)⟩
  have hfp0 : ∀ b ∈ fp, upd H2 s.heap.objs.size (.dK []) b = none := fun b hb' => by
    obtain ⟨o, e⟩ := ho b hb'
    rw [upd_ne (Nat.ne_of_lt (Heap.lt_size e))]
    exact (f2 b hb').1
  have loop : ∀ s₃ : Shared, s₃ = { s with heap := h₁, toks := s.toks + ([] : List (Str × Value)).length } →
      codeAny (model X.prog X.w) X.A (.compLoop (.DictComp kx vx [⟨tg, iter, ifs, 0⟩] sc pos) 0 (.ref it) (.ref s.heap.objs.size) (compEnvC sc (clB X.env fr) H3.objs.size X.env)) (RR (.ref s.heap.objs.size) H3.objs.size) s₃ := by
    rintro s₃ rfl
    refine compLoop_anyD (fun n s' => ∃ i σ' H' ys, Inv (compCx X pins sc fr Nc fp s H2 H3.objs.size) [] σ' H' s' ∧ tn i s'.heap ∧ (∀ b ∈ fp, H' b = none) ∧ W i n ys H' ∧
      (∀ (k : Nat) (v : V), (capS caps σ)[k]? = some (some v) → σ'[k]? = some (some v))) ?_ m0
      ⟨0, _, _, [], I4 _, T.keep _ _ _ st2 (fun b _ o e => old b o e), hfp0, w0, fun _ _ e => e⟩
    rintro n s3 ⟨i, σ3, H4, ys, I3, st3, fr3, w3, wk3⟩
    have I3' : Inv (compCx X pins sc fr Nc fp s H2 H3.objs.size) [] (capS caps σ) H4 s3 := I3.weak (by rw [I3.len]; exact (I4 0).len) wk3
    rcases turn i n ys H4 w3 with ⟨stop, qn⟩ | ⟨gg, step⟩
    · refine thn (T.done (compCx X pins sc fr Nc fp s H2 H3.objs.size) rfl rfl rfl hc i [] s3 _ H4 (fun _ _ => False) I3' (stat fr3) st3 stop) fun r s4 ⟨hr, I4'⟩ => ?_
      subst hr
      exact fin _ _ _ _ _ I4' qn
    · refine thn (T.item (compCx X pins sc fr Nc fp s H2 H3.objs.size) rfl rfl rfl hc i [] s3 _ H4 (fun _ _ => False) I3' (stat fr3) st3 gg) fun r s4 ⟨u, hr, h4⟩ => ?_
      subst hr
      refine thn h4 fun _ s5 ⟨x, H5, I5, r5, y5, st5, fr5⟩ => ?_
      have I5' := I5.pinned (stat fr5) (T.obj _ _ st5)
      refine thn (hbg _ s5 _ H5 x u _ I5' r5 (go _ _ _ _ (step x H5 y5))) fun _ s6 ⟨σ6, H6, I6, q6, l6, k6⟩ => ?_
      have wk6 : ∀ (k : Nat) (v : V), (capS caps σ)[k]? = some (some v) → σ6[k]? = some (some v) := fun k v e => by
        rw [k6 k fun hk => ?_]
        · exact e
        · have h1 := List.all_eq_true.mp how k hk
          have h2 : caps[k]? = some none := by simpa using h1
          unfold capS at e
          rw [List.getElem?_map, h2] at e
          cases e
      refine thn (hbt _ s6 σ6 H6 _ I6 q6) fun ok s7 ⟨H7, I7, q7⟩ => ?_
      have again : ∀ {H8 : Hp} {s8 : Shared} {ys' : List (Key × V)}, Inv (compCx X pins sc fr Nc fp s H2 H3.objs.size) ([] ++ pinsAt fp s5.heap) σ6 H8 s8 → (∃ m', m' < n ∧ W (i + 1) m' ys' H8) →
          ∃ m, m < n ∧ ∃ i σ' H' ys, Inv (compCx X pins sc fr Nc fp s H2 H3.objs.size) [] σ' H' s8 ∧ tn i s8.heap ∧ (∀ b ∈ fp, H' b = none) ∧ W i m ys H' ∧ (∀ (k : Nat) (v : V), (capS caps σ)[k]? = some (some v) → σ'[k]? = some (some v)) := fun {H8 s8 ys'} I8 ⟨m', hm, w8⟩ => by
        refine ⟨m', hm, i + 1, σ6, H8, ys', I8.unpinned, T.keep _ _ _ st5 fun b hb' o e => (I8.pin (b, o) (List.mem_append_right _ (List.mem_append_right _ (mem_pinsAt hb' e)))).1, fun b hb' => ?_, w8, wk6⟩
        obtain ⟨o, e, d⟩ := T.obj _ _ st5 b hb'
        exact (I8.pin (b, o) (List.mem_append_right _ (List.mem_append_right _ (mem_pinsAt hb' e)))).2.1
      cases ok with
      | false =>
        rw [if_neg Bool.false_ne_true]
        exact again I7 (q7.2 rfl)
      | true =>
        rw [if_pos rfl]
        refine thn (hbk _ s7 σ6 H7 _ I7 (q7.1 rfl)) fun uk s8 ⟨y, H8, I8, r8, q8⟩ => ?_
        refine thn (hbv _ s8 σ6 H8 _ I8 q8) fun uv s9 ⟨v, H9, I9, r9, k, ey, hD9, hz, q9⟩ => ?_
        subst ey
        obtain ⟨z, hd, vs, rel, dd⟩ := dk_of I9.hok hD9
        have hzs : vs.length ≤ sizeLine := by rw [← rel.length]; exact z
        have hl : (putK ys k v).length ≤ sizeLine := by have := length_putK ys k v; omega
        refine wpAny_dictSet_pairs (hsz := hzs) (kV_is r8) dd fun h' dd' hs => ?_
        have he : ∃ q, h'.get? s.heap.objs.size = some q := let ⟨q, _, _, hq, _⟩ := dd'; ⟨q, hq⟩
        exact again (d_write I9 (by rw [hD9]; exact True.intro) hs he (dk_new hl hd (rel.put k r9) dd')) q9
  exact codeAny_compStart_dict (loop _ rfl) (T.self _ 0 _ _ _ (T.keep _ _ _ st2 (fun b _ o e => old b o e)) (loop _ rfl))
theorem pe_dc {wi : TI} (fr Nc : List Str) (caps : List (Option Nat)) (hc : X.calm = true) (B : BlockOk X.env sc fr) (hi : PI X tg iter wi) (go : GOwn g ow) (how : (ow.all fun i => caps[i]? == some none) = true)
    (hcap : capChk X.N Nc caps X.env sc fr = true) (hlen : caps.length = Nc.length)
    (hb : ∀ (pins : List (Addr × Obj)) (fp : List Addr) (s : Shared) (H : Hp) (C : Addr), PG (compCx X pins sc fr Nc fp s H C) tg g ∧ PIf (compCx X pins sc fr Nc fp s H C) ifs tt ∧ PE (compCx X pins sc fr Nc fp s H C) kx tk ∧ PE (compCx X pins sc fr Nc fp s H C) vx tv)
    (hs : ∀ x, foldedSetIterable iter X.env x = pure x := by intro _; rfl) : PE X (.DictComp kx vx [⟨tg, iter, ifs, 0⟩] sc pos) (tDC wi caps g tt tk tv) := by
  refine ⟨?_⟩
  intro pins s σ H Q I h
  rw [arm_eval_DictComp]
  refine wpAny_comprehension_free (use := none) rfl hs B.clos B.kind B.loc (thn (hi pins s σ H _ I h) fun v s1 h1 => thn h1 fun itv s2 h2 => ?_)
  obtain ⟨it, fp, tn, J, H2, e, I2, T, st2, f2, q⟩ := h2
  subst e
  refine comp_runD (RR := fun acc C => compPost (model X.prog X.w) X.A X.xe none (EP X pins σ Q) acc C) hc B go how hcap hlen hb I2 T st2 f2 q ?_
  intro D C σ' H' s' J' qq
  obtain ⟨m, hn, _⟩ := J'.loc
  exact ⟨m, hn, fun h' hs' => ⟨.ref D, H', comp_gone I2 J' (comp_back I2 f2 J') hs', rfl, qq⟩⟩
end
end L2

set_option Elab.async false
set_option linter.all false
set_option maxRecDepth 100000
set_option maxHeartbeats 4000000
namespace L2
open PySem PySem.Spec PyProof.Rows
/-! ### xs[::-1] -/
/-! ### xs.index(t): tuples of flat items -/
end L2

set_option Elab.async false
set_option linter.all false
set_option maxRecDepth 100000
set_option maxHeartbeats 4000000
namespace K91
open PySem L2 PyProof.Rows
def top (i : Nat) : Stmt := PySem.Challenge.pw_callbinds_k91_texts_there_and_back.main.body.getD i (.Pass ⟨0, 0, 0, 0⟩)
abbrev sIs : Stmt := top 13
abbrev sPInit : Stmt := inClass (top 29) 0
abbrev sFree : Stmt := inClass (top 29) 1
abbrev sByPlace : Stmt := inClass (top 29) 2
abbrev sByName : Stmt := inClass (top 29) 3
abbrev sTakes : Stmt := inClass (top 29) 4
abbrev sTold : Stmt := inClass (top 29) 5
abbrev sSeat : Stmt := inClass (top 30) 0
abbrev sBoth : Stmt := inClass (top 31) 0
abbrev sTail : Stmt := inClass (top 32) 0
abbrev sTag : Stmt := inClass (top 33) 0
abbrev sBag : Stmt := inClass (top 34) 0
abbrev sFInit : Stmt := inClass (top 19) 0
abbrev sKeep : Stmt := inClass (top 19) 1
abbrev sFPars : Stmt := inClass (top 19) 2
abbrev sFBars : Stmt := inClass (top 19) 3
abbrev sFTold : Stmt := inClass (top 19) 8
abbrev sPof : Stmt := top 35
abbrev sRMany : Stmt := top 20
abbrev sROrder : Stmt := top 21
abbrev sRBars : Stmt := top 22
abbrev sRTwice : Stmt := top 23
abbrev sNumW : Stmt := top 24
abbrev sLaid : Stmt := top 2
abbrev sShF : Stmt := top 46
abbrev sShP : Stmt := top 47
abbrev sShC : Stmt := top 48
abbrev sShI : Stmt := top 49
abbrev sShT : Stmt := top 50
abbrev sShPs : Stmt := top 51
abbrev sShPr : Stmt := top 52
abbrev sRdF : Stmt := top 53
abbrev sPcs : Stmt := top 54
abbrev sRdP : Stmt := top 55
abbrev sFO : Stmt := top 56
abbrev sRdC : Stmt := top 57
abbrev sRdI : Stmt := top 58
abbrev sWW : Stmt := top 59
abbrev sRdPr : Stmt := top 60
abbrev sRdN : Stmt := top 61
abbrev sRGr : Stmt := top 62
abbrev sNth : Stmt := top 64
abbrev sNum : Stmt := top 65
abbrev sMix : Stmt := top 66
abbrev sPool : Stmt := top 67
abbrev sSpecs : Stmt := top 68
abbrev sBars : Stmt := top 69
abbrev sThing : Stmt := top 70
abbrev sItems : Stmt := top 71
abbrev sFText : Stmt := top 72
abbrev sIText : Stmt := top 73
abbrev sCText : Stmt := top 74
abbrev sIsC : Stmt := top 75
abbrev sLaw : Stmt := top 76
/-! ### the mathematics of names -/
def low (c : Nat) : Bool := decide (97 ≤ c) && decide (c ≤ 122)
def nameB (z : Str) : Bool := decide (1 ≤ z.length) && decide (z.length ≤ 8) && z.cps.toList.all low
def nmV : V → Bool
  | .str z => nameB z
  | _ => false
def OkS (z : Str) : Prop := z.length ≤ 1000 ∧ ∀ c ∈ z.cps.toList, c < 128
def OkV (K : PySem.W.Frag) (H : Hp) (x : V) : Prop := (∃ z, x = .str z ∧ OkS z) ∨ (nmV x = false ∧ ∃ t, TyOf K H x t ∧ PySem.W.kitOne K t (.type "str") = some false)
theorem nameB_iff {z : Str} : nameB z = true ↔ 1 ≤ z.length ∧ z.length ≤ 8 ∧ ∀ c ∈ z.cps.toList, 97 ≤ c ∧ c ≤ 122 := by
  unfold nameB low
  simp only [Bool.and_eq_true, decide_eq_true_eq, List.all_eq_true]
  constructor
  · rintro ⟨⟨a, b⟩, c⟩; exact ⟨a, b, c⟩
  · rintro ⟨a, b, c⟩; exact ⟨⟨a, b⟩, c⟩
theorem nameB_long {z : Str} (h : z.length = 0 ∨ 9 ≤ z.length) : nameB z = false := by
  cases e : nameB z with
  | false => rfl
  | true =>
    have := nameB_iff.mp e
    omega
theorem nameB_ok {z : Str} (h : nameB z = true) : OkS z := by
  obtain ⟨_, h2, h3⟩ := nameB_iff.mp h
  exact ⟨by omega, fun c hc => by have := h3 c hc; omega⟩
def letters : Str := "abcdefghijklmnopqrstuvwxyz"
theorem letters_in : ∀ c : Nat, c < 128 → (!(Builtin.Str.occurrences letters ⟨#[c]⟩ 0 letters.length 1).isEmpty) = low c := by decide +kernel
theorem same_new {H : Hp} {p : Addr} (h : H p = none) (o : HO) : Same H (upd H p o) := fun b u q => by rw [upd_ne (ne_of_none q h)]; exact q
theorem tyOf_same {K : PySem.W.Frag} {H H' : Hp} {x : V} {t : Value} (s : Same H H') (h : TyOf K H x t) : TyOf K H' x t := by
  cases h with
  | non => exact .non
  | bl b => exact .bl b
  | int i => exact .int i
  | str z => exact .str z
  | flt z => exact .flt z
  | lst e => exact .lst (s _ _ e)
  | frz e => exact .frz (s _ _ e)
  | tup e => exact .tup (s _ _ e)
  | dK e => exact .dK (s _ _ e)
  | dT e => exact .dT (s _ _ e)
  | ins e a b c d f => exact .ins (s _ _ e) a b c d f
theorem OkV.same {K : PySem.W.Frag} {H H' : Hp} {x : V} (s : Same H H') (h : OkV K H x) : OkV K H' x := by
  rcases h with h | ⟨h, t, ty, e⟩
  · exact .inl h
  · exact .inr ⟨h, t, tyOf_same s ty, e⟩
theorem nd1 : ([Str.ofString "sign"] : List Str).Nodup := by decide +kernel
/-! ### the promises -/
def spIs (K : PySem.W.Frag) : Sp := fun vs H Q _ => ∃ x, vs = [x] ∧ OkV K H x ∧ ∀ H', Same H H' → Q (.bl (nmV x)) H'
structure Txt1 (K : PySem.W.Frag) (mg : Str → Option Value) : Prop where
  isi : mg "isinstance" = none
  str : mg "str" = none
  bool : mg "bool" = none
  len : mg "len" = none
  all : mg "all" = none
  range : mg "range" = none
  letters : ∃ t, mg "LETTERS" = some (.str letters t)
  longest : ∃ t, mg "LONGEST" = some (.int 8 t)
  kNon : PySem.W.kitOne K (.type "NoneType") (.type "str") = some false
  kInt : PySem.W.kitOne K (.type "int") (.type "str") = some false
  kBl : PySem.W.kitOne K (.type "bool") (.type "str") = some false
  kLst : PySem.W.kitOne K (.type "list") (.type "str") = some false
  kTup : PySem.W.kitOne K (.type "tuple") (.type "str") = some false
  kDct : PySem.W.kitOne K (.type "dict") (.type "str") = some false
  kStr : PySem.W.kitOne K (.type "str") (.type "str") = some true
  bBl : PySem.W.kitOne K (.type "bool") (.type "bool") = some true
end K91

set_option Elab.async false
set_option linter.all false
set_option maxRecDepth 100000
set_option maxHeartbeats 4000000
namespace K91
open PySem L2 PyProof.Rows
section
variable {P : Program} {w : World} {K : PySem.W.Frag} {mg : Str → Option Value} {base : Heap} {f : Addr} {fd : FuncData}
theorem scIs : FnScope ["thing"] ["thing"] (defScope sIs) := ⟨rfl, rfl, rfl, by decide +kernel, rfl, by decide +kernel, by decide +kernel⟩
theorem ok_is (F : Fun K "is_name" "is_name" sIs f fd) (T : Txt1 K mg) : FnOk P w K mg base CX0 1 f fd ["thing"] (spIs K) := by
  refine F.ok scIs (fun vs H Q E h => ?_) (fun cdv A outer s H vs Q E hr h => ?_)
  · obtain ⟨x, rfl, _⟩ := h
    rfl
  obtain ⟨x, rfl, hx, q⟩ := h
  obtain ⟨tL, hL⟩ := T.letters
  obtain ⟨tN, hN⟩ := T.longest
  refine ⟨_, pss_cons (ps_if (PW.pt (pw_or (pt_not (pt_val (cB call_isinst T.isi boot_isinstance (ac (pv 0) (ac (pe_bltn (v := .ty "str") rfl T.str PyProof.Rows.boot_str rfl) pa_nil)))))
      (pw_or1 (pt_not (pt_chain op_le op_le pe_int (cB call_len_str T.len PySem.boot_len (ac (pv 0) pa_nil)) (pe_glob (v := .int 8) rfl hN ⟨_, rfl⟩))))))
      (pss_one (ps_ret pe_bl)) pss_nil)
    (pss_one (ps_ret (cB (call_allB rfl) T.all boot_all (ac (pe_lc [] ["sign"] [none] rfl ⟨rfl, rfl, rfl, rfl⟩ (pi_str (pv 0)) (gown_name 0) rfl rfl rfl
      (fun pins fp s H C => ⟨pg_name (i := 0) nd1 rfl (Or.inl rfl) (.inr rfl), pif_nil, pe_cmpR op_in_str (pv 0) (pe_glob (v := .str letters) rfl hL ⟨_, rfl⟩) (by with_unfolding_all rfl)⟩)) pa_nil)))), ?_⟩
  rcases hx with ⟨z, rfl, hz1, hz2⟩ | ⟨hn, t, ty, e⟩
  · refine ⟨_, rfl, _, _, _, _, rfl, .str z, T.kStr, _, rfl, ?_⟩
    refine iteF ?_
    refine ⟨_, rfl, z, rfl, Nat.le_trans hz1 (by decide), _, _, rfl, rfl, _, rfl, ?_⟩
    have no : nameB z = false → Q (.bl false) H := fun e => by
      have := q H (Same.refl H)
      have e' : nmV (.str z) = false := e
      rw [e'] at this
      exact this
    refine ite2 (fun c => ?_) (fun c => ?_)
    · have c' : (1 : Int) ≤ (z.length : Int) := of_decide_eq_true c
      refine ⟨_, _, rfl, rfl, _, rfl, ?_⟩
      by_cases h8 : (z.length : Int) ≤ 8
      · rw [decide_eq_true h8]
        refine iteF ?_
        -- all([sign in LETTERS for sign in thing])
        refine ⟨_, rfl, z, rfl, fun D hD => ?_⟩
        refine ⟨fun i m ys H' => i ≤ z.cps.size ∧ m = z.cps.size - i ∧ ys = (z.cps.toList.take i).map (fun c => V.bl (low c)) ∧ H' = upd H D (.lst ys), ⟨_, Nat.zero_le _, rfl, rfl, rfl⟩, ?_⟩
        rintro i m ys H' ⟨hi, rfl, rfl, rfl⟩
        by_cases he : i = z.cps.size
        · subst he
          refine .inl ⟨Nat.le_refl _, ?_⟩
          refine ⟨D, z.cps.toList.map low, rfl, SqL.of ?_, ?_⟩
          · rw [upd_same, List.take_of_length_le (by simp), List.map_map]
            rfl
          · have e : (z.cps.toList.map low).all id = nmV (.str z) := by
              show _ = nameB z
              unfold nameB
              rw [decide_eq_true (show 1 ≤ z.length by omega), decide_eq_true (show z.length ≤ 8 by omega), List.all_map]
              rfl
            rw [e]
            exact q _ (same_new hD _)
        · refine .inr ⟨by show i < z.cps.size; omega, ?_⟩
          rintro x H' ⟨rfl, c, hc, rfl⟩
          refine ⟨fun _ => ?_, fun e => Bool.noConfusion e⟩
          refine ⟨_, rfl, _, _, rfl, rfl, upd_same, ?_, z.cps.size - (i + 1), by omega, by omega, rfl, ?_, ?_⟩
          · rw [List.length_map, List.length_take]
            have : z.cps.size ≤ 1000 := hz1
            exact small1000 (by omega)
          · have hc' : z.cps.toList[i]? = some c := by simpa using hc
            have hlow := letters_in c (hz2 c (List.mem_of_getElem? hc'))
            rw [hlow, List.take_add_one, hc', List.map_append]
            rfl
          · rw [upd_upd]
      · rw [decide_eq_false h8]
        refine iteT ?_
        exact no (nameB_long (.inr (by omega)))
    · have c' : ¬ (1 : Int) ≤ (z.length : Int) := of_decide_eq_false (Bool.eq_false_iff.mpr c)
      refine ⟨_, rfl, ?_⟩
      exact iteT (no (nameB_long (.inl (by omega))))
  · refine ⟨_, rfl, _, _, _, _, rfl, ty, e, _, rfl, ?_⟩
    refine iteT ?_
    refine iteT ?_
    have := q H (Same.refl H)
    rw [hn] at this
    exact this


end
end K91

set_option Elab.async false
set_option linter.all false
set_option maxRecDepth 100000
set_option maxHeartbeats 4000000
namespace K91
open PySem L2 PyProof.Rows
theorem dT {A B : Prop} {c : Prop} [Decidable c] (h : c) (a : A) : if decide c = true then A else B := by rw [decide_eq_true h]; exact iteT a
theorem dF {A B : Prop} {c : Prop} [Decidable c] (h : ¬ c) (b : B) : if decide c = true then A else B := by rw [decide_eq_false h]; exact iteF b
def kw : Nat → Str
  | 0 => "seat" | 1 => "both" | 2 => "tail" | 3 => "tag" | _ => "bag"
def rowV (k : Nat) (x : V) (b : Bool) : List V := match k with
  | 0 => [.str "seat", x, .bl b] | 1 => [.str "both", x, .bl b] | 2 => [.str "tail", x] | 3 => [.str "tag", x, .bl b] | _ => [.str "bag", x]
def fr (k : Nat) (b : Bool) : Bool := match k with
  | 0 => b | 1 => b | 2 => true | 3 => b | _ => true
theorem lt5 {k : Nat} (h : k < 5) : k = 0 ∨ k = 1 ∨ k = 2 ∨ k = 3 ∨ k = 4 := by omega
/-- the attributes of a parameter -/
def pf (wd : Str) (x : V) (b : Bool) : List (Str × V) := putF "may_lack" (.bl b) (putF "name" x (putF "word" (.str wd) []))
theorem pf_word {wd : Str} {x : V} {b : Bool} : (pf wd x b).lookup ("word" : Str) = some (.str wd) := by
  unfold pf
  rw [lookup_putF, if_neg (by decide +kernel), lookup_putF, if_neg (by decide +kernel), lookup_putF, if_pos rfl]
theorem pf_name {wd : Str} {x : V} {b : Bool} : (pf wd x b).lookup ("name" : Str) = some x := by
  unfold pf
  rw [lookup_putF, if_neg (by decide +kernel), lookup_putF, if_pos rfl]
theorem pf_lack {wd : Str} {x : V} {b : Bool} : (pf wd x b).lookup ("may_lack" : Str) = some (.bl b) := by
  unfold pf
  rw [lookup_putF, if_pos rfl]
theorem pf_no {wd : Str} {x : V} {b : Bool} {m : Str} (h1 : ¬ m = "may_lack") (h2 : ¬ m = "name") (h3 : ¬ m = "word") : (pf wd x b).lookup m = none := by
  unfold pf
  rw [lookup_putF, if_neg h1, lookup_putF, if_neg h2, lookup_putF, if_neg h3]
  rfl
/-- the methods' defs -/
structure MA where
  (fF fP fB fT fO : Addr)
structure PC (K : PySem.W.Frag) (m : MA) (C : Addr) : Prop where
  cl : Cls K C
  nW : NoAttr K C "word"
  nN : NoAttr K C "name"
  nM : NoAttr K C "may_lack"
  mF : Meth K C "free" m.fF
  mP : Meth K C "by_place" m.fP
  mB : Meth K C "by_name" m.fB
  mT : Meth K C "takes_one" m.fT
  mO : Meth K C "told" m.fO
def spP (K : PySem.W.Frag) (m : MA) : Sp := fun vs H Q _ => ∃ (p dx C : Addr) (wd : Str) (x : V) (b : Bool), vs = [.ref p, .str wd, x, .bl b] ∧ H p = some (.ins C dx []) ∧ PC K m C ∧ OkV K H x ∧ nmV x = true ∧ ∀ H1, Same H H1 → Q .non (upd H1 p (.ins C dx (pf wd x b)))
def spS (K : PySem.W.Frag) (C : Addr) (wd : Str) : Sp := fun vs H Q _ => ∃ (p dx : Addr) (x : V) (b : Bool), vs = [.ref p, x, .bl b] ∧ H p = some (.ins C dx []) ∧ OkV K H x ∧ nmV x = true ∧ ∀ H1, Same H H1 → Q .non (upd H1 p (.ins C dx (pf wd x b)))
def spT (K : PySem.W.Frag) (C : Addr) (wd : Str) : Sp := fun vs H Q _ => ∃ (p dx : Addr) (x : V), vs = [.ref p, x] ∧ H p = some (.ins C dx []) ∧ OkV K H x ∧ nmV x = true ∧ ∀ H1, Same H H1 → Q .non (upd H1 p (.ins C dx (pf wd x true)))
def bpL : List V := [.str "seat", .str "both"]
def bnL : List V := [.str "both", .str "tag"]
def otL : List V := [.str "seat", .str "both", .str "tag"]
def spFree (K : PySem.W.Frag) (m : MA) : Sp := fun vs H Q _ => ∃ (p dx C : Addr) (wd : Str) (x : V) (b : Bool), vs = [.ref p] ∧ PC K m C ∧ H p = some (.ins C dx (pf wd x b)) ∧ Q (.bl b) H
def spIn (K : PySem.W.Frag) (m : MA) (l : List V) : Sp := fun vs H Q _ => ∃ (p dx C : Addr) (wd : Str) (x : V) (b : Bool), vs = [.ref p] ∧ PC K m C ∧ H p = some (.ins C dx (pf wd x b)) ∧ Q (.bl (inV (.str wd) l)) H
def spTold (K : PySem.W.Frag) (m : MA) : Sp := fun vs H Q _ => ∃ (p dx C : Addr) (k : Nat) (x : V) (b : Bool), vs = [.ref p] ∧ k < 5 ∧ PC K m C ∧ H p = some (.ins C dx (pf (kw k) x (fr k b))) ∧ ∀ (r : Addr) (H' : Hp), Same H H' → H' r = some (.tup (rowV k x b)) → Q (.ref r) H'
/-- the written tuples of words -/
structure Wds (K : PySem.W.Frag) (mg : Str → Option Value) (tP tB tO : Addr) : Prop where
  mP : mg "BY_PLACE" = some (.ref tP)
  mB : mg "BY_NAME" = some (.ref tB)
  mO : mg "OF_ONE_THING" = some (.ref tO)
  hP : ∀ H, SqT K H tP bpL
  hB : ∀ H, SqT K H tB bnL
  hO : ∀ H, SqT K H tO otL
section
variable {P : Program} {w : World} {K : PySem.W.Frag} {mg : Str → Option Value} {base : Heap} {f C tP tB tO : Addr} {fd : FuncData} {m : MA}
theorem scPInit : FnScope ["self", "word", "name", "may_lack"] ["self", "word", "name", "may_lack"] (defScope sPInit) := ⟨rfl, rfl, rfl, by decide +kernel, rfl, by decide +kernel, by decide +kernel⟩
theorem ok_pinit {g : Addr} {gd : FuncData} (F : Fun K "__init__" "Parameter.__init__" sPInit f fd) (cI : Callee P w K mg base 1 "is_name" g gd ["thing"] (spIs K)) :
    FnOk P w K mg base CX0 2 f fd ["self", "word", "name", "may_lack"] (spP K m) := by
  refine F.ok scPInit (fun vs H Q E h => ?_) (fun cdv A outer s H vs Q E hr h => ?_)
  · obtain ⟨p, dx, C, wd, x, b, rfl, _⟩ := h
    rfl
  obtain ⟨p, dx, C, wd, x, b, rfl, hp, c, hx, q1, q2⟩ := h
  refine ⟨_, pss_cons (ps_if (pt_not (pt_val (cF cI hr (ac (pv 2) pa_nil)))) (pss_one ps_dead) pss_nil)
    (pss_cons (ps_fld (pv 0) (pv 1) rfl) (pss_cons (ps_fld (pv 0) (pv 2) rfl) (pss_one (ps_fld (pv 0) (pv 3) rfl)))), ?_⟩
  refine ⟨_, rfl, x, rfl, hx, fun H1 s1 => ⟨_, rfl, ?_⟩⟩
  rw [q1]
  refine iteF ?_
  refine ⟨_, rfl, _, rfl, p, C, dx, [], rfl, s1 _ _ hp, c.cl, c.nW, (by show 0 < 1000; decide), ?_⟩
  refine ⟨_, rfl, _, rfl, p, C, dx, _, rfl, upd_same, c.cl, c.nN, (by show 1 < 1000; decide), ?_⟩
  refine ⟨_, rfl, _, rfl, p, C, dx, _, rfl, upd_same, c.cl, c.nM, (by show 2 < 1000; decide), ?_⟩
  rw [upd_upd, upd_upd]
  exact q2 _ s1
theorem scSeat : FnScope ["self", "name", "free"] ["self", "name", "free"] (defScope sSeat) := ⟨rfl, rfl, rfl, by decide +kernel, rfl, by decide +kernel, by decide +kernel⟩
theorem ok_seat {g D : Addr} {gd : FuncData} {ds : List Value} (F : FunD K "__init__" "Seat.__init__" sSeat f fd ds) (c : PC K m C) (B : ClsFn K D "__init__" g) (mD : mg "Parameter" = some (.ref D)) (G : FnOk P w K mg base CX0 2 g gd ["self", "word", "name", "may_lack"] (spP K m)) (bg : Binds K gd ["self", "word", "name", "may_lack"] []) :
    FnOk P w K mg base CX0 3 f fd ["self", "name", "free"] (spS K C "seat") := by
  refine F.ok scSeat (fun vs H Q E h => ?_) (fun cdv A outer s H vs Q E hr h => ?_)
  · obtain ⟨p, dx, x, b, rfl, _⟩ := h
    rfl
  obtain ⟨p, dx, x, b, rfl, hp, hx, q1, q2⟩ := h
  refine ⟨_, pss_one (ps_expr (pe_cm B mD G hr bg pass0 (ac (pv 0) (ac pe_str (ac (pv 1) (ac (pv 2) pa_nil)))))), ?_⟩
  exact ⟨_, rfl, _, rfl, _, rfl, p, dx, C, _, x, b, rfl, hp, c, hx, q1, q2⟩
theorem scBoth : FnScope ["self", "name", "free"] ["self", "name", "free"] (defScope sBoth) := ⟨rfl, rfl, rfl, by decide +kernel, rfl, by decide +kernel, by decide +kernel⟩
theorem ok_both {g D : Addr} {gd : FuncData} {ds : List Value} (F : FunD K "__init__" "Both.__init__" sBoth f fd ds) (c : PC K m C) (B : ClsFn K D "__init__" g) (mD : mg "Parameter" = some (.ref D)) (G : FnOk P w K mg base CX0 2 g gd ["self", "word", "name", "may_lack"] (spP K m)) (bg : Binds K gd ["self", "word", "name", "may_lack"] []) :
    FnOk P w K mg base CX0 3 f fd ["self", "name", "free"] (spS K C "both") := by
  refine F.ok scBoth (fun vs H Q E h => ?_) (fun cdv A outer s H vs Q E hr h => ?_)
  · obtain ⟨p, dx, x, b, rfl, _⟩ := h
    rfl
  obtain ⟨p, dx, x, b, rfl, hp, hx, q1, q2⟩ := h
  refine ⟨_, pss_one (ps_expr (pe_cm B mD G hr bg pass0 (ac (pv 0) (ac pe_str (ac (pv 1) (ac (pv 2) pa_nil)))))), ?_⟩
  exact ⟨_, rfl, _, rfl, _, rfl, p, dx, C, _, x, b, rfl, hp, c, hx, q1, q2⟩
theorem scTag : FnScope ["self", "name", "free"] ["self", "name", "free"] (defScope sTag) := ⟨rfl, rfl, rfl, by decide +kernel, rfl, by decide +kernel, by decide +kernel⟩
theorem ok_tag {g D : Addr} {gd : FuncData} {ds : List Value} (F : FunD K "__init__" "Tag.__init__" sTag f fd ds) (c : PC K m C) (B : ClsFn K D "__init__" g) (mD : mg "Parameter" = some (.ref D)) (G : FnOk P w K mg base CX0 2 g gd ["self", "word", "name", "may_lack"] (spP K m)) (bg : Binds K gd ["self", "word", "name", "may_lack"] []) :
    FnOk P w K mg base CX0 3 f fd ["self", "name", "free"] (spS K C "tag") := by
  refine F.ok scTag (fun vs H Q E h => ?_) (fun cdv A outer s H vs Q E hr h => ?_)
  · obtain ⟨p, dx, x, b, rfl, _⟩ := h
    rfl
  obtain ⟨p, dx, x, b, rfl, hp, hx, q1, q2⟩ := h
  refine ⟨_, pss_one (ps_expr (pe_cm B mD G hr bg pass0 (ac (pv 0) (ac pe_str (ac (pv 1) (ac (pv 2) pa_nil)))))), ?_⟩
  exact ⟨_, rfl, _, rfl, _, rfl, p, dx, C, _, x, b, rfl, hp, c, hx, q1, q2⟩
theorem scTail : FnScope ["self", "name"] ["self", "name"] (defScope sTail) := ⟨rfl, rfl, rfl, by decide +kernel, rfl, by decide +kernel, by decide +kernel⟩
theorem ok_tail {g D : Addr} {gd : FuncData} (F : Fun K "__init__" "Tail.__init__" sTail f fd) (c : PC K m C) (B : ClsFn K D "__init__" g) (mD : mg "Parameter" = some (.ref D)) (G : FnOk P w K mg base CX0 2 g gd ["self", "word", "name", "may_lack"] (spP K m)) (bg : Binds K gd ["self", "word", "name", "may_lack"] []) :
    FnOk P w K mg base CX0 3 f fd ["self", "name"] (spT K C "tail") := by
  refine F.ok scTail (fun vs H Q E h => ?_) (fun cdv A outer s H vs Q E hr h => ?_)
  · obtain ⟨p, dx, x, rfl, _⟩ := h
    rfl
  obtain ⟨p, dx, x, rfl, hp, hx, q1, q2⟩ := h
  refine ⟨_, pss_one (ps_expr (pe_cm B mD G hr bg pass0 (ac (pv 0) (ac pe_str (ac (pv 1) (ac pe_bl pa_nil)))))), ?_⟩
  exact ⟨_, rfl, _, rfl, p, dx, C, _, x, true, rfl, hp, c, hx, q1, q2⟩
theorem scBag : FnScope ["self", "name"] ["self", "name"] (defScope sBag) := ⟨rfl, rfl, rfl, by decide +kernel, rfl, by decide +kernel, by decide +kernel⟩
theorem ok_bag {g D : Addr} {gd : FuncData} (F : Fun K "__init__" "Bag.__init__" sBag f fd) (c : PC K m C) (B : ClsFn K D "__init__" g) (mD : mg "Parameter" = some (.ref D)) (G : FnOk P w K mg base CX0 2 g gd ["self", "word", "name", "may_lack"] (spP K m)) (bg : Binds K gd ["self", "word", "name", "may_lack"] []) :
    FnOk P w K mg base CX0 3 f fd ["self", "name"] (spT K C "bag") := by
  refine F.ok scBag (fun vs H Q E h => ?_) (fun cdv A outer s H vs Q E hr h => ?_)
  · obtain ⟨p, dx, x, rfl, _⟩ := h
    rfl
  obtain ⟨p, dx, x, rfl, hp, hx, q1, q2⟩ := h
  refine ⟨_, pss_one (ps_expr (pe_cm B mD G hr bg pass0 (ac (pv 0) (ac pe_str (ac (pv 1) (ac pe_bl pa_nil)))))), ?_⟩
  exact ⟨_, rfl, _, rfl, p, dx, C, _, x, true, rfl, hp, c, hx, q1, q2⟩
theorem scFree : FnScope ["self"] ["self"] (defScope sFree) := ⟨rfl, rfl, rfl, by decide +kernel, rfl, by decide +kernel, by decide +kernel⟩
theorem ok_free (F : Fun K "free" "Parameter.free" sFree f fd) : FnOk P w K mg base CX0 1 f fd ["self"] (spFree K m) := by
  refine F.ok scFree (fun vs H Q E h => ?_) (fun cdv A outer s H vs Q E hr h => ?_)
  · obtain ⟨p, dx, C, wd, x, b, rfl, _⟩ := h
    rfl
  obtain ⟨p, dx, C, wd, x, b, rfl, c, hp, q⟩ := h
  refine ⟨_, pss_one (ps_ret (pe_fld (pv 0) rfl)), ?_⟩
  exact ⟨_, rfl, p, C, dx, _, _, rfl, hp, c.cl, c.nM, pf_lack, q⟩
theorem scByPlace : FnScope ["self"] ["self"] (defScope sByPlace) := ⟨rfl, rfl, rfl, by decide +kernel, rfl, by decide +kernel, by decide +kernel⟩
theorem ok_by_place (F : Fun K "by_place" "Parameter.by_place" sByPlace f fd) (Wd : Wds K mg tP tB tO) : FnOk P w K mg base CX0 1 f fd ["self"] (spIn K m bpL) := by
  refine F.ok scByPlace (fun vs H Q E h => ?_) (fun cdv A outer s H vs Q E hr h => ?_)
  · obtain ⟨p, dx, C, wd, x, b, rfl, _⟩ := h
    rfl
  obtain ⟨p, dx, C, wd, x, b, rfl, c, hp, q⟩ := h
  refine ⟨_, pss_one (ps_ret (pe_cmpR op_in_seq (pe_fld (pv 0) rfl) (pe_glob (v := .ref tP) rfl Wd.mP rfl) (by with_unfolding_all rfl))), ?_⟩
  exact ⟨_, rfl, p, C, dx, _, _, rfl, hp, c.cl, c.nW, pf_word, tP, bpL, rfl, .inr (Wd.hP H), rfl, (by decide), q⟩
theorem scByName : FnScope ["self"] ["self"] (defScope sByName) := ⟨rfl, rfl, rfl, by decide +kernel, rfl, by decide +kernel, by decide +kernel⟩
theorem ok_by_name (F : Fun K "by_name" "Parameter.by_name" sByName f fd) (Wd : Wds K mg tP tB tO) : FnOk P w K mg base CX0 1 f fd ["self"] (spIn K m bnL) := by
  refine F.ok scByName (fun vs H Q E h => ?_) (fun cdv A outer s H vs Q E hr h => ?_)
  · obtain ⟨p, dx, C, wd, x, b, rfl, _⟩ := h
    rfl
  obtain ⟨p, dx, C, wd, x, b, rfl, c, hp, q⟩ := h
  refine ⟨_, pss_one (ps_ret (pe_cmpR op_in_seq (pe_fld (pv 0) rfl) (pe_glob (v := .ref tB) rfl Wd.mB rfl) (by with_unfolding_all rfl))), ?_⟩
  exact ⟨_, rfl, p, C, dx, _, _, rfl, hp, c.cl, c.nW, pf_word, tB, bnL, rfl, .inr (Wd.hB H), rfl, (by decide), q⟩
theorem scTakes : FnScope ["self"] ["self"] (defScope sTakes) := ⟨rfl, rfl, rfl, by decide +kernel, rfl, by decide +kernel, by decide +kernel⟩
theorem ok_takes_one (F : Fun K "takes_one" "Parameter.takes_one" sTakes f fd) (Wd : Wds K mg tP tB tO) : FnOk P w K mg base CX0 1 f fd ["self"] (spIn K m otL) := by
  refine F.ok scTakes (fun vs H Q E h => ?_) (fun cdv A outer s H vs Q E hr h => ?_)
  · obtain ⟨p, dx, C, wd, x, b, rfl, _⟩ := h
    rfl
  obtain ⟨p, dx, C, wd, x, b, rfl, c, hp, q⟩ := h
  refine ⟨_, pss_one (ps_ret (pe_cmpR op_in_seq (pe_fld (pv 0) rfl) (pe_glob (v := .ref tO) rfl Wd.mO rfl) (by with_unfolding_all rfl))), ?_⟩
  exact ⟨_, rfl, p, C, dx, _, _, rfl, hp, c.cl, c.nW, pf_word, tO, otL, rfl, .inr (Wd.hO H), rfl, (by decide), q⟩
theorem scTold : FnScope ["self"] ["self"] (defScope sTold) := ⟨rfl, rfl, rfl, by decide +kernel, rfl, by decide +kernel, by decide +kernel⟩
theorem ok_told {gd : FuncData} (F : Fun K "told" "Parameter.told" sTold f fd) (G : FnOk P w K mg base CX0 1 m.fT gd ["self"] (spIn K m otL)) (bg : Binds K gd ["self"] []) : FnOk P w K mg base CX0 2 f fd ["self"] (spTold K m) := by
  refine F.ok scTold (fun vs H Q E h => ?_) (fun cdv A outer s H vs Q E hr h => ?_)
  · obtain ⟨p, dx, C, k, x, b, rfl, _⟩ := h
    rfl
  obtain ⟨p, dx, C, k, x, b, rfl, hk, c, hp, q⟩ := h
  have nt : (pf (kw k) x (fr k b)).lookup ("takes_one" : Str) = none := pf_no (by decide +kernel) (by decide +kernel) (by decide +kernel)
  refine ⟨_, pss_cons (ps_if (pt_val (pe_meth0 (pv 0) c.cl c.mT G hr bg .nil pass0)) (pss_one (ps_ret (pe_tup (ac (pe_fld (pv 0) rfl) (ac (pe_fld (pv 0) rfl) (ac (pe_fld (pv 0) rfl) pa_nil)))))) pss_nil)
    (pss_one (ps_ret (pe_tup (ac (pe_fld (pv 0) rfl) (ac (pe_fld (pv 0) rfl) pa_nil))))), ?_⟩
  refine ⟨_, rfl, p, dx, _, rfl, hp, nt, p, dx, C, kw k, x, fr k b, rfl, c, hp, _, rfl, ?_⟩
  have fW : ∃ b', pf (kw k) x (fr k b) = pf (kw k) x b' := ⟨_, rfl⟩
  rcases lt5 hk with rfl | rfl | rfl | rfl | rfl
  · refine iteT ?_
    exact ⟨_, rfl, p, C, dx, _, _, rfl, hp, c.cl, c.nW, pf_word, _, rfl, p, C, dx, _, _, rfl, hp, c.cl, c.nN, pf_name, _, rfl, p, C, dx, _, _, rfl, hp, c.cl, c.nM, pf_lack, (by show 3 ≤ sizeLine; decide), fun r hr => q r _ (same_new hr _) upd_same⟩
  · refine iteT ?_
    exact ⟨_, rfl, p, C, dx, _, _, rfl, hp, c.cl, c.nW, pf_word, _, rfl, p, C, dx, _, _, rfl, hp, c.cl, c.nN, pf_name, _, rfl, p, C, dx, _, _, rfl, hp, c.cl, c.nM, pf_lack, (by show 3 ≤ sizeLine; decide), fun r hr => q r _ (same_new hr _) upd_same⟩
  · refine iteF ?_
    exact ⟨_, rfl, p, C, dx, _, _, rfl, hp, c.cl, c.nW, pf_word, _, rfl, p, C, dx, _, _, rfl, hp, c.cl, c.nN, pf_name, (by show 2 ≤ sizeLine; decide), fun r hr => q r _ (same_new hr _) upd_same⟩
  · refine iteT ?_
    exact ⟨_, rfl, p, C, dx, _, _, rfl, hp, c.cl, c.nW, pf_word, _, rfl, p, C, dx, _, _, rfl, hp, c.cl, c.nN, pf_name, _, rfl, p, C, dx, _, _, rfl, hp, c.cl, c.nM, pf_lack, (by show 3 ≤ sizeLine; decide), fun r hr => q r _ (same_new hr _) upd_same⟩
  · refine iteF ?_
    exact ⟨_, rfl, p, C, dx, _, _, rfl, hp, c.cl, c.nW, pf_word, _, rfl, p, C, dx, _, _, rfl, hp, c.cl, c.nN, pf_name, (by show 2 ≤ sizeLine; decide), fun r hr => q r _ (same_new hr _) upd_same⟩
end
end K91

set_option Elab.async false
set_option linter.all false
set_option maxRecDepth 100000
set_option maxHeartbeats 4000000
namespace K91
open PySem L2 PyProof.Rows
structure C5 where
  (c0 c1 c2 c3 c4 : Addr)
def C5.at (c : C5) : Nat → Addr
  | 0 => c.c0 | 1 => c.c1 | 2 => c.c2 | 3 => c.c3 | _ => c.c4
structure Ctors (P : Program) (w : World) (K : PySem.W.Frag) (mg : Str → Option Value) (base : Heap) (c : C5) (i0 i1 i2 i3 i4 : Addr) (d0 d1 d2 d3 d4 : FuncData) : Prop where
  k0 : Ctor P w K mg base CX0 3 "Seat" c.c0 i0 d0 ["self", "name", "free"] [] (spS K c.c0 "seat")
  k1 : Ctor P w K mg base CX0 3 "Both" c.c1 i1 d1 ["self", "name", "free"] [] (spS K c.c1 "both")
  k2 : Ctor P w K mg base CX0 3 "Tail" c.c2 i2 d2 ["self", "name"] [] (spT K c.c2 "tail")
  k3 : Ctor P w K mg base CX0 3 "Tag" c.c3 i3 d3 ["self", "name", "free"] [] (spS K c.c3 "tag")
  k4 : Ctor P w K mg base CX0 3 "Bag" c.c4 i4 d4 ["self", "name"] [] (spT K c.c4 "bag")
def Res (c : C5) (H : Hp) (k : Nat) (x : V) (b : Bool) (Q : VK) : Prop :=
  nmV x = true ∧ ∀ (o dx : Addr) (H' : Hp), Same H H' → H' o = some (.ins (c.at k) dx (pf (kw k) x (fr k b))) → Q (.ref o) H'
def spPof (K : PySem.W.Frag) (c : C5) : Sp := fun vs H Q _ => ∃ (p : Addr) (k : Nat) (x : V) (b : Bool), vs = [.ref p] ∧ k < 5 ∧ H p = some (.tup (rowV k x b)) ∧ OkV K H x ∧ Res c H k x b Q
theorem ne10 : ¬ (V.str "both" = V.str "seat") := by decide +kernel
theorem ne20 : ¬ (V.str "tail" = V.str "seat") := by decide +kernel
theorem ne21 : ¬ (V.str "tail" = V.str "both") := by decide +kernel
theorem ne30 : ¬ (V.str "tag" = V.str "seat") := by decide +kernel
theorem ne31 : ¬ (V.str "tag" = V.str "both") := by decide +kernel
theorem ne32 : ¬ (V.str "tag" = V.str "tail") := by decide +kernel
theorem ne40 : ¬ (V.str "bag" = V.str "seat") := by decide +kernel
theorem ne41 : ¬ (V.str "bag" = V.str "both") := by decide +kernel
theorem ne42 : ¬ (V.str "bag" = V.str "tail") := by decide +kernel
theorem ne43 : ¬ (V.str "bag" = V.str "tag") := by decide +kernel
section
variable {P : Program} {w : World} {K : PySem.W.Frag} {mg : Str → Option Value} {base : Heap} {f i0 i1 i2 i3 i4 : Addr} {fd d0 d1 d2 d3 d4 : FuncData} {c : C5}
theorem lk_0 {x : V} {k : Nat} {b : Bool} (h : k < 5) : atI (rowV k x b) 0 = some (.str (kw k)) := by rcases lt5 h with rfl | rfl | rfl | rfl | rfl <;> rfl
theorem scPof : FnScope ["told", "word"] ["told"] (defScope sPof) := ⟨rfl, rfl, rfl, by decide +kernel, rfl, by decide +kernel, by decide +kernel⟩
theorem ok_pof (F : Fun K "parameter_of" "parameter_of" sPof f fd) (U : Ctors P w K mg base c i0 i1 i2 i3 i4 d0 d1 d2 d3 d4) : FnOk P w K mg base CX0 5 f fd ["told"] (spPof K c) := by
  refine F.ok scPof (fun vs H Q E h => ?_) (fun cdv A outer s H vs Q E hr h => ?_)
  · obtain ⟨p, k, x, b, rfl, _⟩ := h
    rfl
  obtain ⟨p, k, x, b, rfl, hk, hp, hx, r1, r2⟩ := h
  refine ⟨_, pss_cons (ps_set (i := 1) scPof.nd rfl (Or.inl rfl) (pe_ix ix_tup (pv 0) pe_int (fun _ _ => rfl)))
    (pss_cons (ps_if (pt_cmpR op_eq (pv 1) pe_str (nomark _)) (pss_one (ps_ret (cMk U.k0 .nil pass0 hr (ac (pe_ix ix_tup (pv 0) pe_int (fun _ _ => rfl)) (ac (pe_ix ix_tup (pv 0) pe_int (fun _ _ => rfl)) pa_nil))))) pss_nil)
    (pss_cons (ps_if (pt_cmpR op_eq (pv 1) pe_str (nomark _)) (pss_one (ps_ret (cMk U.k1 .nil pass0 hr (ac (pe_ix ix_tup (pv 0) pe_int (fun _ _ => rfl)) (ac (pe_ix ix_tup (pv 0) pe_int (fun _ _ => rfl)) pa_nil))))) pss_nil)
    (pss_cons (ps_if (pt_cmpR op_eq (pv 1) pe_str (nomark _)) (pss_one (ps_ret (cMk U.k2 .nil pass0 hr (ac (pe_ix ix_tup (pv 0) pe_int (fun _ _ => rfl)) pa_nil)))) pss_nil)
    (pss_cons (ps_if (pt_cmpR op_eq (pv 1) pe_str (nomark _)) (pss_one (ps_ret (cMk U.k3 .nil pass0 hr (ac (pe_ix ix_tup (pv 0) pe_int (fun _ _ => rfl)) (ac (pe_ix ix_tup (pv 0) pe_int (fun _ _ => rfl)) pa_nil))))) pss_nil)
    (pss_one (ps_ret (cMk U.k4 .nil pass0 hr (ac (pe_ix ix_tup (pv 0) pe_int (fun _ _ => rfl)) pa_nil)))))))), ?_⟩
  refine ⟨_, rfl, p, _, _, .str (kw k), rfl, rfl, SqT.of hp, lk_0 hk, ?_⟩
  rcases lt5 hk with rfl | rfl | rfl | rfl | rfl
  · have hS : SqT K H p _ := SqT.of hp
    refine ⟨_, rfl, rfl, _, rfl, ?_⟩
    refine dT rfl ?_
    exact ⟨_, rfl, p, _, _, x, rfl, rfl, hS, rfl, _, rfl, p, _, _, .bl b, rfl, rfl, hS, rfl, fun o dx ho hdx ne => ⟨o, dx, x, b, rfl, upd_same, hx.same (same_make0 ho hdx), r1, fun H1 s1 => ⟨rfl, r2 o dx _ (same_after ho hdx s1) upd_same⟩⟩⟩
  · have hS : SqT K H p _ := SqT.of hp
    refine ⟨_, rfl, rfl, _, rfl, ?_⟩
    refine dF ne10 ?_
    refine ⟨_, rfl, rfl, _, rfl, ?_⟩
    refine dT rfl ?_
    exact ⟨_, rfl, p, _, _, x, rfl, rfl, hS, rfl, _, rfl, p, _, _, .bl b, rfl, rfl, hS, rfl, fun o dx ho hdx ne => ⟨o, dx, x, b, rfl, upd_same, hx.same (same_make0 ho hdx), r1, fun H1 s1 => ⟨rfl, r2 o dx _ (same_after ho hdx s1) upd_same⟩⟩⟩
  · have hS : SqT K H p _ := SqT.of hp
    refine ⟨_, rfl, rfl, _, rfl, ?_⟩
    refine dF ne20 ?_
    refine ⟨_, rfl, rfl, _, rfl, ?_⟩
    refine dF ne21 ?_
    refine ⟨_, rfl, rfl, _, rfl, ?_⟩
    refine dT rfl ?_
    exact ⟨_, rfl, p, _, _, x, rfl, rfl, hS, rfl, fun o dx ho hdx ne => ⟨o, dx, x, rfl, upd_same, hx.same (same_make0 ho hdx), r1, fun H1 s1 => ⟨rfl, r2 o dx _ (same_after ho hdx s1) upd_same⟩⟩⟩
  · have hS : SqT K H p _ := SqT.of hp
    refine ⟨_, rfl, rfl, _, rfl, ?_⟩
    refine dF ne30 ?_
    refine ⟨_, rfl, rfl, _, rfl, ?_⟩
    refine dF ne31 ?_
    refine ⟨_, rfl, rfl, _, rfl, ?_⟩
    refine dF ne32 ?_
    refine ⟨_, rfl, rfl, _, rfl, ?_⟩
    refine dT rfl ?_
    exact ⟨_, rfl, p, _, _, x, rfl, rfl, hS, rfl, _, rfl, p, _, _, .bl b, rfl, rfl, hS, rfl, fun o dx ho hdx ne => ⟨o, dx, x, b, rfl, upd_same, hx.same (same_make0 ho hdx), r1, fun H1 s1 => ⟨rfl, r2 o dx _ (same_after ho hdx s1) upd_same⟩⟩⟩
  · have hS : SqT K H p _ := SqT.of hp
    refine ⟨_, rfl, rfl, _, rfl, ?_⟩
    refine dF ne40 ?_
    refine ⟨_, rfl, rfl, _, rfl, ?_⟩
    refine dF ne41 ?_
    refine ⟨_, rfl, rfl, _, rfl, ?_⟩
    refine dF ne42 ?_
    refine ⟨_, rfl, rfl, _, rfl, ?_⟩
    refine dF ne43 ?_
    exact ⟨_, rfl, p, _, _, x, rfl, rfl, hS, rfl, fun o dx ho hdx ne => ⟨o, dx, x, rfl, upd_same, hx.same (same_make0 ho hdx), r1, fun H1 s1 => ⟨rfl, r2 o dx _ (same_after ho hdx s1) upd_same⟩⟩⟩
end
end K91

set_option Elab.async false
set_option linter.all false
set_option maxRecDepth 100000
set_option maxHeartbeats 4000000
namespace L2
open PySem PySem.Spec PyProof.Rows
/-- what a turn of a block that makes the dict at D asks of its pair -/
def dcN (n i : Nat) (D : Addr) (Pv : Nat → List (Key × V) → Hp → Prop) (ys : List (Key × V)) (y : V) : VK := fun v H5 => ∃ k, y = kV k ∧ H5 D = some (.dK ys) ∧ ys.length < sizeLine ∧ ∃ m', m' < n - i ∧ m' = n - (i + 1) ∧ i + 1 ≤ n ∧ Pv (i + 1) (putK ys k v) (upd H5 D (.dK (putK ys k v)))
def dcS (n i : Nat) (Pv : Nat → List (Key × V) → Hp → Prop) (ys : List (Key × V)) (H4 : Hp) : Prop := ∃ m', m' < n - i ∧ m' = n - (i + 1) ∧ i + 1 ≤ n ∧ Pv (i + 1) ys H4
theorem dcN.mk {n i : Nat} {D : Addr} {Pv : Nat → List (Key × V) → Hp → Prop} {ys : List (Key × V)} {y v : V} {H5 : Hp} (k : Key) (hi : i < n) (ek : y = kV k) (hn : n ≤ sizeLine) (hD : H5 D = some (.dK ys)) (hy : ys.length ≤ i) (p : Pv (i + 1) (putK ys k v) (upd H5 D (.dK (putK ys k v)))) : dcN n i D Pv ys y v H5 :=
  ⟨k, ek, hD, by omega, n - (i + 1), by omega, rfl, hi, p⟩
theorem dcS.mk {n i : Nat} {Pv : Nat → List (Key × V) → Hp → Prop} {ys : List (Key × V)} {H4 : Hp} (hi : i < n) (p : Pv (i + 1) ys H4) : dcS n i Pv ys H4 := ⟨n - (i + 1), by omega, rfl, hi, p⟩
theorem dc_enum {K : PySem.W.Frag} {a : Addr} {xs : List V} {caps : List (Option Nat)} {g : TG} {tt : TT} {tk tv : TE} {σ : St} {H1 : Hp} {Q : VK} {D : Addr} (Pv : Nat → List (Key × V) → Hp → Prop) (h0 : Pv 0 [] (upd H1 D (.dK [])))
    (hl : ∀ i ys H, Pv i ys H → SqL K H a xs)
    (hs : ∀ i x p ys H, i < xs.length → xs[i]? = some x → Pv i ys H → H p = none → g (.ref p) (capS caps σ) (upd H p (.tup [.int i, x])) fun σ2 H2 => tt σ2 H2 fun ok H3 => (ok = true → tk σ2 H3 fun y H4 => tv σ2 H4 (dcN xs.length i D Pv ys y)) ∧ (ok = false → dcS xs.length i Pv ys H3))
    (hd : ∀ ys H, Pv xs.length ys H → Q (.ref D) H) : DCr (Ite K a) caps g tt tk tv σ H1 Q D := by
  refine ⟨fun i m ys H => m = xs.length - i ∧ i ≤ xs.length ∧ Pv i ys H, ⟨xs.length, by simp, Nat.zero_le _, h0⟩, ?_⟩
  rintro i m ys H ⟨rfl, hi, p⟩
  have q := hl i ys H p
  by_cases hlt : i < xs.length
  · refine .inr ⟨⟨xs, xs[i], q, by simp [hlt]⟩, fun x H' y => ?_⟩
    obtain ⟨pp, y, rfl, hp, y2, rfl⟩ := y
    exact hs i y pp ys H hlt (y2 xs q) p hp
  · have e : i = xs.length := by omega
    subst e
    exact .inl ⟨⟨xs, q, Nat.le_refl _⟩, hd ys H p⟩
end L2
namespace K91
open PySem L2 PyProof.Rows
/-! ### rows and forms -/
structure Rw where
  (k : Nat) (z : Str) (b : Bool)
def Rw.ok (r : Rw) : Prop := r.k < 5 ∧ nameB r.z = true
abbrev rv (r : Rw) : List V := rowV r.k (.str r.z) r.b
abbrev pr (r : Rw) : List (Str × V) := pf (kw r.k) (.str r.z) (fr r.k r.b)
def PAt (c : C5) (H : Hp) (p : Addr) (r : Rw) : Prop := ∃ dx, H p = some (.ins (c.at r.k) dx (pr r))
def byPl (k : Nat) : Bool := k == 0 || k == 1
def byNm (k : Nat) : Bool := k == 1 || k == 3
theorem in_pl : ∀ k : Nat, k < 5 → inV (.str (kw k)) bpL = byPl k := by decide +kernel
theorem in_nm : ∀ k : Nat, k < 5 → inV (.str (kw k)) bnL = byNm k := by decide +kernel
def grp : Nat → Nat
  | 0 => 0 | 1 => 0 | 2 => 1 | 3 => 2 | _ => 3
def badAt (l g : Nat) : Bool := decide (g < l) || (g == l && (g == 1 || g == 3))
def ordOk : Nat → List Rw → Bool
  | _, [] => true
  | l, r :: rs => !badAt l (grp r.k) && ordOk (grp r.k) rs
def nms (rows : List Rw) : List Str := (rows.filter fun r => byNm r.k).map (·.z)
structure Valid (rows : List Rw) (bars : List Str) : Prop where
  ok : ∀ r ∈ rows, r.ok
  l24 : rows.length ≤ 24
  l60 : bars.length ≤ 60
  ord : ordOk 0 rows = true
  bn : ∀ z ∈ bars, nameB z = true
  nd : (nms rows ++ bars).Nodup
def firstK (kk : Nat) : Nat → List Rw → Option Nat
  | _, [] => none
  | i, r :: rs => if r.k = kk then some i else firstK kk (i + 1) rs
def numV : Option Nat → V
  | none => .non
  | some i => .int i
def doorsF : Nat → List (Key × V) → List Rw → List (Key × V)
  | _, acc, [] => acc
  | i, acc, r :: rs => doorsF (i + 1) (if byNm r.k = true then putK acc (.inr r.z) (.int i) else acc) rs
def plN (rows : List Rw) : Nat := (rows.filter fun r => byPl r.k).length
def attrs : List Str := ["row", "bar_names", "place_count", "tail_number", "bag_number", "doors"]
structure FF (fs : List (Str × V)) (lr lb ld : Addr) (rows : List Rw) : Prop where
  row : fs.lookup ("row" : Str) = some (.ref lr)
  bn : fs.lookup ("bar_names" : Str) = some (.ref lb)
  pc : fs.lookup ("place_count" : Str) = some (.int (plN rows))
  tn : fs.lookup ("tail_number" : Str) = some (numV (firstK 2 0 rows))
  bg : fs.lookup ("bag_number" : Str) = some (numV (firstK 4 0 rows))
  dr : fs.lookup ("doors" : Str) = some (.ref ld)
  no : ∀ m, m ∉ attrs → fs.lookup m = none
def FormAt (c : C5) (CF : Addr) (H : Hp) (f : Addr) (rows : List Rw) (bars : List Str) : Prop :=
  ∃ dx fs lr lb ld ps, H f = some (.ins CF dx fs) ∧ FF fs lr lb ld rows ∧ H lr = some (.lst (ps.map V.ref)) ∧ Paired (PAt c H) ps rows ∧ H lb = some (.lst (bars.map V.str)) ∧ H ld = some (.dK (doorsF 0 [] rows))
section
variable {c : C5} {CF f p : Addr} {H H' : Hp} {rows : List Rw} {bars : List Str} {r : Rw} {ps : List Addr}
theorem PAt.same (h : PAt c H p r) (s : Same H H') : PAt c H' p r := h.imp fun _ => s _ _
theorem pats_same (s : Same H H') (h : Paired (PAt c H) ps rows) : Paired (PAt c H') ps rows := Paired.imp' (fun _ _ z => z.same s) h
def FormN (c : C5) (CF : Addr) (H H' : Hp) (f : Addr) (rows : List Rw) (bars : List Str) : Prop :=
  ∃ dx fs lr lb ld ps, H' f = some (.ins CF dx fs) ∧ FF fs lr lb ld rows ∧ H' lr = some (.lst (ps.map V.ref)) ∧ Paired (PAt c H') ps rows ∧ H' lb = some (.lst (bars.map V.str)) ∧ H' ld = some (.dK (doorsF 0 [] rows)) ∧ H lr = none ∧ H lb = none
theorem FormN.of {H0 : Hp} (h : FormN c CF H H' f rows bars) (s : Same H0 H) : FormN c CF H0 H' f rows bars := by
  obtain ⟨dx, fs, lr, lb, ld, ps, h1, h2, h3, h4, h5, h6, h7, h8⟩ := h
  exact ⟨dx, fs, lr, lb, ld, ps, h1, h2, h3, h4, h5, h6, s.free h7, s.free h8⟩
theorem paired_at {α β : Type} {R : α → β → Prop} {xs : List α} {ys : List β} (h : Paired R xs ys) : ∀ {i : Nat} {x : α}, xs[i]? = some x → ∃ y, ys[i]? = some y ∧ R x y := by
  induction h with
  | nil => intro i x e; simp at e
  | cons r t ih =>
    intro i x e
    cases i with
    | zero => exact ⟨_, rfl, by simp at e; exact e ▸ r⟩
    | succ i => simpa using ih (by simpa using e)
end
end K91

set_option Elab.async false
set_option linter.all false
set_option maxRecDepth 100000
set_option maxHeartbeats 4000000
namespace K91
open PySem L2 PyProof.Rows
def grpV (x : Str) : Option V := ([(("seat" : Str), V.int 0), ("both", .int 0), ("tail", .int 1), ("tag", .int 2), ("bag", .int 3)] : List (Str × V)).lookup x
theorem grpV_kw : ∀ k : Nat, k < 5 → grpV (kw k) = some (.int (grp k)) := by decide +kernel
theorem grp_lt (k : Nat) : grp k < 4 := by unfold grp; split <;> decide
structure TxtF (w : World) (K : PySem.W.Frag) (mg : Str → Option Value) (G sg : Addr) : Prop where
  len : mg "len" = none
  en : mg "enumerate" = none
  lst : mg "list" = none
  set : mg "set" = none
  mp : ∃ t, mg "MOST_PARAMETERS" = some (.int 24 t)
  mb : ∃ t, mg "MOST_BARS" = some (.int 60 t)
  mgr : mg "GROUPS" = some (.ref G)
  gt : KTab w K G grpV
  ms : mg "SINGLE_GROUPS" = some (.ref sg)
  hs : ∀ H, SqT K H sg [.int 1, .int 3]
def Cs5 (c : C5) : Addr → Prop := fun C => ∃ k, k < 5 ∧ C = c.at k
def spMany (K : PySem.W.Frag) : Sp := fun vs H Q _ => ∃ (a b : Addr) (xs ys : List V), vs = [.ref a, .ref b] ∧ SqL K H a xs ∧ SqL K H b ys ∧ xs.length ≤ 24 ∧ ys.length ≤ 60 ∧ Q .non H
def spOrd (c : C5) : Sp := fun vs H Q _ => ∃ (a : Addr) (ps : List Addr) (rows : List Rw), vs = [.ref a] ∧ H a = some (.lst (ps.map V.ref)) ∧ Paired (PAt c H) ps rows ∧ (∀ r ∈ rows, r.ok) ∧ ordOk 0 rows = true ∧ ∀ H', Same H H' → Q .non H'
def spRB : Sp := fun vs H Q _ => ∃ (b : Addr) (bars : List Str), vs = [.ref b] ∧ H b = some (.lst (bars.map V.str)) ∧ (∀ z ∈ bars, nameB z = true) ∧ ∀ H', Same H H' → Q .non H'
def spTw (c : C5) : Sp := fun vs H Q _ => ∃ (a b : Addr) (ps : List Addr) (rows : List Rw) (bars : List Str), vs = [.ref a, .ref b] ∧ H a = some (.lst (ps.map V.ref)) ∧ Paired (PAt c H) ps rows ∧ (∀ r ∈ rows, r.ok) ∧ rows.length ≤ 500 ∧ H b = some (.lst (bars.map V.str)) ∧ bars.length ≤ 500 ∧ (nms rows ++ bars).Nodup ∧ ∀ H', Same H H' → Q .non H'
def spNW (c : C5) : Sp := fun vs H Q _ => ∃ (a : Addr) (ps : List Addr) (rows : List Rw) (kk : Nat), vs = [.ref a, .str (kw kk)] ∧ kk < 5 ∧ H a = some (.lst (ps.map V.ref)) ∧ Paired (PAt c H) ps rows ∧ (∀ r ∈ rows, r.ok) ∧ ∀ H', Same H H' → Q (numV (firstK kk 0 rows)) H'
theorem kw_inj : ∀ i : Nat, i < 5 → ∀ k : Nat, k < 5 → decide (V.str (kw k) = V.str (kw i)) = (k == i) := by decide +kernel
theorem drop_at {α : Type} {xs : List α} {i : Nat} {x : α} (h : xs[i]? = some x) : xs.drop i = x :: xs.drop (i + 1) := by
  have hi : i < xs.length := (List.getElem?_eq_some_iff.mp h).1
  rw [List.drop_eq_getElem_cons hi]
  rw [List.getElem?_eq_getElem hi] at h
  rw [Option.some.inj h]
theorem refs_at {ps : List Addr} {i : Nat} {x : V} (h : (ps.map V.ref)[i]? = some x) : ∃ p, ps[i]? = some p ∧ x = .ref p := by
  rw [List.getElem?_map] at h
  cases e : ps[i]? with
  | none => rw [e] at h; cases h
  | some p => rw [e] at h; exact ⟨p, rfl, (Option.some.inj h).symm⟩
theorem strs_at {zs : List Str} {i : Nat} {x : V} (h : (zs.map V.str)[i]? = some x) : ∃ z, zs[i]? = some z ∧ x = .str z := by
  rw [List.getElem?_map] at h
  cases e : zs[i]? with
  | none => rw [e] at h; cases h
  | some p => rw [e] at h; exact ⟨p, rfl, (Option.some.inj h).symm⟩
section
variable {P : Program} {w : World} {K : PySem.W.Frag} {mg : Str → Option Value} {base : Heap} {f G sg : Addr} {fd : FuncData} {c : C5} {m : MA}
/-- what the five classes have -/
def Pcs (K : PySem.W.Frag) (m : MA) (c : C5) : Prop := ∀ k, k < 5 → PC K m (c.at k)
theorem scRMany : FnScope ["parameters", "bars"] ["parameters", "bars"] (defScope sRMany) := ⟨rfl, rfl, rfl, by decide +kernel, rfl, by decide +kernel, by decide +kernel⟩
theorem ok_many (F : Fun K "refuse_too_many" "refuse_too_many" sRMany f fd) (T : TxtF w K mg G sg) : FnOk P w K mg base CX0 1 f fd ["parameters", "bars"] (spMany K) := by
  refine F.ok scRMany (fun vs H Q E h => ?_) (fun cdv A outer s H vs Q E hr h => ?_)
  · obtain ⟨a, b, xs, ys, rfl, _⟩ := h
    rfl
  obtain ⟨a, b, xs, ys, rfl, ha, hb, l1, l2, q⟩ := h
  obtain ⟨t1, m1⟩ := T.mp
  obtain ⟨t2, m2⟩ := T.mb
  refine ⟨_, pss_cons (ps_if (pt_cmpR op_gt (cB call_len_seq T.len PySem.boot_len (ac (pv 0) pa_nil)) (pe_glob (v := .int 24) rfl m1 ⟨_, rfl⟩) (nomark _)) (pss_one ps_dead) pss_nil)
    (pss_one (ps_if (pt_cmpR op_gt (cB call_len_seq T.len PySem.boot_len (ac (pv 1) pa_nil)) (pe_glob (v := .int 60) rfl m2 ⟨_, rfl⟩) (nomark _)) (pss_one ps_dead) pss_nil)), ?_⟩
  refine ⟨_, rfl, a, _, rfl, .inl ha, _, _, rfl, rfl, _, rfl, ?_⟩
  refine dF (by show ¬ (24 : Int) < (xs.length : Int); omega) ?_
  refine ⟨_, rfl, b, _, rfl, .inl hb, _, _, rfl, rfl, _, rfl, ?_⟩
  exact dF (by show ¬ (60 : Int) < (ys.length : Int); omega) q
theorem scROrder : FnScope ["parameters", "last", "at", "parameter", "group"] ["parameters"] (defScope sROrder) := ⟨rfl, rfl, rfl, by decide +kernel, rfl, by decide +kernel, by decide +kernel⟩
theorem ok_order (F : Fun K "refuse_bad_order" "refuse_bad_order" sROrder f fd) (T : TxtF w K mg G sg) (PP : Pcs K m c) : FnOk P w K mg base CX0 1 f fd ["parameters"] (spOrd c) := by
  refine F.ok scROrder (fun vs H Q E h => ?_) (fun cdv A outer s H vs Q E hr h => ?_)
  · obtain ⟨a, ps, rows, rfl, _⟩ := h
    rfl
  obtain ⟨a, ps, rows, rfl, ha, hp, hok, ho, q⟩ := h
  refine ⟨_, pss_cons (ps_set (i := 1) scROrder.nd rfl (Or.inl rfl) pe_int)
    (pss_one (ps_for PassesOwn.never rfl (pi_enum rfl T.en (ac (pv 0) pa_nil)) (pg_tup rfl (pgs_cons (pg_name (i := 2) scROrder.nd rfl (Or.inl rfl)) (pgs_cons (pg_name (i := 3) scROrder.nd rfl (Or.inl rfl)) pgs_nil)))
      (pss_cons (ps_set (i := 4) scROrder.nd rfl (Or.inl rfl) (pe_kget T.gt T.mgr (pe_fld (pv 3) rfl)))
      (pss_cons (ps_if (PW.pt (pw_or (pt_cmpR op_lt (pv 4) (pv 1) (nomark _)) (pw_or1 (PW.pt (pw_and (pt_cmpR op_eq (pv 4) (pv 1) (nomark _)) (pw_and1 (pt_cmpR op_in_seq (pv 4) (pe_glob (v := .ref sg) rfl T.ms rfl) (by with_unfolding_all rfl)))))))) (pss_one ps_dead) pss_nil)
      (pss_one (ps_set (i := 1) scROrder.nd rfl (Or.inl rfl) (pv 4))))))), ?_⟩
  show tSeq _ _ _ _ _
  refine ⟨_, rfl, a, rfl, ⟨_, SqL.of ha⟩, for_enum (K := K) (a := a) (xs := ps.map V.ref) (fun i σ H' => ∃ (l : Nat) (v2 v3 v4 : Option V), σ = [some (.ref a), some (.int (l : Nat)), v2, v3, v4] ∧ Same H H' ∧ ordOk l (rows.drop i) = true)
    ⟨0, _, _, _, rfl, Same.refl _, ho⟩ (fun i σ H' _ ⟨_, _, _, _, _, sH, _⟩ => SqL.of (sH _ _ ha)) ?_ ?_⟩
  · rintro i x p σ H' hx ⟨l, v2, v3, v4, rfl, sH, hl⟩ hpn
    obtain ⟨pa, hpa, rfl⟩ := refs_at hx
    obtain ⟨r, hr', dx, hdx⟩ := paired_at hp hpa
    have rok := hok r (List.mem_of_getElem? hr')
    have C := PP r.k rok.1
    rw [drop_at hr'] at hl
    have hl' : (!badAt l (grp r.k) && ordOk (grp r.k) (rows.drop (i + 1))) = true := hl
    rw [Bool.and_eq_true, Bool.not_eq_true'] at hl'
    obtain ⟨hb, hl2⟩ := hl'
    have hb' : (decide (grp r.k < l) || (grp r.k == l && (grp r.k == 1 || grp r.k == 3))) = false := hb
    rw [Bool.or_eq_false_iff] at hb'
    have sp := same_new hpn (.tup [.int (i : Nat), .ref pa])
    refine ⟨p, _, rfl, SqT.of upd_same, rfl, _, _, rfl, _, _, rfl, rfl, ?_⟩
    refine ⟨_, rfl, pa, _, dx, _, _, rfl, sp _ _ (sH _ _ hdx), C.cl, C.nW, pf_word, kw r.k, .int (grp r.k), rfl, grpV_kw r.k rok.1, ?_⟩
    refine ⟨_, rfl, _, rfl, _, _, rfl, rfl, _, rfl, ?_⟩
    refine dF (fun z => by have := of_decide_eq_false hb'.1; omega) ?_
    have fin : ∃ (l' : Nat) (v2 v3 v4 : Option V), ([some (.ref a), some (.int (grp r.k : Nat)), some (.int (i : Nat)), some (.ref pa), some (.int (grp r.k : Nat))] : L2.St) = [some (.ref a), some (.int (l' : Nat)), v2, v3, v4] ∧ Same H (upd H' p (.tup [.int (i : Nat), .ref pa])) ∧ ordOk l' (rows.drop (i + 1)) = true :=
      ⟨grp r.k, _, _, _, rfl, sH.trans sp, hl2⟩
    refine ⟨_, rfl, _, rfl, rfl, _, rfl, ?_⟩
    by_cases e : grp r.k = l
    · refine dT (by rw [e]) ?_
      refine ⟨_, rfl, sg, _, rfl, .inr (T.hs _), rfl, (by decide), _, rfl, ?_⟩
      have h13 : (grp r.k == 1 || grp r.k == 3) = false := by
        have := hb'.2
        rw [e] at this ⊢
        simpa using this
      have hin : inV (.int (grp r.k : Nat)) [.int 1, .int 3] = false := by
        have g4 := grp_lt r.k
        have : ∀ g : Nat, g < 4 → (g == 1 || g == 3) = false → inV (.int (g : Nat)) [.int 1, .int 3] = false := by decide +kernel
        exact this _ g4 h13
      rw [show (if false = true then !inV (V.int ((grp r.k : Nat) : Int)) [V.int 1, V.int 3] else inV (V.int ((grp r.k : Nat) : Int)) [V.int 1, V.int 3]) = false from hin]
      refine iteF ?_
      exact ⟨_, rfl, fin⟩
    · refine dF (fun z => e (by have := V.int.inj z; omega)) ?_
      exact ⟨_, rfl, fin⟩
  · rintro σ H' ⟨l, v2, v3, v4, rfl, sH, _⟩
    exact q _ sH
end
end K91

set_option Elab.async false
set_option linter.all false
set_option maxRecDepth 100000
set_option maxHeartbeats 4000000
namespace L2
open PySem PySem.Spec PyProof.Rows
theorem pe_fldK {X : Cx} {K : PySem.W.Frag} {e : Expr} {f : Str} {pos : Pos} {ta : TE} (hK : X.K = K) (he : PE X e ta) (hb : attributeBase e f X.env (eval e X.env) = eval e X.env) : PE X (.Attribute e f pos) (tFld K ta f) := hK ▸ pe_fld he hb
end L2
namespace K91
open PySem L2 PyProof.Rows
theorem le1000 {n : Nat} (h : n ≤ 1000) : n ≤ sizeLine := Nat.le_of_lt (small1000 h)
theorem nm_take {rows : List Rw} {i : Nat} {r : Rw} (h : rows[i]? = some r) : nms (rows.take (i + 1)) = nms (rows.take i) ++ (if byNm r.k = true then [r.z] else []) := by
  have hi : i < rows.length := (List.getElem?_eq_some_iff.mp h).1
  have e : rows[i] = r := by rw [List.getElem?_eq_getElem hi] at h; exact Option.some.inj h
  unfold nms
  rw [List.take_succ_eq_append_getElem hi, List.filter_append, List.map_append, e]
  cases hb : byNm r.k <;> simp [hb]
section
variable {P : Program} {w : World} {K : PySem.W.Frag} {mg : Str → Option Value} {base : Heap} {f G sg : Addr} {fd : FuncData} {c : C5} {m : MA}
theorem scNumW : FnScope ["parameters", "word", "at", "parameter"] ["parameters", "word"] (defScope sNumW) := ⟨rfl, rfl, rfl, by decide +kernel, rfl, by decide +kernel, by decide +kernel⟩
theorem ok_numw (F : Fun K "number_of_word" "number_of_word" sNumW f fd) (T : TxtF w K mg G sg) (PP : Pcs K m c) : FnOk P w K mg base CX0 1 f fd ["parameters", "word"] (spNW c) := by
  refine F.ok scNumW (fun vs H Q E h => ?_) (fun cdv A outer s H vs Q E hr h => ?_)
  · obtain ⟨a, ps, rows, kk, rfl, _⟩ := h
    rfl
  obtain ⟨a, ps, rows, kk, rfl, hkk, ha, hp, hok, q⟩ := h
  refine ⟨_, pss_cons (ps_for PassesOwn.never rfl (pi_enum rfl T.en (ac (pv 0) pa_nil)) (pg_tup rfl (pgs_cons (pg_name (i := 2) scNumW.nd rfl (Or.inl rfl)) (pgs_cons (pg_name (i := 3) scNumW.nd rfl (Or.inl rfl)) pgs_nil)))
      (pss_one (ps_if (pt_cmpR op_eq (pe_fld (pv 3) rfl) (pv 1) (nomark _)) (pss_one (ps_ret (pv 2))) pss_nil))) (pss_one (ps_ret pe_non)), ?_⟩
  refine ⟨_, rfl, a, rfl, ⟨_, SqL.of ha⟩, for_enum (K := K) (a := a) (xs := ps.map V.ref) (fun i σ H' => ∃ (v2 v3 : Option V), σ = [some (.ref a), some (.str (kw kk)), v2, v3] ∧ Same H H' ∧ firstK kk i (rows.drop i) = firstK kk 0 rows)
    ⟨_, _, rfl, Same.refl _, rfl⟩ (fun i σ H' _ ⟨_, _, _, sH, _⟩ => SqL.of (sH _ _ ha)) ?_ ?_⟩
  · rintro i x p σ H' hx ⟨v2, v3, rfl, sH, hl⟩ hpn
    obtain ⟨pa, hpa, rfl⟩ := refs_at hx
    obtain ⟨r, hr', dx, hdx⟩ := paired_at hp hpa
    have rok := hok r (List.mem_of_getElem? hr')
    have C := PP r.k rok.1
    rw [drop_at hr'] at hl
    have hl' : (if r.k = kk then some i else firstK kk (i + 1) (rows.drop (i + 1))) = firstK kk 0 rows := hl
    have sp := same_new hpn (.tup [.int (i : Nat), .ref pa])
    refine ⟨p, _, rfl, SqT.of upd_same, rfl, _, _, rfl, _, _, rfl, rfl, ?_⟩
    refine ⟨_, rfl, pa, _, dx, _, _, rfl, sp _ _ (sH _ _ hdx), C.cl, C.nW, pf_word, _, rfl, rfl, _, rfl, ?_⟩
    by_cases e : r.k = kk
    · refine dT (by rw [e]) ?_
      rw [if_pos e] at hl'
      refine ⟨_, rfl, ?_⟩
      have := q _ (sH.trans sp)
      rw [← hl'] at this
      exact this
    · refine dF (fun z => ?_) ?_
      · have h1 := kw_inj kk hkk r.k rok.1
        rw [decide_eq_true z] at h1
        exact e (by simpa using h1.symm)
      · rw [if_neg e] at hl'
        exact ⟨_, _, rfl, sH.trans sp, hl'⟩
  · rintro σ H' ⟨v2, v3, rfl, sH, hl⟩
    have e : firstK kk 0 rows = none := by
      rw [← hl, List.length_map, hp.length, List.drop_length]
      rfl
    have := q _ sH
    rw [e] at this
    exact this
theorem scRBars : FnScope ["bars", "bar"] ["bars"] (defScope sRBars) := ⟨rfl, rfl, rfl, by decide +kernel, rfl, by decide +kernel, by decide +kernel⟩
theorem ok_rbars {g : Addr} {gd : FuncData} (F : Fun K "refuse_bars_without_name" "refuse_bars_without_name" sRBars f fd) (cI : Callee P w K mg base 1 "is_name" g gd ["thing"] (spIs K)) : FnOk P w K mg base CX0 2 f fd ["bars"] spRB := by
  refine F.ok scRBars (fun vs H Q E h => ?_) (fun cdv A outer s H vs Q E hr h => ?_)
  · obtain ⟨b, bars, rfl, _⟩ := h
    rfl
  obtain ⟨b, bars, rfl, hb, hn, q⟩ := h
  refine ⟨_, pss_one (ps_for PassesOwn.never rfl (pi_list (pv 0)) (pg_name (i := 1) scRBars.nd rfl (Or.inl rfl)) (pss_one (ps_if (pt_not (pt_val (cF cI hr (ac (pv 1) pa_nil)))) (pss_one ps_dead) pss_nil))), ?_⟩
  refine ⟨_, rfl, b, rfl, ⟨_, SqL.of hb⟩, for_list (K := K) (a := b) (xs := bars.map V.str) (fun i σ H' => ∃ v1, σ = [some (.ref b), v1] ∧ Same H H') ⟨_, rfl, Same.refl _⟩ (fun i σ H' _ ⟨_, _, sH⟩ => SqL.of (sH _ _ hb)) ?_ ?_⟩
  · rintro i x σ H' hx ⟨v1, rfl, sH⟩
    obtain ⟨z, hz, rfl⟩ := strs_at hx
    have nz := hn z (List.mem_of_getElem? hz)
    refine ⟨_, rfl, _, rfl, .inl ⟨z, rfl, nameB_ok nz⟩, fun H2 s2 => ⟨_, rfl, ?_⟩⟩
    rw [show nmV (.str z) = true from nz]
    refine iteF ?_
    exact ⟨_, rfl, sH.trans s2⟩
  · rintro σ H' ⟨v1, rfl, sH⟩
    exact q _ sH
theorem ndPm : ([Str.ofString "parameter"] : List Str).Nodup := by decide +kernel
theorem scRTwice : FnScope ["parameters", "bars", "seen", "name"] ["parameters", "bars"] (defScope sRTwice) := ⟨rfl, rfl, rfl, by decide +kernel, rfl, by decide +kernel, by decide +kernel⟩
theorem ok_twice {gd : FuncData} (F : Fun K "refuse_twice" "refuse_twice" sRTwice f fd) (T : TxtF w K mg G sg) (PP : Pcs K m c) (GB : FnOk P w K mg base CX0 1 m.fB gd ["self"] (spIn K m bnL)) (bB : Binds K gd ["self"] []) : FnOk P w K mg base CX0 2 f fd ["parameters", "bars"] (spTw c) := by
  refine F.ok scRTwice (fun vs H Q E h => ?_) (fun cdv A outer s H vs Q E hr h => ?_)
  · obtain ⟨a, b, ps, rows, bars, rfl, _⟩ := h
    rfl
  obtain ⟨a, b, ps, rows, bars, rfl, ha, hp, hok, l1, hb, l2, nd, q⟩ := h
  have hC : ∀ C, Cs5 c C → Cls K C ∧ Meth K C "by_name" m.fB := fun C ⟨k, hk, e⟩ => by rw [e]; exact ⟨(PP k hk).cl, (PP k hk).mB⟩
  refine ⟨_, pss_cons (ps_set (i := 2) scRTwice.nd rfl (Or.inl rfl) (pe_callTy0 call_set0 rfl T.set (by decide +kernel : bootBuiltins "set" = some (.type "set"))))
    (pss_one (ps_for PassesOwn.never rfl (pi_list (pe_op op_cat (pe_lc [] ["parameter"] [none] rfl ⟨rfl, rfl, rfl, rfl⟩ (pi_list (pv 0)) (gown_name 0) rfl rfl rfl
        (fun pins fp s H C => ⟨pg_name (i := 0) ndPm rfl (Or.inl rfl) (.inr rfl), pif_one (pt_val (pe_methP (pv 0) hC GB hr bB pass0)), pe_fldK (K := K) rfl (pv 0) rfl⟩)) (cTy call_list_of T.lst PyProof.Rows.boot_list (ac (pv 1) pa_nil)))) (pg_name (i := 3) scRTwice.nd rfl (Or.inl rfl))
      (pss_cons (ps_if (pt_cmpR op_in_setT (pv 3) (pv 2) (by with_unfolding_all rfl)) (pss_one ps_dead) pss_nil)
      (pss_one (ps_expr (pe_sadd (pv 2) (pv 3) ⟨rfl, rfl, rfl, rfl⟩)))))), ?_⟩
  refine ⟨rfl, fun se hse => ?_⟩
  have s1 : Same H (upd H se (setO P w se (fun _ => false) 0)) := same_new hse _
  have g1 : upd H se (setO P w se (fun _ => false) 0) se = some (setO P w se (fun _ => false) 0) := upd_same
  show tSeq _ _ _ _ (upd H se (setO P w se (fun _ => false) 0))
  generalize upd H se (setO P w se (fun _ => false) 0) = H1 at s1 g1 ⊢
  have ha1 := s1 _ _ ha
  have hp1 := pats_same s1 hp
  refine ⟨_, rfl, a, rfl, ⟨_, SqL.of ha1⟩, fun D hD => ?_⟩
  refine lc_list (K := K) (xs := ps.map V.ref) (fun i ys H' => Same H1 H' ∧ H' D = some (.lst ys) ∧ ys = (nms (rows.take i)).map V.str) ⟨same_new hD _, upd_same, rfl⟩ (fun i ys H' h => SqL.of (h.1 _ _ ha1)) ?_ ?_
  · rintro i x ys H' hlt hx ⟨sH, hDy, ey⟩
    obtain ⟨pa, hpa, rfl⟩ := refs_at hx
    obtain ⟨r, hr', dx, hdx⟩ := paired_at hp1 hpa
    have rok := hok r (List.mem_of_getElem? hr')
    have C := PP r.k rok.1
    have nl : ys.length ≤ i := by
      rw [ey, List.length_map]
      unfold nms
      rw [List.length_map]
      refine Nat.le_trans (List.length_filter_le _ _) ?_
      rw [List.length_take]
      omega
    have hd2 := sH _ _ hdx
    refine ⟨_, rfl, pa, _, dx, _, rfl, ⟨r.k, rok.1, rfl⟩, hd2, pf_no (by decide +kernel) (by decide +kernel) (by decide +kernel), pa, dx, _, _, _, _, rfl, C, hd2, _, rfl, ?_⟩
    rw [in_nm r.k rok.1]
    have tk := nm_take hr'
    refine ⟨fun e => ?_, fun e => ?_⟩
    · rw [e, if_pos rfl] at tk
      refine ⟨_, rfl, pa, _, dx, _, _, rfl, hd2, C.cl, C.nN, pf_name, ?_⟩
      refine lcN.mk hlt (le1000 (by rw [List.length_map, hp.length]; omega)) hDy nl ⟨fun b u e => ?_, upd_same, ?_⟩
      · rw [upd_ne (ne_of_none e hD)]
        exact sH b u e
      · rw [ey, tk, List.map_append]
        rfl
    · rw [e, if_neg Bool.false_ne_true, List.append_nil] at tk
      exact lcS.mk hlt ⟨sH, hDy, by rw [ey, tk]⟩
  rintro ys H2 ⟨s2, hDy, ey⟩
  have ey : ys = (nms rows).map V.str := by
    rw [ey, List.length_map, hp.length, List.take_length]
  subst ey
  have hb2 := s2 _ _ (s1 _ _ hb)
  refine ⟨_, rfl, b, _, rfl, .inl (SqL.of hb2), fun l hl => ?_⟩
  have s3 := same_new hl (.lst (bars.map V.str))
  have g3 : upd H2 l (.lst (bars.map V.str)) l = some (.lst (bars.map V.str)) := upd_same
  generalize upd H2 l (.lst (bars.map V.str)) = H3 at s3 g3 ⊢
  have ln : (nms rows).length ≤ 500 := by
    unfold nms
    rw [List.length_map]
    exact Nat.le_trans (List.length_filter_le _ _) l1
  refine ⟨D, l, _, _, rfl, rfl, s3 _ _ hDy, g3, le1000 (by rw [List.length_map, List.length_map]; omega), fun l4 hl4 => ?_⟩
  rw [← List.map_append]
  have s4 := same_new hl4 (.lst ((nms rows ++ bars).map V.str))
  have g4 : upd H3 l4 (.lst ((nms rows ++ bars).map V.str)) l4 = some (.lst ((nms rows ++ bars).map V.str)) := upd_same
  have nse : l4 ≠ se := fun z => by
    rw [z] at hl4
    rw [s3 _ _ (s2 _ _ g1)] at hl4
    cases hl4
  generalize upd H3 l4 (.lst ((nms rows ++ bars).map V.str)) = H4 at s4 g4 ⊢
  have sA : Same H1 H4 := s2.trans (s3.trans s4)
  have gse := sA _ _ g1
  refine ⟨l4, rfl, ⟨_, SqL.of g4⟩, for_list (K := K) (a := l4) (xs := (nms rows ++ bars).map V.str) (fun i σ H' => ∃ (S : Str → Bool) (n : Nat) (v3 : Option V), σ = [some (.ref a), some (.ref b), some (.ref se), v3] ∧ H' se = some (setO P w se S n) ∧ (∀ z, S z = decide (z ∈ (nms rows ++ bars).take i)) ∧ n ≤ i ∧ (∀ b' u, H4 b' = some u → b' ≠ se → H' b' = some u))
    ⟨_, 0, _, rfl, gse, fun z => by simp, Nat.le_refl _, fun b' u e _ => e⟩ (fun i σ H' _ ⟨_, _, _, _, _, _, _, k⟩ => SqL.of (k _ _ g4 nse)) ?_ ?_⟩
  · rintro i x σ H' hx ⟨S, n, v3, rfl, hS, hSz, hn, k⟩
    obtain ⟨z, hz, rfl⟩ := strs_at hx
    have hi : i < (nms rows ++ bars).length := (List.getElem?_eq_some_iff.mp hz).1
    have ez : (nms rows ++ bars)[i] = z := by rw [List.getElem?_eq_getElem hi] at hz; exact Option.some.inj hz
    have nz : S z = false := by
      rw [hSz, decide_eq_false_iff_not]
      intro hm
      obtain ⟨j, hj, ej⟩ := List.mem_take_iff_getElem.mp hm
      have := List.pairwise_iff_getElem.mp nd j i (by omega) hi (by omega)
      exact this (ej.trans ez.symm)
    refine ⟨_, rfl, _, rfl, se, S, n, z, rfl, rfl, hS, _, rfl, ?_⟩
    rw [nz]
    refine iteF ?_
    refine ⟨_, rfl, se, S, n, rfl, hS, _, rfl, S, n, z, rfl, hS, ?_, ?_⟩
    · rw [List.length_append] at hi
      show n + 1 < 4096
      omega
    · refine ⟨_, _, _, rfl, upd_same, fun y => ?_, ?_, fun b' u e ne => ?_⟩
      · rw [hSz y, List.take_succ_eq_append_getElem hi, ez]
        simp [List.mem_append]
      · rw [nz]
        show n + 1 ≤ i + 1
        omega
      · rw [upd_ne ne]
        exact k b' u e ne
  · rintro σ H' ⟨S, n, v3, rfl, hS, hSz, hn, k⟩
    refine q _ fun b' u e => k b' u (sA _ _ (s1 _ _ e)) fun z => ?_
    rw [z, hse] at e
    cases e
end
end K91

set_option Elab.async false
set_option linter.all false
set_option maxRecDepth 100000
set_option maxHeartbeats 4000000
namespace K91
open PySem L2 PyProof.Rows
def SX (f : Addr) (H H' : Hp) : Prop := ∀ b u, H b = some u → b ≠ f → H' b = some u
theorem SX.same {f : Addr} {H H1 H2 : Hp} (x : SX f H H1) (s : Same H1 H2) : SX f H H2 := fun b u e n => s b u (x b u e n)
theorem SX.upd {f : Addr} {H H1 : Hp} {o : HO} (x : SX f H H1) : SX f H (upd H1 f o) := fun b u e n => by rw [upd_ne n]; exact x b u e n
theorem SX.refl {f : Addr} {H : Hp} : SX f H H := fun _ _ e _ => e
theorem putF_le (f : Str) (v : V) : ∀ fs : List (Str × V), (putF f v fs).length ≤ fs.length + 1
  | [] => Nat.le_refl _
  | (g, x) :: r => by
    show (if g = f then (g, v) :: r else (g, x) :: putF f v r).length ≤ _
    split
    · simp
    · have := putF_le f v r
      simp only [List.length_cons]
      omega
def Pre (fs : List (Str × V)) : Prop := fs.length ≤ 50 ∧ ∀ m, m ∉ attrs → fs.lookup m = none
structure FC (K : PySem.W.Frag) (CF : Addr) : Prop where
  cl : Cls K CF
  n1 : NoAttr K CF "row"
  n2 : NoAttr K CF "bar_names"
  n3 : NoAttr K CF "place_count"
  n4 : NoAttr K CF "tail_number"
  n5 : NoAttr K CF "bag_number"
  n6 : NoAttr K CF "doors"
def spKeep (c : C5) (CF : Addr) : Sp := fun vs H Q _ => ∃ (f a b dx : Addr) (fs : List (Str × V)) (ps : List Addr) (rows : List Rw) (bars : List Str), vs = [.ref f, .ref a, .ref b] ∧ H f = some (.ins CF dx fs) ∧ Pre fs ∧ H a = some (.lst (ps.map V.ref)) ∧ Paired (PAt c H) ps rows ∧ (∀ r ∈ rows, r.ok) ∧ rows.length ≤ 500 ∧ H b = some (.lst (bars.map V.str)) ∧
  ∀ H', SX f H H' → FormN c CF H H' f rows bars → (∃ dx' fs', H' f = some (.ins CF dx' fs') ∧ fs'.length ≤ fs.length + 6) → Q .non H'
theorem pl_take {rows : List Rw} {i : Nat} {r : Rw} (h : rows[i]? = some r) : plN (rows.take (i + 1)) = plN (rows.take i) + (if byPl r.k = true then 1 else 0) := by
  have hi : i < rows.length := (List.getElem?_eq_some_iff.mp h).1
  have e : rows[i] = r := by rw [List.getElem?_eq_getElem hi] at h; exact Option.some.inj h
  unfold plN
  rw [List.take_succ_eq_append_getElem hi, List.filter_append, List.length_append, e]
  cases hb : byPl r.k <;> simp [hb]
theorem doors_len : ∀ (rows : List Rw) (i : Nat) (acc : List (Key × V)), (doorsF i acc rows).length ≤ acc.length + rows.length
  | [], _, _ => Nat.le_refl _
  | r :: rs, i, acc => by
    have h := doors_len rs (i + 1) (if byNm r.k = true then putK acc (.inr r.z) (.int i) else acc)
    have h2 : (if byNm r.k = true then putK acc (.inr r.z) (.int i) else acc).length ≤ acc.length + 1 := by
      split
      · exact length_putK acc _ _
      · omega
    show (doorsF (i + 1) _ rs).length ≤ acc.length + (rs.length + 1)
    omega
theorem doorsF_take {r : Rw} : ∀ (rows : List Rw) (j i : Nat) (acc : List (Key × V)), rows[i]? = some r → doorsF j acc (rows.take (i + 1)) = (if byNm r.k = true then putK (doorsF j acc (rows.take i)) (.inr r.z) (.int (j + i : Nat)) else doorsF j acc (rows.take i))
  | [], _, _, _, h => by simp at h
  | r0 :: rs, j, 0, acc, h => by
    have e : r0 = r := by simpa using h
    subst e
    show (if byNm r0.k = true then putK acc (.inr r0.z) (.int j) else acc) = _
    rfl
  | r0 :: rs, j, i + 1, acc, h => by
    have := doorsF_take rs (j + 1) i (if byNm r0.k = true then putK acc (.inr r0.z) (.int j) else acc) (by simpa using h)
    show doorsF (j + 1) _ (rs.take (i + 1)) = _
    rw [this, show j + 1 + i = j + (i + 1) by omega]
    rfl
section
variable {P : Program} {w : World} {K : PySem.W.Frag} {mg : Str → Option Value} {base : Heap} {f G sg CF : Addr} {fd : FuncData} {c : C5} {m : MA}
theorem PAt.ne {H : Hp} {p f CF dx : Addr} {r : Rw} {fs : List (Str × V)} (h : PAt c H p r) (e : H f = some (.ins CF dx fs)) (n : fs.lookup ("word" : Str) = none) : p ≠ f := fun z => by
  obtain ⟨d, h⟩ := h
  rw [z, e] at h
  injection h with h
  injection h with h1 h2 h3
  rw [h3, pf_word] at n
  cases n
theorem pats_sx {H H' : Hp} {f CF dx : Addr} {fs : List (Str × V)} (e : H f = some (.ins CF dx fs)) (n : fs.lookup ("word" : Str) = none) (x : SX f H H') {ps : List Addr} {rows : List Rw} (h : Paired (PAt c H) ps rows) : Paired (PAt c H') ps rows :=
  Paired.imp' (fun _ _ z => by
    have ne := z.ne e n
    obtain ⟨d, q⟩ := z
    exact ⟨d, x _ _ q ne⟩) h
theorem ndAP : ([Str.ofString "at", Str.ofString "parameter"] : List Str).Nodup := by decide +kernel
theorem scKeep : FnScope ["self", "parameters", "bars"] ["self", "parameters", "bars"] (defScope sKeep) := ⟨rfl, rfl, rfl, by decide +kernel, rfl, by decide +kernel, by decide +kernel⟩
theorem ok_keep {g : Addr} {gd gp gb : FuncData} (F : Fun K "keep" "Form.keep" sKeep f fd) (T : TxtF w K mg G sg) (PP : Pcs K m c) (FK : FC K CF) (cW : Callee P w K mg base 1 "number_of_word" g gd ["parameters", "word"] (spNW c))
    (GP : FnOk P w K mg base CX0 1 m.fP gp ["self"] (spIn K m bpL)) (bP : Binds K gp ["self"] []) (GB : FnOk P w K mg base CX0 1 m.fB gb ["self"] (spIn K m bnL)) (bB : Binds K gb ["self"] []) : FnOk P w K mg base CX0 2 f fd ["self", "parameters", "bars"] (spKeep c CF) := by
  refine F.ok scKeep (fun vs H Q E h => ?_) (fun cdv A outer s H vs Q E hr h => ?_)
  · obtain ⟨f, a, b, dx, fs, ps, rows, bars, rfl, _⟩ := h
    rfl
  obtain ⟨f, a, b, dx, fs, ps, rows, bars, rfl, hf, ⟨pl, pn⟩, ha, hp, hok, l5, hb, q⟩ := h
  have hP : ∀ C, Cs5 c C → Cls K C ∧ Meth K C "by_place" m.fP := fun C ⟨k, hk, e⟩ => by rw [e]; exact ⟨(PP k hk).cl, (PP k hk).mP⟩
  have hB : ∀ C, Cs5 c C → Cls K C ∧ Meth K C "by_name" m.fB := fun C ⟨k, hk, e⟩ => by rw [e]; exact ⟨(PP k hk).cl, (PP k hk).mB⟩
  have nw : fs.lookup ("word" : Str) = none := pn _ (by decide +kernel)
  refine ⟨_, pss_cons (ps_fld (pv 0) (cTy call_list_of T.lst PyProof.Rows.boot_list (ac (pv 1) pa_nil)) rfl)
    (pss_cons (ps_fld (pv 0) (cTy call_list_of T.lst PyProof.Rows.boot_list (ac (pv 2) pa_nil)) rfl)
    (pss_cons (ps_fld (pv 0) (cB call_len_seq T.len PySem.boot_len (ac (pe_lc [] ["parameter"] [none] rfl ⟨rfl, rfl, rfl, rfl⟩ (pi_list (pe_fld (pv 0) rfl)) (gown_name 0) rfl rfl rfl
        (fun pins fp s H C => ⟨pg_name (i := 0) ndPm rfl (Or.inl rfl) (.inr rfl), pif_one (pt_val (pe_methP (pv 0) hP GP hr bP pass0)), pv 0⟩)) pa_nil)) rfl)
    (pss_cons (ps_fld (pv 0) (cF cW hr (ac (pe_fld (pv 0) rfl) (ac pe_str pa_nil))) rfl)
    (pss_cons (ps_fld (pv 0) (cF cW hr (ac (pe_fld (pv 0) rfl) (ac pe_str pa_nil))) rfl)
    (pss_one (ps_fld (pv 0) (pe_dc [] ["at", "parameter"] [none, none] rfl ⟨rfl, rfl, rfl, rfl⟩ (pi_enum rfl T.en (ac (pe_fld (pv 0) rfl) pa_nil)) (gown_tup2 (K := K) (n := 2) 0 1) rfl rfl rfl
        (fun pins fp s H C => ⟨pg_tup rfl (pgs_cons (pg_name (i := 0) ndAP rfl (Or.inl rfl) (.inr rfl)) (pgs_cons (pg_name (i := 1) ndAP rfl (Or.inl rfl) (.inr rfl)) pgs_nil)), pif_one (pt_val (pe_methP (pv 1) hB GB hr bB pass0)), pe_fldK (K := K) rfl (pv 1) rfl, pv 0⟩)) rfl)))))), ?_⟩
  -- row
  refine ⟨_, rfl, a, _, rfl, .inl (SqL.of ha), fun l1 hl1 => ?_⟩
  have s1 := same_new hl1 (.lst (ps.map V.ref))
  refine ⟨_, rfl, f, CF, dx, fs, rfl, s1 _ _ hf, FK.cl, FK.n1, (by omega), ?_⟩
  have x1 : SX f H (upd (upd H l1 (.lst (ps.map V.ref))) f (.ins CF dx (putF "row" (.ref l1) fs))) := (SX.refl.same s1).upd
  have f1 : upd (upd H l1 (.lst (ps.map V.ref))) f (.ins CF dx (putF "row" (.ref l1) fs)) f = some (.ins CF dx (putF "row" (.ref l1) fs)) := upd_same
  have e1 : upd (upd H l1 (.lst (ps.map V.ref))) f (.ins CF dx (putF "row" (.ref l1) fs)) l1 = some (.lst (ps.map V.ref)) := by
    rw [upd_ne (fun z => by rw [z, hf] at hl1; cases hl1), upd_same]
  have p1 := putF_le "row" (.ref l1) fs
  have r1 : (putF "row" (.ref l1) fs).lookup ("row" : Str) = some (.ref l1) := by rw [lookup_putF, if_pos rfl]
  show tSeq _ _ _ _ (upd (upd H l1 (.lst (ps.map V.ref))) f (.ins CF dx (putF "row" (.ref l1) fs)))
  generalize upd (upd H l1 (.lst (ps.map V.ref))) f (.ins CF dx (putF "row" (.ref l1) fs)) = H1 at x1 f1 e1 ⊢
  have nbf : b ≠ f := ne_of hb hf (by intro z; cases z)
  -- bar_names
  refine ⟨_, rfl, b, _, rfl, .inl (SqL.of (x1 _ _ hb nbf)), fun l2 hl2 => ?_⟩
  have s2 := same_new hl2 (.lst (bars.map V.str))
  have hlb : H l2 = none := by
    cases e : H l2 with
    | none => rfl
    | some u => exact absurd (x1 _ _ e (fun z => by rw [z, f1] at hl2; cases hl2)) (by rw [hl2]; intro z; cases z)
  refine ⟨_, rfl, f, CF, dx, _, rfl, s2 _ _ f1, FK.cl, FK.n2, (by omega), ?_⟩
  have x2 : SX f H (upd (upd H1 l2 (.lst (bars.map V.str))) f (.ins CF dx (putF "bar_names" (.ref l2) (putF "row" (.ref l1) fs)))) := (x1.same s2).upd
  have f2 : upd (upd H1 l2 (.lst (bars.map V.str))) f (.ins CF dx (putF "bar_names" (.ref l2) (putF "row" (.ref l1) fs))) f = some (.ins CF dx (putF "bar_names" (.ref l2) (putF "row" (.ref l1) fs))) := upd_same
  have g2 : upd (upd H1 l2 (.lst (bars.map V.str))) f (.ins CF dx (putF "bar_names" (.ref l2) (putF "row" (.ref l1) fs))) l2 = some (.lst (bars.map V.str)) := by
    rw [upd_ne (fun z => by rw [z, f1] at hl2; cases hl2), upd_same]
  have e2 : upd (upd H1 l2 (.lst (bars.map V.str))) f (.ins CF dx (putF "bar_names" (.ref l2) (putF "row" (.ref l1) fs))) l1 = some (.lst (ps.map V.ref)) := by
    rw [upd_ne (ne_of e1 f1 (by intro z; cases z)), s2 _ _ e1]
  have p2 := putF_le "bar_names" (.ref l2) (putF "row" (.ref l1) fs)
  have r2 : (putF "bar_names" (.ref l2) (putF "row" (.ref l1) fs)).lookup ("row" : Str) = some (.ref l1) := by rw [lookup_putF, if_neg (by decide +kernel)]; exact r1
  show tSeq _ _ _ _ (upd (upd H1 l2 (.lst (bars.map V.str))) f (.ins CF dx (putF "bar_names" (.ref l2) (putF "row" (.ref l1) fs))))
  generalize hfs2 : putF "bar_names" (.ref l2) (putF "row" (.ref l1) fs) = fs2 at f2 e2 g2 p2 r2 x2 ⊢
  generalize upd (upd H1 l2 (.lst (bars.map V.str))) f (.ins CF dx fs2) = H2 at x2 f2 e2 g2 ⊢
  have hp2 := pats_sx hf nw x2 hp
  -- place_count
  refine ⟨_, rfl, f, CF, dx, _, _, rfl, f2, FK.cl, FK.n1, r2, l1, rfl, ⟨_, SqL.of e2⟩, fun D hD => ?_⟩
  refine lc_list (K := K) (xs := ps.map V.ref) (fun i ys H' => Same H2 H' ∧ H' D = some (.lst ys) ∧ ys.length = plN (rows.take i)) ⟨same_new hD _, upd_same, rfl⟩ (fun i ys H' h => SqL.of (h.1 _ _ e2)) ?_ ?_
  · rintro i x ys H' hlt hx ⟨sH, hDy, ey⟩
    obtain ⟨pa, hpa, rfl⟩ := refs_at hx
    obtain ⟨r, hr', dx', hdx⟩ := paired_at hp2 hpa
    have rok := hok r (List.mem_of_getElem? hr')
    have C := PP r.k rok.1
    have nl : ys.length ≤ i := by
      rw [ey]
      unfold plN
      refine Nat.le_trans (List.length_filter_le _ _) ?_
      rw [List.length_take]
      omega
    have hd2 := sH _ _ hdx
    refine ⟨_, rfl, pa, _, dx', _, rfl, ⟨r.k, rok.1, rfl⟩, hd2, pf_no (by decide +kernel) (by decide +kernel) (by decide +kernel), pa, dx', _, _, _, _, rfl, C, hd2, _, rfl, ?_⟩
    rw [in_pl r.k rok.1]
    have tk := pl_take hr'
    refine ⟨fun e => ?_, fun e => ?_⟩
    · rw [e, if_pos rfl] at tk
      refine ⟨_, rfl, lcN.mk hlt (le1000 (by rw [List.length_map, hp.length]; omega)) hDy nl ⟨fun b u e => ?_, upd_same, ?_⟩⟩
      · rw [upd_ne (ne_of_none e hD)]
        exact sH b u e
      · rw [List.length_append, ey, tk]
        rfl
    · rw [e, if_neg Bool.false_ne_true] at tk
      exact lcS.mk hlt ⟨sH, hDy, by rw [ey, tk]; rfl⟩
  rintro ys H3 ⟨s3, hDy, ey⟩
  rw [List.length_map, hp.length, List.take_length] at ey
  refine ⟨D, _, rfl, .inl (SqL.of hDy), ?_⟩
  rw [ey]
  have x3 := x2.same s3
  refine ⟨_, rfl, f, CF, dx, _, rfl, s3 _ _ f2, FK.cl, FK.n3, (by omega), ?_⟩
  have f3 : upd H3 f (.ins CF dx (putF "place_count" (.int (plN rows : Nat)) fs2)) f = some (.ins CF dx (putF "place_count" (.int (plN rows : Nat)) fs2)) := upd_same
  have x4 : SX f H (upd H3 f (.ins CF dx (putF "place_count" (.int (plN rows : Nat)) fs2))) := x3.upd
  have e4 : upd H3 f (.ins CF dx (putF "place_count" (.int (plN rows : Nat)) fs2)) l1 = some (.lst (ps.map V.ref)) := by rw [upd_ne (ne_of e2 f2 (by intro z; cases z))]; exact s3 _ _ e2
  have g4 : upd H3 f (.ins CF dx (putF "place_count" (.int (plN rows : Nat)) fs2)) l2 = some (.lst (bars.map V.str)) := by rw [upd_ne (ne_of g2 f2 (by intro z; cases z))]; exact s3 _ _ g2
  have p3 := putF_le "place_count" (.int (plN rows : Nat)) fs2
  have r3 : (putF "place_count" (.int (plN rows : Nat)) fs2).lookup ("row" : Str) = some (.ref l1) := by rw [lookup_putF, if_neg (by decide +kernel)]; exact r2
  show tSeq _ _ _ _ (upd H3 f (.ins CF dx (putF "place_count" (.int (plN rows : Nat)) fs2)))
  generalize hfs3 : putF "place_count" (.int (plN rows : Nat)) fs2 = fs3 at f3 x4 e4 g4 p3 r3 ⊢
  generalize upd H3 f (.ins CF dx fs3) = H4 at x4 f3 e4 g4 ⊢
  -- tail_number
  refine ⟨_, rfl, f, CF, dx, _, _, rfl, f3, FK.cl, FK.n1, r3, l1, ps, rows, 2, rfl, by decide, e4, pats_sx hf nw x4 hp, hok, fun H5 s5 => ?_⟩
  refine ⟨_, rfl, f, CF, dx, _, rfl, s5 _ _ f3, FK.cl, FK.n4, (by omega), ?_⟩
  have f5 : upd H5 f (.ins CF dx (putF "tail_number" (numV (firstK 2 0 rows)) fs3)) f = some (.ins CF dx (putF "tail_number" (numV (firstK 2 0 rows)) fs3)) := upd_same
  have x5 : SX f H (upd H5 f (.ins CF dx (putF "tail_number" (numV (firstK 2 0 rows)) fs3))) := (x4.same s5).upd
  have e5 : upd H5 f (.ins CF dx (putF "tail_number" (numV (firstK 2 0 rows)) fs3)) l1 = some (.lst (ps.map V.ref)) := by rw [upd_ne (ne_of e4 f3 (by intro z; cases z))]; exact s5 _ _ e4
  have g5 : upd H5 f (.ins CF dx (putF "tail_number" (numV (firstK 2 0 rows)) fs3)) l2 = some (.lst (bars.map V.str)) := by rw [upd_ne (ne_of g4 f3 (by intro z; cases z))]; exact s5 _ _ g4
  have p4 := putF_le "tail_number" (numV (firstK 2 0 rows)) fs3
  have r4 : (putF "tail_number" (numV (firstK 2 0 rows)) fs3).lookup ("row" : Str) = some (.ref l1) := by rw [lookup_putF, if_neg (by decide +kernel)]; exact r3
  show tSeq _ _ _ _ (upd H5 f (.ins CF dx (putF "tail_number" (numV (firstK 2 0 rows)) fs3)))
  generalize hfs4 : putF "tail_number" (numV (firstK 2 0 rows)) fs3 = fs4 at f5 x5 e5 g5 p4 r4 ⊢
  generalize upd H5 f (.ins CF dx fs4) = H6 at x5 f5 e5 g5 ⊢
  -- bag_number
  refine ⟨_, rfl, f, CF, dx, _, _, rfl, f5, FK.cl, FK.n1, r4, l1, ps, rows, 4, rfl, by decide, e5, pats_sx hf nw x5 hp, hok, fun H7 s7 => ?_⟩
  refine ⟨_, rfl, f, CF, dx, _, rfl, s7 _ _ f5, FK.cl, FK.n5, (by omega), ?_⟩
  have f7 : upd H7 f (.ins CF dx (putF "bag_number" (numV (firstK 4 0 rows)) fs4)) f = some (.ins CF dx (putF "bag_number" (numV (firstK 4 0 rows)) fs4)) := upd_same
  have x7 : SX f H (upd H7 f (.ins CF dx (putF "bag_number" (numV (firstK 4 0 rows)) fs4))) := (x5.same s7).upd
  have e7 : upd H7 f (.ins CF dx (putF "bag_number" (numV (firstK 4 0 rows)) fs4)) l1 = some (.lst (ps.map V.ref)) := by rw [upd_ne (ne_of e5 f5 (by intro z; cases z))]; exact s7 _ _ e5
  have g7 : upd H7 f (.ins CF dx (putF "bag_number" (numV (firstK 4 0 rows)) fs4)) l2 = some (.lst (bars.map V.str)) := by rw [upd_ne (ne_of g5 f5 (by intro z; cases z))]; exact s7 _ _ g5
  have p5 := putF_le "bag_number" (numV (firstK 4 0 rows)) fs4
  have r5 : (putF "bag_number" (numV (firstK 4 0 rows)) fs4).lookup ("row" : Str) = some (.ref l1) := by rw [lookup_putF, if_neg (by decide +kernel)]; exact r4
  generalize hfs5 : putF "bag_number" (numV (firstK 4 0 rows)) fs4 = fs5 at f7 x7 e7 g7 p5 r5 ⊢
  generalize upd H7 f (.ins CF dx fs5) = H8 at x7 f7 e7 g7 ⊢
  have hp8 := pats_sx hf nw x7 hp
  -- doors
  refine ⟨_, rfl, f, CF, dx, _, _, rfl, f7, FK.cl, FK.n1, r5, l1, rfl, ⟨_, SqL.of e7⟩, fun D2 hD2 => ?_⟩
  refine dc_enum (K := K) (xs := ps.map V.ref) (fun i ys H' => Same H8 H' ∧ H' D2 = some (.dK ys) ∧ ys = doorsF 0 [] (rows.take i)) ⟨same_new hD2 _, upd_same, rfl⟩ (fun i ys H' h => SqL.of (h.1 _ _ e7)) ?_ ?_
  · rintro i x p ys H' hlt hx ⟨sH, hDy, ey⟩ hpn
    obtain ⟨pa, hpa, rfl⟩ := refs_at hx
    obtain ⟨r, hr', dx', hdx⟩ := paired_at hp8 hpa
    have rok := hok r (List.mem_of_getElem? hr')
    have C := PP r.k rok.1
    have sp := same_new hpn (.tup [.int (i : Nat), .ref pa])
    have hd2 := sp _ _ (sH _ _ hdx)
    have hDp : upd H' p (.tup [.int (i : Nat), .ref pa]) D2 = some (.dK ys) := by rw [upd_ne (ne_of_none hDy hpn)]; exact hDy
    have nl : ys.length ≤ i := by
      rw [ey]
      refine Nat.le_trans (doors_len _ _ _) ?_
      rw [List.length_take]
      show 0 + _ ≤ i
      omega
    refine ⟨p, _, rfl, SqT.of upd_same, rfl, _, _, rfl, _, _, rfl, rfl, ?_⟩
    refine ⟨_, rfl, pa, _, dx', _, rfl, ⟨r.k, rok.1, rfl⟩, hd2, pf_no (by decide +kernel) (by decide +kernel) (by decide +kernel), pa, dx', _, _, _, _, rfl, C, hd2, _, rfl, ?_⟩
    rw [in_nm r.k rok.1]
    have tk := doorsF_take rows 0 i [] hr'
    refine ⟨fun e => ?_, fun e => ?_⟩
    · rw [e, if_pos rfl] at tk
      refine ⟨_, rfl, pa, _, dx', _, _, rfl, hd2, C.cl, C.nN, pf_name, _, rfl, dcN.mk (.inr r.z) hlt rfl (le1000 (by rw [List.length_map, hp.length]; omega)) hDp nl ⟨fun b u e => ?_, upd_same, ?_⟩⟩
      · rw [upd_ne (ne_of_none e hD2)]
        exact sp _ _ (sH b u e)
      · rw [tk, ← ey, Nat.zero_add]
    · rw [e, if_neg Bool.false_ne_true] at tk
      exact dcS.mk hlt ⟨sH.trans sp, hDp, by rw [ey, tk]⟩
  rintro ys H9 ⟨s9, hDy, ey⟩
  rw [List.length_map, hp.length, List.take_length] at ey
  refine ⟨_, rfl, f, CF, dx, _, rfl, s9 _ _ f7, FK.cl, FK.n6, (by omega), ?_⟩
  have nf : ∀ {x : Addr} {o : HO}, H9 x = some o → (∀ C d g, o ≠ .ins C d g) → upd H9 f (.ins CF dx (putF "doors" (.ref D2) fs5)) x = some o := fun {x o} e n => by
    rw [upd_ne (ne_of e (s9 _ _ f7) (by intro z; exact n _ _ _ z))]
    exact e
  refine q _ (x7.same s9).upd ⟨dx, _, l1, l2, D2, ps, upd_same, ?_, nf (s9 _ _ e7) (by intro _ _ _ z; cases z), pats_sx hf nw (x7.same s9).upd hp, nf (s9 _ _ g7) (by intro _ _ _ z; cases z), nf (by rw [hDy, ey]) (by intro _ _ _ z; cases z), hl1, hlb⟩ ⟨dx, _, upd_same, Nat.le_trans (putF_le _ _ _) (by omega)⟩
  rw [← hfs5, ← hfs4, ← hfs3, ← hfs2]
  refine ⟨?_, ?_, ?_, ?_, ?_, ?_, fun mm hm => ?_⟩
  · rw [lookup_putF, if_neg (by decide +kernel), lookup_putF, if_neg (by decide +kernel), lookup_putF, if_neg (by decide +kernel), lookup_putF, if_neg (by decide +kernel), lookup_putF, if_neg (by decide +kernel), lookup_putF, if_pos rfl]
  · rw [lookup_putF, if_neg (by decide +kernel), lookup_putF, if_neg (by decide +kernel), lookup_putF, if_neg (by decide +kernel), lookup_putF, if_neg (by decide +kernel), lookup_putF, if_pos rfl]
  · rw [lookup_putF, if_neg (by decide +kernel), lookup_putF, if_neg (by decide +kernel), lookup_putF, if_neg (by decide +kernel), lookup_putF, if_pos rfl]
  · rw [lookup_putF, if_neg (by decide +kernel), lookup_putF, if_neg (by decide +kernel), lookup_putF, if_pos rfl]
  · rw [lookup_putF, if_neg (by decide +kernel), lookup_putF, if_pos rfl]
  · rw [lookup_putF, if_pos rfl]
  · have h' : ∀ a ∈ attrs, ¬ mm = a := fun a ha e => hm (e ▸ ha)
    rw [lookup_putF, if_neg (h' _ (by decide +kernel)), lookup_putF, if_neg (h' _ (by decide +kernel)), lookup_putF, if_neg (h' _ (by decide +kernel)), lookup_putF, if_neg (h' _ (by decide +kernel)), lookup_putF, if_neg (h' _ (by decide +kernel)), lookup_putF, if_neg (h' _ (by decide +kernel))]
    exact pn mm hm
end
end K91

set_option Elab.async false
set_option linter.all false
set_option maxRecDepth 100000
set_option maxHeartbeats 4000000
namespace K91
open PySem L2 PyProof.Rows
def spFI (c : C5) (CF : Addr) : Sp := fun vs H Q _ => ∃ (f a dx : Addr) (bv : V) (ps : List Addr) (rows : List Rw) (bars : List Str), vs = [.ref f, .ref a, bv] ∧ H f = some (.ins CF dx []) ∧ H a = some (.lst (ps.map V.ref)) ∧ Paired (PAt c H) ps rows ∧ ((bv = .non ∧ bars = []) ∨ ∃ b, bv = .ref b ∧ H b = some (.lst (bars.map V.str))) ∧ Valid rows bars ∧
  ∀ H', SX f H H' → FormN c CF H H' f rows bars → (∃ dx' fs', H' f = some (.ins CF dx' fs') ∧ fs'.length ≤ 6) → Q .non H'
def spPars (c : C5) (CF : Addr) : Sp := fun vs H Q _ => ∃ (f : Addr) (rows : List Rw) (bars : List Str), vs = [.ref f] ∧ FormAt c CF H f rows bars ∧ ∀ (l : Addr) (ps : List Addr) (H' : Hp), Same H H' → H l = none → H' l = some (.lst (ps.map V.ref)) → Paired (PAt c H') ps rows → Q (.ref l) H'
def spBars (c : C5) (CF : Addr) : Sp := fun vs H Q _ => ∃ (f : Addr) (rows : List Rw) (bars : List Str), vs = [.ref f] ∧ FormAt c CF H f rows bars ∧ ∀ (l : Addr) (H' : Hp), Same H H' → H l = none → H' l = some (.lst (bars.map V.str)) → Q (.ref l) H'
def TAt (H : Hp) (u : Addr) (r : Rw) : Prop := H u = some (.tup (rv r))
def spFTold (c : C5) (CF : Addr) : Sp := fun vs H Q _ => ∃ (f : Addr) (rows : List Rw) (bars : List Str), vs = [.ref f] ∧ (∀ r ∈ rows, r.ok) ∧ rows.length ≤ 500 ∧ FormAt c CF H f rows bars ∧ ∀ (t l1 l2 : Addr) (us : List Addr) (H' : Hp), Same H H' → H l1 = none → H l2 = none → l1 ≠ l2 → H' t = some (.tup [.ref l1, .ref l2]) →
  H' l1 = some (.lst (us.map V.ref)) → Paired (TAt H') us rows → H' l2 = some (.lst (bars.map V.str)) → Q (.ref t) H'
theorem tats_same {H H' : Hp} {us : List Addr} {rows : List Rw} (s : Same H H') (h : Paired (TAt H) us rows) : Paired (TAt H') us rows := Paired.imp' (fun _ _ z => s _ _ z) h
section
variable {P : Program} {w : World} {K : PySem.W.Frag} {mg : Str → Option Value} {base : Heap} {f G sg CF : Addr} {fd : FuncData} {c : C5} {m : MA}
theorem scFInit : FnScope ["self", "parameters", "bars", "names"] ["self", "parameters", "bars"] (defScope sFInit) := ⟨rfl, rfl, rfl, by decide +kernel, rfl, by decide +kernel, by decide +kernel⟩
theorem ok_finit {ds : List Value} {g1 g2 g3 g4 g5 : Addr} {e1 e2 e3 e4 e5 : FuncData} (F : FunD K "__init__" "Form.__init__" sFInit f fd ds) (FK : FC K CF) (mK : Meth K CF "keep" g5)
    (cM : Callee P w K mg base 1 "refuse_too_many" g1 e1 ["parameters", "bars"] (spMany K)) (cO : Callee P w K mg base 1 "refuse_bad_order" g2 e2 ["parameters"] (spOrd c)) (cB' : Callee P w K mg base 2 "refuse_bars_without_name" g3 e3 ["bars"] spRB) (cT : Callee P w K mg base 2 "refuse_twice" g4 e4 ["parameters", "bars"] (spTw c))
    (GK : FnOk P w K mg base CX0 2 g5 e5 ["self", "parameters", "bars"] (spKeep c CF)) (bK : Binds K e5 ["self", "parameters", "bars"] []) : FnOk P w K mg base CX0 3 f fd ["self", "parameters", "bars"] (spFI c CF) := by
  refine F.ok scFInit (fun vs H Q E h => ?_) (fun cdv A outer s H vs Q E hr h => ?_)
  · obtain ⟨f, a, dx, bv, ps, rows, bars, rfl, _⟩ := h
    rfl
  obtain ⟨f, a, dx, bv, ps, rows, bars, rfl, hf, ha, hp, hb, V', q⟩ := h
  have hr1 : Room 1 _ := hr.mono (by decide)
  refine ⟨_, pss_cons (ps_set (i := 3) scFInit.nd rfl (Or.inl rfl) (pe_ifExp (pt_cmp (pc_isN (pv 2))) (pe_lst pa_nil) (pv 2)))
    (pss_cons (ps_expr (cF cM hr1 (ac (pv 1) (ac (pv 3) pa_nil))))
    (pss_cons (ps_expr (cF cO hr1 (ac (pv 1) pa_nil)))
    (pss_cons (ps_expr (cF cB' hr (ac (pv 3) pa_nil)))
    (pss_cons (ps_expr (cF cT hr (ac (pv 1) (ac (pv 3) pa_nil))))
    (pss_one (ps_expr (pe_meth (pv 0) FK.cl mK GK hr bK .nil pass0 (ac (pv 1) (ac (pv 3) pa_nil))))))))), ?_⟩
  try dsimp only
  refine seq_via (fun σ' H' => ∃ b, σ' = [some (.ref f), some (.ref a), some bv, some (.ref b)] ∧ Same H H' ∧ H' b = some (.lst (bars.map V.str))) ?_ (fun key => ?_)
  rotate_left
  · rcases hb with ⟨rfl, rfl⟩ | ⟨b, rfl, hb⟩
    · refine ⟨_, rfl, _, rfl, ?_⟩
      refine dT rfl ?_
      refine ⟨(by show 0 ≤ sizeLine; decide), fun l hl => ?_⟩
      exact key _ _ ⟨l, rfl, same_new hl _, upd_same⟩
    · refine ⟨_, rfl, _, rfl, ?_⟩
      refine dF (by intro z; cases z) ?_
      exact ⟨_, rfl, key _ _ ⟨b, rfl, Same.refl _, hb⟩⟩
  rintro σ1 H1 ⟨b, rfl, s1, hb1⟩
  have ha1 := s1 _ _ ha
  refine ⟨_, rfl, _, rfl, a, b, _, _, rfl, SqL.of ha1, SqL.of hb1, (by rw [List.length_map, hp.length]; exact V'.l24), (by rw [List.length_map]; exact V'.l60), ?_⟩
  refine ⟨_, rfl, a, ps, rows, rfl, ha1, pats_same s1 hp, V'.ok, V'.ord, fun H2 s2 => ?_⟩
  refine ⟨_, rfl, b, bars, rfl, s2 _ _ hb1, V'.bn, fun H3 s3 => ?_⟩
  have s13 := s1.trans (s2.trans s3)
  refine ⟨_, rfl, _, rfl, a, b, ps, rows, bars, rfl, s13 _ _ ha, pats_same s13 hp, V'.ok, Nat.le_trans V'.l24 (by decide), s3 _ _ (s2 _ _ hb1), Nat.le_trans V'.l60 (by decide), V'.nd, fun H4 s4 => ?_⟩
  have s14 := s13.trans s4
  refine ⟨_, rfl, f, dx, _, rfl, s14 _ _ hf, rfl, _, rfl, _, rfl, f, a, b, dx, [], ps, rows, bars, rfl, s14 _ _ hf, ⟨by decide, fun _ _ => rfl⟩, s14 _ _ ha, pats_same s14 hp, V'.ok, Nat.le_trans V'.l24 (by decide), s4 _ _ (s3 _ _ (s2 _ _ hb1)), fun H5 x5 F5 L5 => ?_⟩
  exact q _ (fun b' u e n => x5 b' u (s14 _ _ e) n) (F5.of s14) L5
theorem scFPars : FnScope ["self"] ["self"] (defScope sFPars) := ⟨rfl, rfl, rfl, by decide +kernel, rfl, by decide +kernel, by decide +kernel⟩
theorem ok_fpars (F : Fun K "parameters" "Form.parameters" sFPars f fd) (T : TxtF w K mg G sg) (FK : FC K CF) : FnOk P w K mg base CX0 1 f fd ["self"] (spPars c CF) := by
  refine F.ok scFPars (fun vs H Q E h => ?_) (fun cdv A outer s H vs Q E hr h => ?_)
  · obtain ⟨f, rows, bars, rfl, _⟩ := h
    rfl
  obtain ⟨f, rows, bars, rfl, ⟨dx, fs, lr, lb, ld, ps, h1, h2, h3, h4, h5, h6⟩, q⟩ := h
  refine ⟨_, pss_one (ps_ret (cTy call_list_of T.lst PyProof.Rows.boot_list (ac (pe_fld (pv 0) rfl) pa_nil))), ?_⟩
  refine ⟨_, rfl, f, CF, dx, _, _, rfl, h1, FK.cl, FK.n1, h2.row, lr, _, rfl, .inl (SqL.of h3), fun l hl => ?_⟩
  have s1 := same_new hl (.lst (ps.map V.ref))
  exact q l ps _ s1 hl upd_same (pats_same s1 h4)
theorem scFBars : FnScope ["self"] ["self"] (defScope sFBars) := ⟨rfl, rfl, rfl, by decide +kernel, rfl, by decide +kernel, by decide +kernel⟩
theorem ok_fbars (F : Fun K "bars" "Form.bars" sFBars f fd) (T : TxtF w K mg G sg) (FK : FC K CF) : FnOk P w K mg base CX0 1 f fd ["self"] (spBars c CF) := by
  refine F.ok scFBars (fun vs H Q E h => ?_) (fun cdv A outer s H vs Q E hr h => ?_)
  · obtain ⟨f, rows, bars, rfl, _⟩ := h
    rfl
  obtain ⟨f, rows, bars, rfl, ⟨dx, fs, lr, lb, ld, ps, h1, h2, h3, h4, h5, h6⟩, q⟩ := h
  refine ⟨_, pss_one (ps_ret (cTy call_list_of T.lst PyProof.Rows.boot_list (ac (pe_fld (pv 0) rfl) pa_nil))), ?_⟩
  refine ⟨_, rfl, f, CF, dx, _, _, rfl, h1, FK.cl, FK.n2, h2.bn, lb, _, rfl, .inl (SqL.of h5), fun l hl => ?_⟩
  exact q l _ (same_new hl _) hl upd_same
theorem scFTold : FnScope ["self"] ["self"] (defScope sFTold) := ⟨rfl, rfl, rfl, by decide +kernel, rfl, by decide +kernel, by decide +kernel⟩
theorem ok_ftold {gd : FuncData} (F : Fun K "told" "Form.told" sFTold f fd) (T : TxtF w K mg G sg) (FK : FC K CF) (PP : Pcs K m c) (GO : FnOk P w K mg base CX0 2 m.fO gd ["self"] (spTold K m)) (bO : Binds K gd ["self"] []) : FnOk P w K mg base CX0 3 f fd ["self"] (spFTold c CF) := by
  refine F.ok scFTold (fun vs H Q E h => ?_) (fun cdv A outer s H vs Q E hr h => ?_)
  · obtain ⟨f, rows, bars, rfl, _⟩ := h
    rfl
  obtain ⟨f, rows, bars, rfl, hok, l5, ⟨dx, fs, lr, lb, ld, ps, h1, h2, h3, h4, h5, h6⟩, q⟩ := h
  have hO : ∀ C, Cs5 c C → Cls K C ∧ Meth K C "told" m.fO := fun C ⟨k, hk, e⟩ => by rw [e]; exact ⟨(PP k hk).cl, (PP k hk).mO⟩
  refine ⟨_, pss_one (ps_ret (pe_tup (ac (pe_lc [] ["parameter"] [none] rfl ⟨rfl, rfl, rfl, rfl⟩ (pi_list (pe_fld (pv 0) rfl)) (gown_name 0) rfl rfl rfl
      (fun pins fp s H C => ⟨pg_name (i := 0) ndPm rfl (Or.inl rfl) (.inr rfl), pif_nil, pe_methP (pv 0) hO GO hr bO pass0⟩)) (ac (cTy call_list_of T.lst PyProof.Rows.boot_list (ac (pe_fld (pv 0) rfl) pa_nil)) pa_nil)))), ?_⟩
  refine ⟨_, rfl, f, CF, dx, _, _, rfl, h1, FK.cl, FK.n1, h2.row, lr, rfl, ⟨_, SqL.of h3⟩, fun D hD => ?_⟩
  refine lc_list (K := K) (xs := ps.map V.ref) (fun i ys H' => Same H H' ∧ H' D = some (.lst ys) ∧ ∃ us, ys = us.map V.ref ∧ Paired (TAt H') us (rows.take i)) ⟨same_new hD _, upd_same, [], rfl, .nil⟩ (fun i ys H' h => SqL.of (h.1 _ _ h3)) ?_ ?_
  · rintro i x ys H' hlt hx ⟨sH, hDy, us, ey, pu⟩
    obtain ⟨pa, hpa, rfl⟩ := refs_at hx
    obtain ⟨r, hr', dx', hdx⟩ := paired_at h4 hpa
    have rok := hok r (List.mem_of_getElem? hr')
    have C := PP r.k rok.1
    have hd2 := sH _ _ hdx
    have hi : i < rows.length := (List.getElem?_eq_some_iff.mp hr').1
    have er : rows[i] = r := by rw [List.getElem?_eq_getElem hi] at hr'; exact Option.some.inj hr'
    refine ⟨fun _ => ?_, fun e => Bool.noConfusion e⟩
    refine ⟨_, rfl, pa, _, dx', _, rfl, ⟨r.k, rok.1, rfl⟩, hd2, pf_no (by decide +kernel) (by decide +kernel) (by decide +kernel), pa, dx', _, r.k, .str r.z, r.b, rfl, rok.1, C, hd2, fun u H2 s2 hu2 => ?_⟩
    have nl : ys.length ≤ i := by
      rw [ey, List.length_map, pu.length, List.length_take]
      omega
    have nDu : u ≠ D := fun z => by
      rw [z, s2 _ _ hDy] at hu2
      cases hu2
    refine lcN.mk hlt (le1000 (by rw [List.length_map, h4.length]; omega)) (s2 _ _ hDy) nl ⟨fun b u' e => ?_, upd_same, us ++ [u], by rw [ey, List.map_append]; rfl, ?_⟩
    · rw [upd_ne (ne_of_none e hD)]
      exact s2 _ _ (sH b u' e)
    · rw [List.take_succ_eq_append_getElem hi, er]
      refine Paired.snoc (Paired.imp' (fun v r' z => ?_) pu) ?_
      · have z2 : H2 v = some (.tup (rv r')) := s2 _ _ z
        show upd H2 D _ v = some (.tup (rv r'))
        rw [upd_ne (fun e => by rw [e, s2 _ _ hDy] at z2; cases z2)]
        exact z2
      · show upd H2 D _ u = some (.tup (rv r))
        rw [upd_ne nDu]
        exact hu2
  rintro ys H2 ⟨s2, hDy, us, rfl, pu⟩
  rw [List.length_map, h4.length, List.take_length] at pu
  refine ⟨_, rfl, f, CF, dx, _, _, rfl, s2 _ _ h1, FK.cl, FK.n2, h2.bn, lb, _, rfl, .inl (SqL.of (s2 _ _ h5)), fun l2 hl2 => ?_⟩
  have s3 := same_new hl2 (.lst (bars.map V.str))
  refine ⟨(by show 2 ≤ sizeLine; decide), fun t ht => ?_⟩
  have s4 := same_new ht (.tup [.ref D, .ref l2])
  exact q t D l2 us _ (s2.trans (s3.trans s4)) hD (s2.free hl2) (ne_of_none hDy hl2) upd_same (s4 _ _ (s3 _ _ hDy)) (tats_same (s3.trans s4) pu) (s4 _ _ upd_same)
end
end K91

set_option Elab.async false
set_option linter.all false
set_option maxRecDepth 100000
set_option maxHeartbeats 4000000
namespace L2
open PySem PySem.Spec PyProof.Rows
/-! ### a dict that is only read from now on -/
section
variable {X : Cx} {pins : List (Addr × Obj)} {σ : St} {H : Hp} {s : Shared}
end
/-! ### for k, v in d.items(), d only read -/
section
variable {X : Cx} {elts : List Expr} {x1 : Nat} {tpos : Pos}
end
/-! ### == of tuples of flat items -/
end L2

set_option Elab.async false
set_option linter.all false
set_option maxRecDepth 100000
set_option maxHeartbeats 4000000
namespace K91
open PySem L2 PyProof.Rows
/-! ### calls as data -/
inductive Item where
  | one (t : Int) | row (ts : List Int) | named (n : Str) (t : Int) | book (ps : List (Str × Int))
def pairD (p : Str × Int) : Dt := .tup [.str p.1, .int p.2]
def itemD : Item → Dt
  | .one t => .tup [.str "one", .int t]
  | .row ts => .tup [.str "row", .lst (ts.map .int)]
  | .named n t => .tup [.str "named", .str n, .int t]
  | .book ps => .tup [.str "book", .lst (ps.map pairD)]
def itT : Item → List Int
  | .one t => [t]
  | .row ts => ts
  | _ => []
def itP : Item → List (Str × Int)
  | .named n t => [(n, t)]
  | .book ps => ps
  | _ => []
def laidT (c : List Item) : List Int := (c.map itT).flatten
def laidP (c : List Item) : List (Str × Int) := (c.map itP).flatten
abbrev T' : Addr → Prop := fun _ => True
/-- two new lists, the things and the pairs, in a tuple -/
def Two (K : PySem.W.Frag) (H H' : Hp) (p : Addr) (ts : List Int) (ps : List (Str × Int)) : Prop :=
  ∃ l1 l2 xs, H l1 = none ∧ H l2 = none ∧ l1 ≠ l2 ∧ H p = none ∧ H' p = some (.tup [.ref l1, .ref l2]) ∧ H' l1 = some (.lst (ts.map V.int)) ∧ H' l2 = some (.lst xs) ∧ Paired (Says K T' H' 1) xs (ps.map pairD)
/-! ### the promises -/
def spLaid (K : PySem.W.Frag) : Sp := fun vs H Q _ => ∃ (a : Addr) (c : List Item) (xs : List V), vs = [.ref a] ∧ SqL K H a xs ∧ Paired (Says K T' H 3) xs (c.map itemD) ∧ (laidT c).length ≤ 900 ∧ (laidP c).length ≤ 900 ∧
  ∀ (p : Addr) (H' : Hp), Same H H' → Two K H H' p (laidT c) (laidP c) → Q (.ref p) H'

section
variable {P : Program} {w : World} {K : PySem.W.Frag} {mg : Str → Option Value} {base : Heap} {f : Addr} {fd : FuncData}
end

section
variable {K : PySem.W.Frag} {ok : Addr → Prop} {H H' : Hp} {n : Nat} {x : V}
theorem says_int {i : Int} (h : Says K ok H n x (.int i)) : x = .int i := by
  have fl : FlatD x (.int i) → x = .int i := fun h => by
    cases x <;> first | exact h.elim | (have e := (show _ = _ from h); rw [e])
  cases n with
  | zero => exact fl h
  | succ n =>
    rcases h with h | ⟨_, _, _, _, e, _⟩ | ⟨_, _, _, _, e, _⟩
    · exact fl h
    · cases e
    · cases e
theorem says_str {z : Str} (h : Says K ok H n x (.str z)) : x = .str z := by
  have fl : FlatD x (.str z) → x = .str z := fun h => by
    cases x <;> first | exact h.elim | (have e := (show _ = _ from h); rw [e])
  cases n with
  | zero => exact fl h
  | succ n =>
    rcases h with h | ⟨_, _, _, _, e, _⟩ | ⟨_, _, _, _, e, _⟩
    · exact fl h
    · cases e
    · cases e
theorem says_tup {ds : List Dt} (h : Says K ok H (n + 1) x (.tup ds)) : ∃ a xs, x = .ref a ∧ SqT K H a xs ∧ Paired (Says K ok H n) xs ds := by
  rcases h with h | ⟨a, xs, ds', e1, e2, e3, r⟩ | ⟨_, _, _, _, e, _⟩
  · cases x <;> exact h.elim
  · cases e2; exact ⟨a, xs, e1, e3, r⟩
  · cases e
theorem says_lst {ds : List Dt} (h : Says K ok H (n + 1) x (.lst ds)) : ∃ a xs, x = .ref a ∧ ok a ∧ H a = some (.lst xs) ∧ Paired (Says K ok H n) xs ds := by
  rcases h with h | ⟨_, _, _, _, e, _⟩ | ⟨a, xs, ds', e1, e2, o, e3, r⟩
  · cases x <;> exact h.elim
  · cases e
  · cases e2; exact ⟨a, xs, e1, o, e3, r⟩
theorem says_ints : ∀ {ts : List Int} {xs : List V}, Paired (Says K ok H n) xs (ts.map .int) → xs = ts.map V.int
  | [], _, r => by cases r; rfl
  | t :: ts, _, r => by
    cases r with
    | cons h r => rw [says_int h, says_ints r]; rfl
theorem paired_app {α β : Type} {F : α → β → Prop} : ∀ {a c : List α} {b d : List β}, Paired F a b → Paired F c d → Paired F (a ++ c) (b ++ d)
  | _, _, _, _, .nil, s => s
  | _, _, _, _, .cons r t, s => .cons r (paired_app t s)
/-- the four shapes of an item that a value says -/
theorem item_one {t : Int} (h : Says K ok H 3 x (itemD (.one t))) : ∃ a, x = .ref a ∧ SqT K H a [.str "one", .int t] := by
  obtain ⟨a, xs, rfl, hS, r⟩ := says_tup h
  cases r with
  | cons h1 r => cases r with
    | cons h2 r => cases r; rw [says_str h1, says_int h2] at hS; exact ⟨a, rfl, hS⟩
theorem item_row {ts : List Int} (h : Says K ok H 3 x (itemD (.row ts))) : ∃ a b, x = .ref a ∧ SqT K H a [.str "row", .ref b] ∧ ok b ∧ H b = some (.lst (ts.map V.int)) := by
  obtain ⟨a, xs, rfl, hS, r⟩ := says_tup h
  cases r with
  | cons h1 r => cases r with
    | cons h2 r =>
      cases r
      obtain ⟨b, ys, rfl, o, hb, q⟩ := says_lst h2
      rw [says_str h1] at hS
      rw [says_ints q] at hb
      exact ⟨a, b, rfl, hS, o, hb⟩
theorem item_named {z : Str} {t : Int} (h : Says K ok H 3 x (itemD (.named z t))) : ∃ a, x = .ref a ∧ SqT K H a [.str "named", .str z, .int t] := by
  obtain ⟨a, xs, rfl, hS, r⟩ := says_tup h
  cases r with
  | cons h1 r => cases r with
    | cons h2 r => cases r with
      | cons h3 r => cases r; rw [says_str h1, says_str h2, says_int h3] at hS; exact ⟨a, rfl, hS⟩
theorem item_book {ps : List (Str × Int)} (h : Says K ok H 3 x (itemD (.book ps))) : ∃ a b ys, x = .ref a ∧ SqT K H a [.str "book", .ref b] ∧ ok b ∧ H b = some (.lst ys) ∧ Paired (Says K ok H 1) ys (ps.map pairD) := by
  obtain ⟨a, xs, rfl, hS, r⟩ := says_tup h
  cases r with
  | cons h1 r => cases r with
    | cons h2 r =>
      cases r
      obtain ⟨b, ys, rfl, o, hb, q⟩ := says_lst h2
      rw [says_str h1] at hS
      exact ⟨a, b, ys, rfl, hS, o, hb, q⟩
end
theorem laidT_snoc (c : List Item) (i : Nat) (it : Item) (h : c[i]? = some it) : laidT (c.take (i + 1)) = laidT (c.take i) ++ itT it := by
  unfold laidT
  rw [List.take_add_one, h, List.map_append, List.flatten_append]
  simp
theorem laidP_snoc (c : List Item) (i : Nat) (it : Item) (h : c[i]? = some it) : laidP (c.take (i + 1)) = laidP (c.take i) ++ itP it := by
  unfold laidP
  rw [List.take_add_one, h, List.map_append, List.flatten_append]
  simp
theorem laidT_le (c : List Item) (i : Nat) : (laidT (c.take i)).length ≤ (laidT c).length := by
  unfold laidT
  conv => rhs; rw [← List.take_append_drop i c]
  rw [List.map_append, List.flatten_append, List.length_append]
  omega
theorem laidP_le (c : List Item) (i : Nat) : (laidP (c.take i)).length ≤ (laidP c).length := by
  unfold laidP
  conv => rhs; rw [← List.take_append_drop i c]
  rw [List.map_append, List.flatten_append, List.length_append]
  omega
theorem ne1 : ¬ (V.str "row" = V.str "one") := by decide +kernel
theorem ne2 : ¬ (V.str "named" = V.str "one") := by decide +kernel
theorem ne3 : ¬ (V.str "book" = V.str "one") := by decide +kernel
theorem ne4 : ¬ (V.str "named" = V.str "row") := by decide +kernel
theorem ne5 : ¬ (V.str "book" = V.str "row") := by decide +kernel
theorem ne6 : ¬ (V.str "book" = V.str "named") := by decide +kernel
section
variable {P : Program} {w : World} {K : PySem.W.Frag} {mg : Str → Option Value} {base : Heap} {f : Addr} {fd : FuncData}
theorem scLaid : FnScope ["call", "things", "pairs", "item", "word"] ["call"] (defScope sLaid) := ⟨rfl, rfl, rfl, by decide +kernel, rfl, by decide +kernel, by decide +kernel⟩
theorem same_upd {H H2 : Hp} {l : Addr} (s : Same H H2) (h : H l = none) (o : HO) : Same H (upd H2 l o) := fun b u q => by rw [upd_ne (ne_of_none q h)]; exact s b u q
theorem ok_laid (F : Fun K "laid" "laid" sLaid f fd) : FnOk P w K mg base CX0 1 f fd ["call"] (spLaid K) := by
  refine F.ok scLaid (fun vs H Q E h => ?_) (fun cdv A outer s H vs Q E hr h => ?_)
  · obtain ⟨a, c, xs, rfl, _⟩ := h
    rfl
  obtain ⟨a, c, xs, rfl, hS, hc, hT, hP, q⟩ := h
  refine ⟨_, pss_cons (ps_set (i := 1) scLaid.nd rfl (Or.inl rfl) (pe_lst pa_nil)) (pss_cons (ps_set (i := 2) scLaid.nd rfl (Or.inl rfl) (pe_lst pa_nil))
    (pss_cons (ps_for PassesOwn.never rfl (pi_list (pv 0)) (pg_name (i := 3) scLaid.nd rfl (Or.inl rfl))
      (pss_cons (ps_set (i := 4) scLaid.nd rfl (Or.inl rfl) (pe_ix ix_tup (pv 3) pe_int (fun _ _ => rfl)))
      (pss_one (ps_if (pt_cmpR op_eq (pv 4) pe_str (nomark _)) (pss_one (ps_expr (pe_bm PySem.F.plainAttrs_list PySem.F.slot_list_append PySem.F.type_list_append mt_append (pv 1) (ac (pe_ix ix_tup (pv 3) pe_int (fun _ _ => rfl)) pa_nil))))
        (pss_one (ps_if (pt_cmpR op_eq (pv 4) pe_str (nomark _)) (pss_one (ps_expr (pe_bm PySem.F.plainAttrs_list PySem.F.slot_list_extend PySem.F.type_list_extend mt_extend (pv 1) (ac (pe_ix ix_tup (pv 3) pe_int (fun _ _ => rfl)) pa_nil))))
          (pss_one (ps_if (pt_cmpR op_eq (pv 4) pe_str (nomark _)) (pss_one (ps_expr (pe_bm PySem.F.plainAttrs_list PySem.F.slot_list_append PySem.F.type_list_append mt_append (pv 2) (ac (pe_tup (ac (pe_ix ix_tup (pv 3) pe_int (fun _ _ => rfl)) (ac (pe_ix ix_tup (pv 3) pe_int (fun _ _ => rfl)) pa_nil))) pa_nil))))
            (pss_one (ps_expr (pe_bm PySem.F.plainAttrs_list PySem.F.slot_list_extend PySem.F.type_list_extend mt_extend (pv 2) (ac (pe_ix ix_tup (pv 3) pe_int (fun _ _ => rfl)) pa_nil))))))))))))
    (pss_one (ps_ret (pe_tup (ac (pv 1) (ac (pv 2) pa_nil))))))), ?_⟩
  refine ⟨(by show 0 ≤ sizeLine; decide), fun l1 h1 => ?_⟩
  refine ⟨(by show 0 ≤ sizeLine; decide), fun l2 h2 => ?_⟩
  have n12 : l1 ≠ l2 := ne_of_none upd_same h2
  have f2 : H l2 = none := (same_new h1 _).free h2
  have s0 : Same H (upd (upd H l1 (.lst [])) l2 (.lst [])) := (same_new h1 _).trans (same_new h2 _)
  refine ⟨_, rfl, a, rfl, ⟨_, s0.seq hS⟩, for_list (K := K) (a := a) (xs := xs) (fun i σ H2 => ∃ v3 v4 ys, σ = [some (.ref a), some (.ref l1), some (.ref l2), v3, v4] ∧ Same H H2 ∧ H2 l1 = some (.lst ((laidT (c.take i)).map V.int)) ∧ H2 l2 = some (.lst ys) ∧ Paired (Says K T' H2 1) ys ((laidP (c.take i)).map pairD))
    ⟨_, _, [], rfl, s0, by rw [upd_ne n12, upd_same]; rfl, upd_same, .nil⟩ (fun i σ H2 _ ⟨_, _, _, _, s2, _⟩ => s2.seq hS) ?_ ?_⟩
  · rintro i y σ H2 hi ⟨v3, v4, ys, rfl, s2, g1, g2, gp⟩
    obtain ⟨d, hd, hy⟩ := Paired.get hc hi
    obtain ⟨it, hit, rfl⟩ : ∃ it, c[i]? = some it ∧ itemD it = d := by
      rw [List.getElem?_map] at hd
      cases e : c[i]? with
      | none => rw [e] at hd; cases hd
      | some it => rw [e] at hd; exact ⟨it, rfl, Option.some.inj hd⟩
    have hy2 := hy.same s2
    have eT := laidT_snoc c i it hit
    have eP := laidP_snoc c i it hit
    have lT := laidT_le c i
    have lP := laidP_le c i
    have lT1 := laidT_le c (i + 1)
    have lP1 := laidP_le c (i + 1)
    have lys : ys.length = (laidP (c.take i)).length := by rw [gp.length, List.length_map]
    have sT : ∀ {H3 : Hp} {o : HO} {l : Addr}, H3 l = none ∨ (∃ zs, H3 l = some (.lst zs)) → ∀ {b zs}, SqT K H3 b zs → SqT K (upd H3 l o) b zs := fun {H3 o l} hl {b zs} hz => by
      rcases hz with (z | ⟨u, z⟩) | z
      · refine .inl (.inl ?_)
        have : b ≠ l := fun e => by
          subst e
          rcases hl with e | ⟨_, e⟩
          · rw [e] at z; cases z
          · rw [e] at z; cases z
        rw [upd_ne this]; exact z
      · refine .inl (.inr ⟨u, ?_⟩)
        have : b ≠ l := fun e => by
          subst e
          rcases hl with e | ⟨_, e⟩
          · rw [e] at z; cases z
          · rw [e] at z; cases z
        rw [upd_ne this]; exact z
      · exact .inr z
    -- pairs are tuples of flat things: no list within is asked
    have keepP : ∀ {H3 : Hp} {o : HO} {l : Addr} {zs : List V} {ps : List (Str × Int)}, H3 l = none ∨ (∃ zs, H3 l = some (.lst zs)) → Paired (Says K T' H3 1) zs (ps.map pairD) → Paired (Says K T' (upd H3 l o) 1) zs (ps.map pairD) := by
      intro H3 o l zs ps hl r
      induction ps generalizing zs with
      | nil => cases r; exact .nil
      | cons p ps ih =>
        cases r with
        | cons h r =>
          refine .cons ?_ (ih r)
          obtain ⟨b, ws, rfl, hS', r'⟩ := says_tup h
          exact .tup (sT hl hS') (Paired.imp' (fun _ _ z => z) r')
    cases it with
    | one t =>
      obtain ⟨b, rfl, hb⟩ := item_one hy2
      refine ⟨_, rfl, b, _, _, .str "one", rfl, rfl, hb, rfl, ?_⟩
      refine ⟨_, rfl, rfl, _, rfl, ?_⟩
      refine dT rfl ?_
      refine ⟨_, rfl, .inl ⟨rfl, _, SqL.of g1⟩, _, rfl, b, _, _, .int t, rfl, rfl, hb, rfl, l1, _, _, rfl, rfl, g1, ?_, ?_⟩
      · rw [List.length_map]; exact small1000 (by omega)
      · refine ⟨_, _, ys, rfl, same_upd s2 h1 _, ?_, ?_, ?_⟩
        · rw [upd_same, eT, List.map_append]; rfl
        · rw [upd_ne n12.symm]; exact g2
        · rw [eP]; show Paired _ _ ((laidP (c.take i) ++ []).map pairD); rw [List.append_nil]; exact keepP (.inr ⟨_, g1⟩) gp
    | row ts =>
      obtain ⟨b, bl, rfl, hb, _, hbl⟩ := item_row hy2
      refine ⟨_, rfl, b, _, _, .str "row", rfl, rfl, hb, rfl, ?_⟩
      refine ⟨_, rfl, rfl, _, rfl, ?_⟩
      refine dF ne1 ?_
      refine ⟨_, rfl, rfl, _, rfl, ?_⟩
      refine dT rfl ?_
      refine ⟨_, rfl, .inl ⟨rfl, _, SqL.of g1⟩, _, rfl, b, _, _, .ref bl, rfl, rfl, hb, rfl, l1, bl, _, _, rfl, rfl, g1, hbl, ?_, ?_⟩
      · have e1 : (laidT (c.take (i + 1))).length = (laidT (c.take i)).length + ts.length := by rw [eT, List.length_append]; rfl
        rw [List.length_map, List.length_map]; exact le1000 (by omega)
      · refine ⟨_, _, ys, rfl, same_upd s2 h1 _, ?_, ?_, ?_⟩
        · rw [upd_same, eT, List.map_append]; rfl
        · rw [upd_ne n12.symm]; exact g2
        · rw [eP]; show Paired _ _ ((laidP (c.take i) ++ []).map pairD); rw [List.append_nil]; exact keepP (.inr ⟨_, g1⟩) gp
    | named z t =>
      obtain ⟨b, rfl, hb⟩ := item_named hy2
      refine ⟨_, rfl, b, _, _, .str "named", rfl, rfl, hb, rfl, ?_⟩
      refine ⟨_, rfl, rfl, _, rfl, ?_⟩
      refine dF ne2 ?_
      refine ⟨_, rfl, rfl, _, rfl, ?_⟩
      refine dF ne4 ?_
      refine ⟨_, rfl, rfl, _, rfl, ?_⟩
      refine dT rfl ?_
      refine ⟨_, rfl, .inl ⟨rfl, _, SqL.of g2⟩, _, rfl, b, _, _, .str z, rfl, rfl, hb, rfl, _, rfl, b, _, _, .int t, rfl, rfl, hb, rfl, (by show 2 ≤ sizeLine; decide), fun p hp => ?_⟩
      have np2 : l2 ≠ p := ne_of_none g2 hp
      have np1 : l1 ≠ p := ne_of_none g1 hp
      have fp : H p = none := s2.free hp
      refine ⟨l2, _, _, rfl, rfl, (by rw [upd_ne np2]; exact g2), ?_, ?_⟩
      · rw [lys]; exact small1000 (by omega)
      · refine ⟨_, _, ys ++ [.ref p], rfl, same_upd (same_upd s2 fp _) f2 _, ?_, upd_same, ?_⟩
        · rw [upd_ne n12, upd_ne np1, g1, eT]; show _ = some (HO.lst ((laidT (c.take i) ++ []).map V.int)); rw [List.append_nil]
        · rw [eP, List.map_append]
          refine paired_app (keepP (.inr ⟨_, by rw [upd_ne np2]; exact g2⟩) (keepP (.inl hp) gp)) (.cons (.tup (xs := [.str z, .int t]) (SqT.of ?_) (.cons .str (.cons .int .nil))) .nil)
          rw [upd_ne np2.symm, upd_same]
    | book ps =>
      obtain ⟨b, bl, zs, rfl, hb, _, hbl, hz⟩ := item_book hy2
      refine ⟨_, rfl, b, _, _, .str "book", rfl, rfl, hb, rfl, ?_⟩
      refine ⟨_, rfl, rfl, _, rfl, ?_⟩
      refine dF ne3 ?_
      refine ⟨_, rfl, rfl, _, rfl, ?_⟩
      refine dF ne5 ?_
      refine ⟨_, rfl, rfl, _, rfl, ?_⟩
      refine dF ne6 ?_
      have lz : zs.length = ps.length := by rw [hz.length, List.length_map]
      refine ⟨_, rfl, .inl ⟨rfl, _, SqL.of g2⟩, _, rfl, b, _, _, .ref bl, rfl, rfl, hb, rfl, l2, bl, _, _, rfl, rfl, g2, hbl, ?_, ?_⟩
      · have e1 : (laidP (c.take (i + 1))).length = (laidP (c.take i)).length + ps.length := by rw [eP, List.length_append]; rfl
        rw [lys, lz]; exact le1000 (by omega)
      · refine ⟨_, _, ys ++ zs, rfl, same_upd s2 f2 _, ?_, upd_same, ?_⟩
        · rw [upd_ne n12, g1, eT]; show _ = some (HO.lst ((laidT (c.take i) ++ []).map V.int)); rw [List.append_nil]
        · rw [eP, List.map_append]
          exact paired_app (keepP (.inr ⟨_, g2⟩) gp) (keepP (.inr ⟨_, g2⟩) hz)
  · rintro σ H2 ⟨v3, v4, ys, rfl, s2, g1, g2, gp⟩
    refine ⟨_, rfl, _, rfl, (by show 2 ≤ sizeLine; decide), fun p hp => ?_⟩
    have hl : xs.length = c.length := by rw [hc.length, List.length_map]
    rw [hl, List.take_length] at g1 gp
    refine q p _ (s2.trans (same_new hp _)) ⟨l1, l2, ys, h1, f2, n12, s2.free hp, upd_same, ?_, ?_, Paired.imp' (fun _ _ z => z.same (same_new hp _)) gp⟩
    · rw [upd_ne (ne_of_none g1 hp)]; exact g1
    · rw [upd_ne (ne_of_none g2 hp)]; exact g2
end

/-! ### tuples stay where a list is written -/
section
variable {P : Program} {w : World} {K : PySem.W.Frag} {mg : Str → Option Value} {base : Heap} {f : Addr} {fd : FuncData}
end

theorem iteB {A B : Prop} {b : Bool} (h : b = true) (a : A) : if b = true then A else B := by rw [h]; exact iteT a
theorem iteC {A B : Prop} {b : Bool} (h : b = false) (a : B) : if b = true then A else B := by rw [h]; exact iteF a

section
variable {P : Program} {w : World} {K : PySem.W.Frag} {mg : Str → Option Value} {base : Heap} {f : Addr} {fd : FuncData}
section
variable {H H' : Hp} {p l1 l2 l : Addr} {ys : List V} {ts : List Int} {ps : List (Str × Int)} {o : HO}
end
end

end K91

set_option Elab.async false
set_option linter.all false
set_option maxRecDepth 100000
set_option maxHeartbeats 4000000
namespace K91
open PySem L2 PyProof.Rows
/-! ### fitting: shapes, first numbers -/
section
variable {P : Program} {w : World} {K : PySem.W.Frag} {mg : Str → Option Value} {base : Heap} {f CF : Addr} {fd : FuncData} {c : C5} {m : MA}
end
end K91

set_option Elab.async false
set_option linter.all false
set_option maxRecDepth 100000
set_option maxHeartbeats 4000000
namespace K91
open PySem L2 PyProof.Rows
/-! ### misfits as data -/
section
variable {P : Program} {w : World} {K : PySem.W.Frag} {mg : Str → Option Value} {base : Heap} {f CF : Addr} {fd : FuncData} {c : C5} {m : MA}
end
end K91

set_option Elab.async false
set_option linter.all false
set_option maxRecDepth 100000
set_option maxHeartbeats 4000000
namespace K91
open PySem L2 PyProof.Rows
/-! ### the first numbers, as pairs -/
/-! ### all misfits -/
section
variable {P : Program} {w : World} {K : PySem.W.Frag} {mg : Str → Option Value} {base : Heap} {f CF : Addr} {fd : FuncData} {c : C5} {m : MA}
end
end K91

set_option Elab.async false
set_option linter.all false
set_option maxRecDepth 100000
set_option maxHeartbeats 4000000
namespace L2
open PySem PySem.Spec PyProof.Rows
/-! ### set(xs), xs a list of texts -/
def seen (val : Nat → Str) (T : Str → Bool) : Nat → Nat → Str → Bool
  | _, 0, z => T z
  | i, k + 1, z => seen val (fun y => T y || decide (y = val i)) (i + 1) k z
section
variable {P : Program} {w : World} {A : Around} {R : Result → Shared → Prop} {I : Addr} {fp wr : List Addr} {G : Array GenState → Array GenState → Prop} {n : Nat} {Pr : Nat → Value → Prop} {Sg : Nat → Shared → Prop}
end
end L2

set_option Elab.async false
set_option linter.all false
set_option maxRecDepth 100000
set_option maxHeartbeats 4000000
namespace L2
open PySem PySem.Spec PyProof.Rows
end L2

set_option Elab.async false
set_option linter.all false
set_option maxRecDepth 100000
set_option maxHeartbeats 4000000
namespace K91
open PySem L2 PyProof.Rows
section
variable {P : Program} {w : World} {K : PySem.W.Frag} {mg : Str → Option Value} {base : Heap} {f CF : Addr} {fd : FuncData} {c : C5} {m : MA}
end
end K91

set_option Elab.async false
set_option linter.all false
set_option maxRecDepth 100000
set_option maxHeartbeats 4000000
namespace K91
open PySem L2 PyProof.Rows
structure FormOk (c : C5) (CF : Addr) (H : Hp) (f : Addr) (rows : List Rw) (bars : List Str) : Prop where
  at_ : FormAt c CF H f rows bars
  lr : rows.length ≤ 500
  lb : bars.length ≤ 500
  ok : ∀ r ∈ rows, r.ok
section
variable {P : Program} {w : World} {K : PySem.W.Frag} {mg : Str → Option Value} {base : Heap} {f CF : Addr} {fd : FuncData} {c : C5} {m : MA}
end
end K91

set_option Elab.async false
set_option linter.all false
set_option maxRecDepth 100000
set_option maxHeartbeats 4000000
namespace L2
open PySem PySem.Spec PyProof.Rows
section
variable {X : Cx}
/-! ### any(xs), a list of bools -/
end
end L2

set_option Elab.async false
set_option linter.all false
set_option maxRecDepth 100000
set_option maxHeartbeats 4000000
namespace L2
open PySem PySem.Spec PyProof.Rows
/-! ### range(n) as a thing, list(range(n)) -/
section
variable {X : Cx}
end
end L2

set_option Elab.async false
set_option linter.all false
set_option maxRecDepth 100000
set_option maxHeartbeats 4000000
namespace L2
open PySem PySem.W PySem.Builtin PySem.Builtin.ObjectAttr PySem.Spec PyProof.Rows
/-! ### an own exception class whose instances an own __init__ makes ready -/
section
variable {prog : Program} {w : World} {A : Around} {E : Value → Shared → Prop} {s : Shared} {K : PySem.W.Frag} {C f : Addr} {us : List Value}
end
end L2

set_option Elab.async false
set_option linter.all false
set_option maxRecDepth 100000
set_option maxHeartbeats 4000000
namespace L2
open PySem PySem.W PySem.Builtin PySem.Builtin.ObjectAttr PySem.Spec PyProof.Rows
/-! ### the own dict of an exception: self.x = v -/
section
variable {prog : Program} {w : World} {A : Around} {E : Value → Shared → Prop} {s : Shared} {K : PySem.W.Frag} {C x : Addr} {us : List Value}
end
end L2

set_option Elab.async false
set_option linter.all false
set_option maxRecDepth 100000
set_option maxHeartbeats 4000000
namespace L2
open PySem PySem.W PySem.Builtin PySem.Builtin.ObjectAttr PySem.Builtin.Getset_descriptor PySem.Spec PyProof.Rows
/-! ### e.x, e an exception with an own dict -/
section
variable {prog : Program} {w : World} {A : Around} {E : Value → Shared → Prop} {s : Shared} {K : PySem.W.Frag} {C D x dx : Addr} {us : List Value}
end
end L2

set_option Elab.async false
set_option linter.all false
set_option maxRecDepth 100000
set_option maxHeartbeats 4000000
namespace L2
open PySem PySem.Spec PyProof.Rows
/-! ### exceptions as things: made, their attributes set and read -/
section
variable {X : Cx} {pins : List (Addr × Obj)} {σ : St} {H : Hp} {s : Shared} {x C t : Addr} {f : Str} {y : V} {u : Value} {A : Around} {E : Value → Shared → Prop}
end
/-! the rules -/
section
variable {X : Cx} {o e value : Expr} {f : Str} {pos pos' tpos : Pos} {ta tv : TE}
end
/-! C(..), an own exception class with an own __init__ -/
section
variable {X : Cx} {CX : CXT} {k : Nat} {f C : Addr} {fd : FuncData} {ps : List Str} {sp : Sp} {E : XK} {x : Str} {p pos : Pos} {e : Expr} {es : List Expr} {t : TA}
end
end L2

set_option Elab.async false
set_option linter.all false
set_option maxRecDepth 100000
set_option maxHeartbeats 4000000
namespace L2
open PySem PySem.Spec PyProof.Rows
/-! ### raise C(..), C with an own __init__ -/
def drop (H : Hp) (a : Addr) : Hp := fun b => if b = a then none else H b
section
variable {X : Cx} {pins : List (Addr × Obj)} {σ : St} {H : Hp} {s : Shared} {ea C t : Addr} {od : Option Addr} {M : Model} {E : Value → Shared → Prop}
end
end L2

set_option Elab.async false
set_option linter.all false
set_option maxRecDepth 100000
set_option maxHeartbeats 4000000
namespace L2
open PySem PySem.Spec PyProof.Rows
section
variable {X : Cx} {E : XK} {pos : Pos} {e : Expr} {te : TE}
end
section
variable {P : Program} {w : World} {K : PySem.W.Frag} {mg : Str → Option Value} {base : Heap} {N : List Str} {qual : Str} {scope : Scope} {f : Addr} {cd : Value} {A : Around} {outer : List Env} {s : Shared} {H : Hp} {E E' : XK}
end
/-! C(..), an own exception class without __init__, as a thing -/
section
variable {X : Cx} {x : Str} {C : Addr} {B Bn newId nid initId inN : String} {bm bmN : List Value} {np pos : Pos} {e : Expr} {es : List Expr} {t : TA}
end
end L2

set_option Elab.async false
set_option linter.all false
set_option maxRecDepth 100000
set_option maxHeartbeats 4000000
namespace L2
open PySem PySem.Spec PyProof.Rows
section
variable {X : Cx} {pins : List (Addr × Obj)} {σ : St} {H : Hp} {s : Shared} {M : Model} {A : Around} {E : Value → Shared → Prop} {i : Nat} {n : Str} {pos : Pos}
end
section
variable {X : Cx} {pins : List (Addr × Obj)} {σ : St} {H : Hp} {s : Shared} {ea : Addr}
variable {st b₀ : Stmt} {suite : List Stmt} {c n : Str} {np hpos pos : Pos} {C : Addr} {i : Nat} {tb : XK → TS} {ts : TS} {ok : Value → Prop}
end
section
variable {X : Cx} {pins : List (Addr × Obj)} {σ : St} {e : Expr} {es : List Expr} {t : TA} {E : XK} {x : Str} {p pos : Pos} {k : Nat} {f C : Addr} {fd : FuncData} {ps : List Str} {sp : Sp} {dvs : List V} {ds : List Value}
end
end L2

set_option Elab.async false
set_option linter.all false
set_option maxRecDepth 100000
set_option maxHeartbeats 4000000
namespace L2
open PySem PySem.Spec PyProof.Rows
/-! ### an exception in flight, its object known -/
abbrev excF (C : Addr) (od : Option Addr) (t : Addr) (tb : Value) : Obj := { cls := .ref C, dict := od, data := .fields #[.ref t, tb, .none, .none, .bool false, .none] }
/-- it has been noted: its traceback stands outside the base -/
def TrS (h base : Heap) (e C : Addr) (od : Option Addr) (t : Addr) : Prop := ∃ (tb : Addr) (oT : Obj) (ts : Array Value), h.get? e = some (excF C od t (.ref tb)) ∧ base.get? tb = none ∧ tb ≠ e ∧ h.get? tb = some oT ∧ oT.data = .fields ts ∧ ts[3]? = some .none
section
variable {M : Model} {A : Around} {E : Value → Shared → Prop} {s : Shared} {base : Heap} {env : Env} {outer : List Env} {L e C t : Addr} {od : Option Addr} {tb0 head : Value} {hn : Bool} {Q : Unit → Shared → Prop}
theorem entryS (fr : A.frames = some (env :: outer)) (fl : s.heap.FunFrames base (env :: outer)) (hfl : env.frame = some L) (he : s.heap.get? e = some (excF C od t tb0)) (hst : base.StaysIn s.heap) (hb : base.get? e = none)
    (q : ∀ h' : Heap, base.StaysIn h' → h'.FunFrames base (env :: outer) → TrS h' base e C od t → s.heap.UpToSlots h' → Q () { s with heap := h' }) :
    wpAny M A (do
      let a ← frameOf env
      let pl ← entryPlaceOf L hn
      let b ← EntryCells.newEntry head a Value.none (rawInt L) Value.none pl
      setField (Value.ref e) 1 b) (fun _ s' => wpAny M A (setFlight (Value.ref e) none) Q E s') E s := by
  refine wpAny_bind (wpAny_frameOf_fun fr fl hfl fun h1 so => ?_)
  obtain ⟨sz, oth, sl⟩ := so
  refine wpAny_bind (wpAny_entryPlaceOf fun pl hpl => ?_)
  unfold EntryCells.newEntry newFields
  have eS : e ∉ List.filterMap (fun x : Env => x.frame) (env :: outer) := fun z => by
    obtain ⟨_, o, ho, hd⟩ := fl.mem z
    rw [he] at ho
    cases ho
    exact hd _ rfl
  have e1 : h1.get? e = some (excF C od t tb0) := (oth e eS).trans he
  have lp : (if pl.isEmpty = true then List.replicate 6 Value.none else pl).length = 6 := by
    rcases hpl with rfl | ⟨a, b, c, d, c9, b10, _, rfl⟩ <;> rfl
  have sz11 : ([head, Value.ref L, Value.none, rawInt L, Value.none] ++ if pl.isEmpty = true then List.replicate 6 Value.none else pl).length = 11 := by
    rw [List.length_append, lp]
    rfl
  have hL : A.frames = some (env :: outer) := fr
  generalize hcells : ([head, Value.ref L, Value.none, rawInt L, Value.none] ++ if pl.isEmpty = true then List.replicate 6 Value.none else pl) = cells at sz11 ⊢
  have c3 : cells[3]? = some (rawInt L) := by rw [← hcells]; rfl
  refine wpAny_bind (wpAny_newObj_type ?_ (by show sizeOk (Data.fields cells.toArray); unfold sizeOk; simp only [List.size_toArray, sz11]; decide))
  dsimp only
  have hlt : e < h1.objs.size := Heap.lt_size e1
  have ne : h1.objs.size ≠ e := Nat.ne_of_gt hlt
  refine wpAny_setField (Heap.get?_push_of_some _ e1) rfl (by show 1 < 6; decide) ?_
  have x2 : ((h1.push { cls := .type "traceback", data := .fields cells.toArray }).update e (Obj.mapFields fun x => x.setIfInBounds 1 (.ref h1.objs.size))).get? e = some (excF C od t (.ref h1.objs.size)) :=
    Heap.get?_update_self _ (Heap.get?_push_of_some _ e1) rfl
  have x3 : ((h1.push { cls := .type "traceback", data := .fields cells.toArray }).update e (Obj.mapFields fun x => x.setIfInBounds 1 (.ref h1.objs.size))).get? h1.objs.size = some { cls := .type "traceback", data := .fields cells.toArray } := by
    rw [Heap.get?_update_ne _ _ _ _ ne]
    exact Heap.get?_push_size h1 rfl
  have x4 : ∀ b o, b ≠ e → h1.get? b = some o → ((h1.push { cls := .type "traceback", data := .fields cells.toArray }).update e (Obj.mapFields fun x => x.setIfInBounds 1 (.ref h1.objs.size))).get? b = some o := fun b o hbe hbo => by
    rw [Heap.get?_update_ne _ _ _ _ hbe]
    exact Heap.get?_push_of_some _ hbo
  generalize (h1.push { cls := .type "traceback", data := .fields cells.toArray }).update e (Obj.mapFields fun x => x.setIfInBounds 1 (.ref h1.objs.size)) = h2 at x2 x3 x4 ⊢
  unfold setFlight
  refine wpAny_bind (wpAny_field (x := .ref h1.objs.size) x2 rfl rfl ?_)
  rw [if_pos (show (Value.ref h1.objs.size != Value.none) = true from rfl)]
  refine wpAny_setField x3 rfl (by rw [List.size_toArray, sz11]; decide) ?_
  show Q () { s with heap := h2.update h1.objs.size (Obj.mapFields fun x => x.setIfInBounds 3 Value.none) }
  have y1 : ∀ b, b ≠ h1.objs.size → (h2.update h1.objs.size (Obj.mapFields fun x => x.setIfInBounds 3 Value.none)).get? b = h2.get? b := fun b hb' => Heap.get?_update_ne _ _ _ _ hb'
  have y2 : (h2.update h1.objs.size (Obj.mapFields fun x => x.setIfInBounds 3 Value.none)).get? h1.objs.size = some { cls := .type "traceback", data := .fields (cells.toArray.setIfInBounds 3 .none) } := Heap.get?_update_self _ x3 rfl
  have kp : ∀ b o, s.heap.get? b = some o → (∀ vs, o.data ≠ .fields vs) → ∃ sl, (h2.update h1.objs.size (Obj.mapFields fun x => x.setIfInBounds 3 Value.none)).get? b = some { o with slots := sl } := fun b o hbo hd => by
    obtain ⟨sl', hs'⟩ := sl b o hbo
    have n1 : b ≠ h1.objs.size := Nat.ne_of_lt (Heap.lt_size hs')
    have n2 : b ≠ e := fun z => by rw [z, he] at hbo; cases hbo; exact hd _ rfl
    exact ⟨sl', by rw [y1 b n1]; exact x4 b _ n2 hs'⟩
  refine q _ (fun b o hbo => ?_) (fl.of_keeps fun b o hbo hd => ?_) ?_ kp
  · have n0 : b ∉ List.filterMap (fun x : Env => x.frame) (env :: outer) := fun z => by
      rw [(fl.mem z).1] at hbo; cases hbo
    have hs' := (oth b n0).trans (hst b o hbo)
    have n1 : b ≠ h1.objs.size := Nat.ne_of_lt (Heap.lt_size hs')
    have n2 : b ≠ e := fun z => by rw [z, hb] at hbo; cases hbo
    rw [y1 b n1]
    exact x4 b o n2 hs'
  · obtain ⟨sl', hs'⟩ := kp b o hbo hd
    exact ⟨_, hs', rfl⟩
  · refine ⟨h1.objs.size, _, _, (by rw [y1 e (Ne.symm ne)]; exact x2), ?_, ne, y2, rfl, ?_⟩
    · cases z : base.get? h1.objs.size with
      | none => rfl
      | some o =>
        have := Heap.lt_size (hst _ o z)
        rw [← sz] at this
        exact absurd this (Nat.lt_irrefl _)
    · rw [Array.getElem?_setIfInBounds_self_of_lt (by rw [List.size_toArray, sz11]; decide)]
/-- the frame is noted, then the flight's mark goes: the exception new, or noted already -/
theorem noteS (fr : A.frames = some (env :: outer)) (fl : s.heap.FunFrames base (env :: outer)) (hfl : env.frame = some L) (hst : base.StaysIn s.heap) (hb : base.get? e = none)
    (he : s.heap.get? e = some (excF C od t .none) ∨ TrS s.heap base e C od t)
    (q : ∀ h' : Heap, base.StaysIn h' → h'.FunFrames base (env :: outer) → TrS h' base e C od t → s.heap.UpToSlots h' → Q () { s with heap := h' }) :
    wpAny M A (noteFrame (.ref e) env) (fun _ s' => wpAny M A (setFlight (.ref e) none) Q E s') E s := by
  unfold noteFrame
  rw [hfl]
  dsimp only
  rcases he with he | ⟨tb, oT, ts, h1, h2, h3, h4, h5, h6⟩
  · refine wpAny_bind (wpAny_field (x := Value.none) he rfl rfl ?_)
    rw [if_neg (show ¬ (Value.none != Value.none) = true by decide)]
    exact entryS fr fl hfl he hst hb q
  · refine wpAny_bind (wpAny_field (x := .ref tb) h1 rfl rfl ?_)
    rw [if_pos (show (Value.ref tb != Value.none) = true from rfl)]
    refine wpAny_bind (wpAny_field (x := Value.none) h4 h5 h6 ?_)
    rw [if_neg (show ¬ (Value.none == rawInt (L : Nat)) = true from fun z => by cases z)]
    have l3 : 3 < ts.size := by
      have := (Array.getElem?_eq_some_iff.mp h6).1
      exact this
    refine wpAny_bind (wpAny_setField h4 h5 l3 ?_)
    have z1 : ∀ b, b ≠ tb → (s.heap.update tb (Obj.mapFields fun x => x.setIfInBounds 3 Value.none)).get? b = s.heap.get? b := fun b hb' => Heap.get?_update_ne _ _ _ _ hb'
    have up : s.heap.UpToSlots (s.heap.update tb (Obj.mapFields fun x => x.setIfInBounds 3 Value.none)) := fun b o hbo hd => by
      have n : b ≠ tb := fun z => by rw [z, h4] at hbo; cases hbo; exact hd _ h5
      exact ⟨o.slots, by rw [z1 b n]; exact hbo⟩
    refine entryS (s := { s with heap := s.heap.update tb (Obj.mapFields fun x => x.setIfInBounds 3 Value.none) }) fr (fl.of_keeps fun b o hbo hd => ?_) hfl (tb0 := .ref tb) (by rw [z1 e (Ne.symm h3)]; exact h1) (fun b o hbo => ?_) hb fun h' a1 a2 a3 a4 => q h' a1 a2 a3 (up.trans a4)
    · obtain ⟨sl, hs⟩ := up b o hbo hd
      exact ⟨_, hs, rfl⟩
    · have n : b ≠ tb := fun z => by rw [z, h2] at hbo; cases hbo
      show (s.heap.update tb (Obj.mapFields fun x => x.setIfInBounds 3 Value.none)).get? b = some o
      rw [z1 b n]
      exact hst b o hbo
end
end L2

set_option Elab.async false
set_option linter.all false
set_option maxRecDepth 100000
set_option maxHeartbeats 4000000
namespace L2
open PySem PySem.Spec PyProof.Rows
def FlS (B : Heap) (l : List Env) (e C : Addr) (od : Option Addr) (t : Addr) (h : Heap) : Prop := B.StaysIn h ∧ B.get? e = none ∧ h.FunFrames B l ∧ TrS h B e C od t
structure FlyS (P : Program) (w : World) (outer : List Env) (H : Hp) (s : Shared) (C : Addr) (od : Option Addr) (t : Addr) (H' : Hp) (ea : Addr) (s' : Shared) : Prop where
  os : s'.os = s.os
  bare : AllBare s'.gens
  un : Un (frs outer) [] H H' s.heap s'.heap
  hok : HOk P w H' s'.heap
  nt : H' ea = none
  fly : ∃ B, FlS B outer ea C od t s'.heap ∧ (∀ b u, H' b = some u → ∃ o, B.get? b = some o) ∧ (∀ b o, s.heap.get? b = some o → H b = none → b ∉ frs outer → B.get? b = some o) ∧
    ∀ b o, s.heap.get? b = some o → b ∉ frs outer → ∃ o', B.get? b = some o'
abbrev CXs (P : Program) (w : World) : CXT := fun outer H s E e s' => ∃ ea C od t H', e = .ref ea ∧ FlyS P w outer H s C od t H' ea s' ∧ E (.ref C) od H'
section
variable {X : Cx} {pins : List (Addr × Obj)} {σ : St} {H H' : Hp} {s s' : Shared} {ea C t : Addr} {od : Option Addr} {M : Model} {E : Value → Shared → Prop}
end
end L2

set_option Elab.async false
set_option linter.all false
set_option maxRecDepth 100000
set_option maxHeartbeats 4000000
namespace L2
open PySem PySem.Spec PyProof.Rows
/-- a caught exception, its object known -/
abbrev excC (ea C : Addr) (od : Option Addr) (t : Addr) : HO := .ext fun h => ∃ tb, h.get? ea = some (excF C od t tb)
theorem excC_ok {P : Program} {w : World} {H : Hp} {h : Heap} {ea C t : Addr} {od : Option Addr} {tb : Value} (e : h.get? ea = some (excF C od t tb)) : ObjOk P w H h ea (excC ea C od t) :=
  ⟨⟨tb, e⟩, ⟨_, e⟩, fun g1 g2 ⟨tb', q⟩ k => ⟨tb', k _ q⟩⟩
section
variable {X : Cx} {pins : List (Addr × Obj)} {σ : St} {H H' : Hp} {s s' : Shared} {ea C t : Addr} {od : Option Addr} {M : Model} {A : Around} {E : Value → Shared → Prop} {h5 : Heap}
theorem FlyS.move {P : Program} {w : World} {l : List Env} {B : Heap} (F : FlyS P w l H s C od t H' ea s') (fl : FlS B l ea C od t s'.heap) (tr : ∀ b u, H' b = some u → ∃ o, B.get? b = some o)
    (old : ∀ b o, s.heap.get? b = some o → H b = none → b ∉ frs l → B.get? b = some o) (olds : ∀ b o, s.heap.get? b = some o → b ∉ frs l → ∃ o', B.get? b = some o')
    (fl5 : FlS B l ea C od t h5) (up : s'.heap.UpToSlots h5) : FlyS P w l H s C od t H' ea { s' with heap := h5 } := by
  refine ⟨F.os, F.bare, ⟨fun b o e n hb _ => fl5.1 b o (old b o e n hb), fun b o e n hb _ => ?_, F.un.free, fun b o e _ => ?_, F.un.tups, F.un.frzs, F.un.tbls⟩, F.hok.sameAt fun b u o e q => ?_, F.nt, ⟨B, fl5, tr, old, olds⟩⟩
  · obtain ⟨sl, e1⟩ := F.un.slot b o e n hb (by simp)
    obtain ⟨_, o', ho', hd⟩ := fl.2.2.1.mem hb
    rw [e1] at ho'
    cases ho'
    obtain ⟨sl2, e2⟩ := up b _ e1 hd
    exact ⟨sl2, e2⟩
  · by_cases hb : b ∈ frs l
    · obtain ⟨_, o', ho', hd⟩ := fl5.2.2.1.mem hb
      exact ⟨o', ho'⟩
    · obtain ⟨o3, e3⟩ := olds b o e hb
      exact ⟨o3, fl5.1 b o3 e3⟩
  · obtain ⟨o3, e3⟩ := tr b u e
    have e4 := fl.1 b o3 e3
    rw [q] at e4
    cases e4
    exact fl5.1 b o e3
theorem landS {B : Heap} {l : List Env} {Q : Unit → Shared → Prop} (fl : FlS B l ea C od t s.heap) (q : ∀ h' : Heap, FlS B l ea C od t h' → s.heap.UpToSlots h' → Q () { s with heap := h' }) : wpAny M A (setFlight (.ref ea) none) Q E s := by
  obtain ⟨f1, f2, f3, tb, oT, ts, h1, h2, h3, h4, h5, h6⟩ := fl
  unfold setFlight
  refine wpAny_bind (wpAny_field (x := .ref tb) h1 rfl rfl ?_)
  rw [if_pos (show (Value.ref tb != Value.none) = true from rfl)]
  have l3 : 3 < ts.size := (Array.getElem?_eq_some_iff.mp h6).1
  refine wpAny_setField h4 h5 l3 ?_
  show Q () { s with heap := s.heap.update tb (Obj.mapFields fun x => x.setIfInBounds 3 Value.none) }
  have z1 : ∀ b, b ≠ tb → (s.heap.update tb (Obj.mapFields fun x => x.setIfInBounds 3 Value.none)).get? b = s.heap.get? b := fun b hb' => Heap.get?_update_ne _ _ _ _ hb'
  have up : s.heap.UpToSlots (s.heap.update tb (Obj.mapFields fun x => x.setIfInBounds 3 Value.none)) := fun b o hbo hd => by
    have n : b ≠ tb := fun z => by rw [z, h4] at hbo; cases hbo; exact hd _ h5
    exact ⟨o.slots, by rw [z1 b n]; exact hbo⟩
  obtain ⟨oc, odd, da, osl⟩ := oT
  have h5' : da = .fields ts := h5
  subst h5'
  have z2 : (s.heap.update tb (Obj.mapFields fun x => x.setIfInBounds 3 Value.none)).get? tb = some ⟨oc, odd, .fields (ts.setIfInBounds 3 .none), osl⟩ := Heap.get?_update_self _ h4 rfl
  refine q _ ⟨fun b o hbo => ?_, f2, f3.of_keeps fun b o hbo hd => ?_, tb, _, _, (by rw [z1 ea (Ne.symm h3)]; exact h1), h2, h3, z2, rfl, ?_⟩ up
  · have n : b ≠ tb := fun z => by rw [z, h2] at hbo; cases hbo
    rw [z1 b n]
    exact f1 b o hbo
  · obtain ⟨sl, hs⟩ := up b o hbo hd
    exact ⟨_, hs, rfl⟩
  · rw [Array.getElem?_setIfInBounds_self_of_lt l3]
theorem FlyS.track {B : Heap} (I : Inv X pins σ H s) (F : FlyS X.prog X.w X.stack H s C od t H' ea s') (fl : FlS B X.stack ea C od t s'.heap) (old : ∀ b o, s.heap.get? b = some o → H b = none → b ∉ frs X.stack → B.get? b = some o) :
    Inv X pins σ (upd H' ea (excC ea C od t)) s' := by
  have I1 : Inv X pins σ H' s' := I.call' F.os F.un F.hok F.bare fun b z => nomatch z
  obtain ⟨tb, oT, ts, he, _⟩ := fl.2.2.2
  have nfr : ea ∉ frs X.stack := fun z => by
    obtain ⟨_, o', ho', hd'⟩ := fl.2.2.1.mem z
    rw [he] at ho'
    cases ho'
    exact hd' _ rfl
  have nold : ∀ b o, s.heap.get? b = some o → H b = none → b ≠ ea := fun b o e n z => by
    subst z
    have := old b o e n nfr
    rw [fl.2.1] at this
    cases this
  refine I1.track F.nt (excC_ok he) (fun u e n hx => ?_) (fun z => ?_) (fun x c e z => ?_) fun p hp => ?_
  · by_cases hb : ea ∈ X.fs
    · obtain ⟨_, o', ho', hd'⟩ := I1.funs.mem hb
      rw [he] at ho'
      cases ho'
      exact hd' _ rfl
    · exact nold ea u (I.base.keep ea u e n hb hx) (I.base.free ea u e n hx) rfl
  · obtain ⟨m, ⟨oL, es, ep, hoL, hdL, _⟩, _⟩ := I1.loc
    rw [z, he] at hoL
    cases hoL
    cases hdL
  · obtain ⟨v, oc, hoc, hdc⟩ := I1.cell x c e
    rw [z, he] at hoc
    cases hoc
    cases hdc
  · obtain ⟨q1, q2, _⟩ := I.pin p hp
    exact nold p.1 p.2 q1 q2
end
/-! ### raising, passing, defs -/
section
variable {X : Cx} {E : XK} {pos : Pos} {e : Expr} {te : TE}
end
section
variable {P : Program} {w : World} {K : PySem.W.Frag} {mg : Str → Option Value} {base : Heap} {N : List Str} {qual : Str} {scope : Scope} {f : Addr} {cd : Value} {A : Around} {outer : List Env} {s : Shared} {H : Hp} {E E' : XK}
end
section
variable {X : Cx} {k : Nat} {f : Addr} {fd : FuncData} {ps : List Str} {sp : Sp} {E : XK} {x : Str} {p pos : Pos} {e : Expr} {es : List Expr} {t : TA}
end
end L2

set_option Elab.async false
set_option linter.all false
set_option maxRecDepth 100000
set_option maxHeartbeats 4000000
namespace L2
open PySem PySem.Spec PyProof.Rows
/-! ### except clauses, one after the other -/
abbrev HK := Addr → Option Addr → Addr → Addr → Ends → St → Hp → Prop
structure PH (X : Cx) (hs : List ExceptHandler) (th : HK) : Prop where
  run : ∀ (pins : List (Addr × Obj)) (σ : St) (H1 : Hp) (s1 : Shared) (H' : Hp) (ea C : Addr) (od : Option Addr) (t : Addr) (s5 : Shared) (D : Ends), Inv X pins σ H1 s1 → FlyS X.prog X.w X.stack H1 s1 C od t H' ea s5 → th C od t ea D σ H' → wpAny (model X.prog X.w) X.A (handleBy (.ref ea) X.env hs) (SP X pins D) X.xe s5
def hNo (K : PySem.W.Frag) (C' : Addr) (ts : TS) (rest : HK) : HK := fun C od t ea D σ H' =>
  (PySem.W.exmOne K (.ref C) (.ref C') = some true ∧ ts D σ (upd H' ea (excC ea C od t))) ∨ (PySem.W.exmOne K (.ref C) (.ref C') = some false ∧ rest C od t ea D σ H')
section
variable {X : Cx} {hs : List ExceptHandler} {th : HK} {c n : Str} {C' : Addr} {i : Nat} {ts : TS} {b₀ : Stmt} {suite : List Stmt} {np hpos : Pos}
theorem ph_nil : PH X [] (fun _ _ _ _ _ _ _ => False) := ⟨fun _ _ _ _ _ _ _ _ _ _ _ _ _ h => h.elim⟩
theorem ph_no (hg : Gl X c) (hm : X.mg c = some (.ref C')) (hs' : ∀ ea, PSs (X.suite ea) (b₀ :: suite) ts) (hr : PH X hs th)
    (hd : (c == ("__debug__" : Str)) = false := by decide) : PH X (.ExceptHandler (some (.Name c np)) none (b₀ :: suite) hpos :: hs) (hNo X.K C' ts th) := by
  refine ⟨fun pins σ H1 s1 H' ea C od t s5 D I1 F5 h => ?_⟩
  obtain ⟨B, fl, tr, old, olds⟩ := F5.fly
  have I5 : Inv X pins σ H' s5 := I1.call' F5.os F5.un F5.hok F5.bare fun b z => nomatch z
  have LT : PySem.W.Looks (model X.prog X.w) s5.heap (typeOf (.ref ea)) (.ref C) := by
    obtain ⟨tb, oT, ts', he, _⟩ := fl.2.2.2
    exact (PySem.W.Looks.ld he).andThen .now
  refine wpAny_handleBy_cons (codeAny_handlers_test (ld_glob (I5.suite ea) hg hm ?_ hd)) (by intro z; cases z)
  rcases h with ⟨hx, h⟩ | ⟨hx, h⟩
  · refine (PySem.W.exm_one (M := model X.prog X.w) (h := s5.heap) I5.kIn LT hx) _ _ _ _ (fun _ _ z => z) ?_
    refine codeAny_handlers_suite (landS fl fun h6 fl6 up6 => ?_)
    have F6 := F5.move fl tr old olds fl6 up6
    have I6 := F6.track I1 fl6 old
    refine wpAny_mono ((hs' ea) pins _ _ _ D (I6.suite ea) h) (fun f s8 h8 => ?_) fun _ _ z => z.elim
    show SP X pins D f s8
    cases f with
    | next =>
      obtain ⟨σ', H2, I8, q8⟩ := h8
      exact ⟨_, H2, Inv.unsuite I1.ok I8, q8⟩
    | brk =>
      obtain ⟨σ', H2, I8, q8⟩ := h8
      exact ⟨_, H2, Inv.unsuite I1.ok I8, q8⟩
    | cont =>
      obtain ⟨σ', H2, I8, q8⟩ := h8
      exact ⟨_, H2, Inv.unsuite I1.ok I8, q8⟩
    | ret u =>
      obtain ⟨v, σ', H2, I8, rv, q8⟩ := h8
      exact ⟨v, _, H2, Inv.unsuite I1.ok I8, rv, q8⟩
  · refine (PySem.W.exm_one (M := model X.prog X.w) (h := s5.heap) I5.kIn LT hx) _ _ _ _ (fun _ _ z => z) ?_
    exact hr.run pins σ H1 s1 H' ea C od t s5 D I1 F5 h
end
/-! ### try, with such clauses -/
def Passes2 (X : Cx) (pins : List (Addr × Obj)) (σ : St) (E : XK) : Prop := ∀ (H : Hp) (s : Shared) (e : Value) (s' : Shared), Inv X pins σ H s → CXs X.prog X.w X.stack H s E e s' → X.xe e s'
def tTryS (tb : XK → TS) (th : HK) : TS := fun D σ H => tb (fun cls od H' => ∃ C, cls = .ref C ∧ ∀ t ea, H' ea = none → th C od t ea D σ H') D σ H
section
variable {X : Cx} {st : Stmt} {h₀ : ExceptHandler} {hs : List ExceptHandler} {pos : Pos} {tb : XK → TS} {th : HK}
theorem ps_tryS (hstk : X.stack = X.env :: X.outer) (hfl : X.env.frame = some X.env.locals) (hh : PH X (h₀ :: hs) th)
    (hb : ∀ (pins : List (Addr × Obj)) (σ : St) (xe : Value → Shared → Prop) (E : XK), Passes2 (X.wish xe) pins σ E → PS1 (X.wish xe) pins σ st (tb E)) : PS X (.Try [st] (h₀ :: hs) [] [] pos) (tTryS tb th) := by
  refine ⟨?_⟩
  intro pins s σ H D I h
  have fr0 := I.ok.frames
  rw [hstk] at fr0
  refine wpAny_Try_except ?_
  have key : Passes2 (X.wish (tryXe X pins D (h₀ :: hs))) pins σ (fun cls od H' => ∃ C, cls = .ref C ∧ ∀ t ea, H' ea = none → th C od t ea D σ H') := by
    intro H1 s1 e s2 I1 q
    obtain ⟨ea, C, od, t, H', rfl, F, C0, e0, q⟩ := q
    cases e0
    have I1 := I1.unwish
    have F : FlyS X.prog X.w X.stack H1 s1 C od t H' ea s2 := F
    obtain ⟨B, fl, tr, old, olds⟩ := F.fly
    have fl' := fl
    rw [hstk] at fl'
    refine noteS fr0 fl'.2.2.1 hfl fl'.1 fl'.2.1 (.inr fl'.2.2.2) fun h5 y1 y2 y3 y4 => ?_
    have fl5 : FlS B X.stack ea C od t h5 := by rw [hstk]; exact ⟨y1, fl'.2.1, y2, y3⟩
    have F5 := F.move fl tr old olds fl5 y4
    exact hh.run pins σ H1 s1 H' ea C od t _ D I1 F5 (q t ea F.nt)
  have run := (hb pins σ _ _ key).run s H D (I.wish _) h
  refine wpAny_execs_cons (thn run fun f s1 q => ?_)
  · cases f with
    | next => exact wpAny_execs_nil (wpAny_execs_nil (SP.unwish (f := .next) q))
    | ret v => exact SP.unwish (f := .ret v) q
    | brk => exact SP.unwish (f := .brk) q
    | cont => exact SP.unwish (f := .cont) q
end
section
variable {X : Cx} {pins : List (Addr × Obj)} {σ : St} {e : Expr} {es : List Expr} {te : TE} {t : TA} {E : XK} {x m : Str} {p pos apos : Pos} {k : Nat} {f C : Addr} {fd : FuncData} {ps : List Str} {sp : Sp} {dvs : List V} {ds : List Value}
end
/-! ### e.x, e a caught exception -/
section
variable {X : Cx} {pins : List (Addr × Obj)} {σ : St} {H : Hp} {s : Shared} {x C t : Addr} {f : Str} {A : Around} {E : Value → Shared → Prop}
end
section
variable {X : Cx} {e : Expr} {f : Str} {pos : Pos} {ta : TE}
end
end L2

set_option Elab.async false
set_option linter.all false
set_option maxRecDepth 100000
set_option maxHeartbeats 4000000
namespace L2
open PySem PySem.Spec PyProof.Rows PySem.Builtin
section
variable {prog : Program} {w : World} {A : Around} {E : Value → Shared → Prop} {s : Shared} {it ea C t : Addr} {od : Option Addr} {tb : Value} {x left step : Int} {Q : Option Value → Shared → Prop}
end
end L2

set_option Elab.async false
set_option linter.all false
set_option maxRecDepth 100000
set_option maxHeartbeats 4000000
namespace L2
open PySem PySem.Spec PyProof.Rows
/-! ### a list comprehension over a range, within an except suite -/
structure TurnH (ea : Addr) (P : Program) (w : World) (K : PySem.W.Frag) (tg : Expr) (J : It) (fp : List Addr) (it : Addr) (tn : Nat → Heap → Prop) : Prop where
  mem : it ∈ fp
  obj : ∀ i h, tn i h → ∀ b ∈ fp, ∃ o, h.get? b = some o ∧ ∀ v, o.data ≠ .cell v
  keep : ∀ i h h', tn i h → (∀ b ∈ fp, ∀ o, h.get? b = some o → h'.get? b = some o) → tn i h'
  item : ∀ (X : Cx), X.prog = P → X.w = w → X.K = K → X.A.handled = some (.ref ea) → ∀ (i : Nat) (pins : List (Addr × Obj)) (s : Shared) (σ : St) (H : Hp) (E : Value → Shared → Prop), Inv X pins σ H s → (∀ b ∈ fp, FpOk X pins H b) → tn i s.heap → J.go i H →
    wpAny (model P w) X.A (pyNext (.ref it)) (fun r s1 => ∃ u, r = some u ∧
      wpAny (model P w) X.A (letOwnedTupleGo tg (.ref it) u) (fun _ s2 => ∃ x H', Inv X pins σ H' s2 ∧ RelV x u ∧ J.yld i H x H' ∧ tn (i + 1) s2.heap ∧ ∀ b ∈ fp, H' b = none) E s1) E s
  done : ∀ (X : Cx), X.prog = P → X.w = w → X.K = K → X.A.handled = some (.ref ea) → ∀ (i : Nat) (pins : List (Addr × Obj)) (s : Shared) (σ : St) (H : Hp) (E : Value → Shared → Prop), Inv X pins σ H s → (∀ b ∈ fp, FpOk X pins H b) → tn i s.heap → J.stop i H →
    wpAny (model P w) X.A (pyNext (.ref it)) (fun r s1 => r = none ∧ Inv X pins σ H s1) E s
  self : ∀ (A : Around) (i : Nat) (s : Shared) (Q : Value → Shared → Prop) (E : Value → Shared → Prop), tn i s.heap → Q (.ref it) s → wpAny (model P w) A (pyIter (.ref it)) Q E s
def PIEH (X : Cx) (ea : Addr) (pins : List (Addr × Obj)) (σ : St) (tg : Expr) (R : It → Hp → Prop) (itv : Value) (s2 : Shared) : Prop :=
  ∃ (it : Addr) (fp : List Addr) (tn : Nat → Heap → Prop) (J : It) (H' : Hp), itv = .ref it ∧ Inv X pins σ H' s2 ∧ TurnH ea X.prog X.w X.K tg J fp it tn ∧ tn 0 s2.heap ∧ (∀ b ∈ fp, FpOk X pins H' b) ∧ R J H'
section
variable {X : Cx} {tg : Expr}
end
section
variable {X : Cx} {pins : List (Addr × Obj)} {σ : St} {s : Shared} {sc : Scope} {fr Nc : List Str} {caps : List (Option Nat)} {elt tg iter : Expr} {ifs : List Expr} {g : TG} {tt : TT} {te : TE} {ow : List Nat} {pos pos2 : Pos} {E : Value → Shared → Prop}
end
section
variable {X : Cx} {hs : List ExceptHandler} {th : HK} {c n : Str} {C' : Addr} {i : Nat} {ts : TS} {b₀ : Stmt} {suite : List Stmt} {np hpos : Pos}
end
end L2

set_option Elab.async false
set_option linter.all false
set_option maxRecDepth 100000
set_option maxHeartbeats 4000000
namespace L2
open PySem PySem.Spec PyProof.Rows
section
variable {X : Cx}
/-! ### sep.join(xs) -/
theorem strs_are {ys : List Str} : ∀ {its : List Value}, Vals (ys.map V.str) its → StrsAre its ys := by
  induction ys with
  | nil => intro its h; cases h; exact .nil
  | cons y ys ih =>
    intro its h
    cases h with
    | cons r t =>
      obtain ⟨tk, rfl⟩ := r
      exact .cons _ _ (ih t)
def rJoin : V → List V → Hp → VK → Prop := fun x xs H Q => ∃ (z : Str) (a : Addr) (ys : List Str), x = .str z ∧ xs = [.ref a] ∧ H a = some (.lst (ys.map V.str)) ∧ z.length ≤ 16 ∧ (ys.map (·.length)).sum + ys.length ≤ 1048576 ∧ Q (.str (Txt.join z ys)) H
theorem mt_join : MtR X "str.join" rJoin := by
  intro pins s σ H x xs v us Q I rx r h
  obtain ⟨z, a, ys, rfl, rfl, ha, hz, hl, q⟩ := h
  obtain ⟨t, rfl⟩ := rx
  obtain ⟨u, rfl, ru⟩ := r.one
  cases ru
  obtain ⟨its, rv, pl, _⟩ := I.list (SqL.of ha)
  exact join_listW pl.isList (by simpa using strs_are rv) hz hl fun t' k => ⟨.str _, H, I.tok _, ⟨_, rfl⟩, q⟩
/-! ### xs.insert(i, y) -/
end
end L2

set_option Elab.async false
set_option linter.all false
set_option maxRecDepth 100000
set_option maxHeartbeats 4000000
namespace L2
open PySem PySem.Spec PyProof.Rows
section
variable {X : Cx}
end
end L2

set_option Elab.async false
set_option linter.all false
set_option maxRecDepth 100000
set_option maxHeartbeats 4000000
namespace L2
open PySem PySem.Spec PyProof.Rows PySem.Builtin
section
variable {prog : Program} {w : World} {A : Around} {E : Value → Shared → Prop} {s : Shared} {it l ea C t : Addr} {od : Option Addr} {tb : Value} {i : Nat} {items : Array Value} {Q : Option Value → Shared → Prop}
end

/-! ### a list comprehension over a list, within an except suite -/
section
variable {X : Cx} {tg : Expr}
end
section
variable {X : Cx} {sc : Scope} {elt tg iter : Expr} {ifs : List Expr} {g : TG} {tt : TT} {te : TE} {ow : List Nat} {pos : Pos}
end
/-! ### list(range(a, b)) -/
section
variable {X : Cx}
end
end L2

set_option Elab.async false
set_option linter.all false
set_option maxRecDepth 100000
set_option maxHeartbeats 4000000
namespace L2
open PySem PySem.Spec PyProof.Rows
section
variable {X : Cx}
end
section
variable {X : Cx} {hs : List ExceptHandler} {th : HK} {c n : Str} {C' : Addr} {i : Nat} {ts : TS} {b₀ : Stmt} {suite : List Stmt} {np hpos : Pos}
end
/-! ### defs called within an except suite, the exception that is handled known -/
section
variable {P : Program} {w : World} {K : PySem.W.Frag} {mg : Str → Option Value} {base : Heap}
end
section
variable {X : Cx} {k : Nat} {f ea : Addr} {fd : FuncData} {ps : List Str} {sp : Addr → Sp} {x : Str} {p pos : Pos} {e : Expr} {es : List Expr} {t : TA}
end
end L2

set_option Elab.async false
set_option linter.all false
set_option maxRecDepth 100000
set_option maxHeartbeats 4000000
namespace L2
open PySem PySem.Spec PyProof.Rows
/-! ### comprehensions whose items say data -/
end L2


set_option Elab.async false
set_option linter.all false
set_option maxRecDepth 100000
set_option maxHeartbeats 4000000
namespace K91
open PySem L2 PyProof.Rows
/-! ### entries -/
section
variable {P : Program} {w : World} {K : PySem.W.Frag} {mg : Str → Option Value} {base : Heap} {f CF : Addr} {fd : FuncData} {c : C5} {m : MA}
end
end K91

set_option Elab.async false
set_option linter.all false
set_option maxRecDepth 100000
set_option maxHeartbeats 4000000
namespace K91
open PySem L2 PyProof.Rows
/-! ### papers -/
section
variable {P : Program} {w : World} {K : PySem.W.Frag} {mg : Str → Option Value} {base : Heap} {f CF : Addr} {fd : FuncData} {c : C5} {m : MA}
end
end K91

set_option Elab.async false
set_option linter.all false
set_option maxRecDepth 100000
set_option maxHeartbeats 4000000
namespace K91
open PySem L2 PyProof.Rows
section
variable {P : Program} {w : World} {K : PySem.W.Frag} {mg : Str → Option Value} {base : Heap} {f : Addr} {fd : FuncData}
end
end K91

set_option Elab.async false
set_option linter.all false
set_option maxRecDepth 100000
set_option maxHeartbeats 4000000
namespace K91
open PySem L2 PyProof.Rows
/-! ### in order -/
theorem nms_app (a b : List Rw) : nms (a ++ b) = nms a ++ nms b := by unfold nms; rw [List.filter_append, List.map_append]
theorem nms_one (r : Rw) : nms [r] = if byNm r.k = true then [r.z] else [] := by
  unfold nms
  cases h : byNm r.k <;> simp [h]
/-! ### a form as it grows -/
/-! ### its lists -/
section
variable {H H' H'' : Hp} {lp lt ll de u : Addr} {S : FS} {r : Rw} {z : Str} {b : Bool}
end
end K91

set_option Elab.async false
set_option linter.all false
set_option maxRecDepth 100000
set_option maxHeartbeats 4000000
namespace L2
open PySem PySem.Spec PyProof.Rows
/-! ### blocks that choose -/
theorem le1000' {n : Nat} (h : n ≤ 1000) : n ≤ sizeLine := Nat.le_of_lt (small1000 h)
theorem filt_snoc {α : Type} {ys : List α} {i : Nat} {y : α} (keep : α → Bool) (hy : ys[i]? = some y) : (ys.take (i + 1)).filter keep = (ys.take i).filter keep ++ (if keep y = true then [y] else []) := by
  have hi : i < ys.length := (List.getElem?_eq_some_iff.mp hy).1
  have e : ys[i] = y := (List.getElem?_eq_some_iff.mp hy).2
  rw [List.take_succ_eq_append_getElem hi, List.filter_append, e, List.filter_cons]
  rfl
theorem filt_le {α : Type} {ys : List α} {i : Nat} (keep : α → Bool) : ((ys.take i).filter keep).length ≤ i := by
  have := List.length_filter_le keep (ys.take i)
  rw [List.length_take] at this
  omega
theorem lc_sel {α : Type} {K : PySem.W.Frag} {a : Addr} {xs : List V} {caps : List (Option Nat)} {g : TG} {tt : TT} {te : TE} {σ : L2.St} {H1 : Hp} {Q : VK} {D : Addr} (ys : List α) (keep : α → Bool) (out : α → V) (hD : H1 D = none) (ha : SqL K H1 a xs) (hl : xs.length = ys.length) (hn : xs.length ≤ 1000)
    (hs : ∀ (i : Nat) (x : V) (y : α) (H : Hp) (N : VK) (S : Hp → Prop), xs[i]? = some x → ys[i]? = some y → Same H1 H → (∀ H', Same H H' → keep y = true → N (out y) H') → (∀ H', Same H H' → keep y = false → S H') → g x (capS caps σ) H fun σ2 H2 => tt σ2 H2 fun ok H3 => (ok = true → te σ2 H3 N) ∧ (ok = false → S H3))
    (hd : ∀ H, Same H1 H → H D = some (.lst ((ys.filter keep).map out)) → Q (.ref D) H) : LCr (Itl K a) caps g tt te σ H1 Q D := by
  refine lc_list (K := K) (xs := xs) (fun i zs H' => Same H1 H' ∧ H' D = some (.lst zs) ∧ zs = ((ys.take i).filter keep).map out) ⟨same_new hD _, upd_same, rfl⟩ (fun i zs H' h => h.1.seq ha) ?_ ?_
  · rintro i x zs H' hlt hx ⟨sH, hDy, ez⟩
    obtain ⟨y, hy⟩ : ∃ y, ys[i]? = some y := ⟨_, List.getElem?_eq_getElem (by omega)⟩
    refine hs i x y H' _ _ hx hy sH (fun H2 s2 hk => ?_) (fun H2 s2 hk => ?_)
    · refine lcN.mk hlt (le1000' hn) (s2 _ _ hDy) (by rw [ez, List.length_map]; exact filt_le _) ⟨fun b' u e => ?_, upd_same, ?_⟩
      · rw [upd_ne (ne_of_none e hD)]
        exact s2 _ _ (sH b' u e)
      · rw [ez, filt_snoc keep hy, if_pos hk, List.map_append]
        rfl
    · refine lcS.mk hlt ⟨sH.trans s2, s2 _ _ hDy, ?_⟩
      rw [ez, filt_snoc keep hy, if_neg (by rw [hk]; exact Bool.false_ne_true), List.append_nil]
  · rintro zs H2 ⟨s2, hDy, ez⟩
    rw [List.take_of_length_le (by omega)] at ez
    rw [ez] at hDy
    exact hd H2 s2 hDy
end L2

set_option Elab.async false
set_option linter.all false
set_option maxRecDepth 100000
set_option maxHeartbeats 4000000
namespace K91
open PySem L2 PyProof.Rows
section
variable {P : Program} {w : World} {K : PySem.W.Frag} {mg : Str → Option Value} {base : Heap} {f : Addr} {fd : FuncData}
end
end K91

set_option Elab.async false
set_option linter.all false
set_option maxRecDepth 100000
set_option maxHeartbeats 4000000
namespace K91
open PySem L2 PyProof.Rows
section
variable {K : PySem.W.Frag} {c : C5}
end
section
variable {K : PySem.W.Frag} {ok : Addr → Prop} {H : Hp} {n : Nat}
end
end K91

set_option Elab.async false
set_option linter.all false
set_option maxRecDepth 100000
set_option maxHeartbeats 4000000
namespace L2
open PySem PySem.Spec PyProof.Rows
end L2
namespace K91
open PySem L2 PyProof.Rows
/-! ### items -/
section
variable {K : PySem.W.Frag} {H0 H' H'' : Hp} {l a b : Addr} {vs ys : List V} {ct : List Item} {ts : List Int} {ps : List (Str × Int)}
end
section
variable {P : Program} {w : World} {K : PySem.W.Frag} {mg : Str → Option Value} {base : Heap} {f : Addr} {fd : FuncData}
end
end K91

set_option Elab.async false
set_option linter.all false
set_option maxRecDepth 100000
set_option maxHeartbeats 4000000
namespace K91
open PySem L2 PyProof.Rows
section
variable {P : Program} {w : World} {K : PySem.W.Frag} {mg : Str → Option Value} {base : Heap} {f : Addr} {fd : FuncData}
end
end K91

set_option Elab.async false
set_option linter.all false
set_option maxRecDepth 100000
set_option maxHeartbeats 4000000
namespace L2
open PySem PySem.Spec PyProof.Rows PySem.Builtin
section
variable {prog : Program} {w : World} {A : Around} {E : Value → Shared → Prop} {s : Shared} {it l ea C t : Addr} {od : Option Addr} {tb : Value} {i : Nat} {items : Array Value} {Q : Option Value → Shared → Prop}
end
section
variable {prog : Program} {w : World} {A : Around} {E : Value → Shared → Prop} {s : Shared} {ea C tt : Addr} {od : Option Addr} {tb : Value}
end
end L2

set_option Elab.async false
set_option linter.all false
set_option maxRecDepth 100000
set_option maxHeartbeats 4000000
namespace L2
open PySem PySem.Spec PyProof.Rows
/-! ### range(a, b, c), c above 0 -/
section
variable {X : Cx} {tg : Expr}
end
end L2

set_option Elab.async false
set_option linter.all false
set_option maxRecDepth 100000
set_option maxHeartbeats 4000000
namespace L2
open PySem PySem.Spec PyProof.Rows
/-! ### blocks over rows that are paired with data -/
theorem zip_out {α : Type} {R : Addr → α → Prop} {us : List Addr} {rows : List α} (h : Paired R us rows) (keep : α → Bool) (out : α → V) : ((us.zip rows).filter fun p => keep p.2).map (fun p => out p.2) = (rows.filter keep).map out := by
  induction h with
  | nil => rfl
  | cons r t ih =>
    rename_i u y us ys
    rw [List.zip_cons_cons, List.filter_cons, List.filter_cons]
    cases hk : keep y with
    | true => rw [if_pos rfl, if_pos rfl, List.map_cons, List.map_cons, ih]
    | false => rw [if_neg Bool.false_ne_true, if_neg Bool.false_ne_true, ih]
theorem lc_zip {α : Type} {K : PySem.W.Frag} {a : Addr} {us : List Addr} {rows : List α} {caps : List (Option Nat)} {g : TG} {tt : TT} {te : TE} {σ : L2.St} {H1 : Hp} {Q : VK} {D : Addr} (R : Hp → Addr → α → Prop) (keep : α → Bool) (out : Addr → α → V) (hD : H1 D = none) (ha : H1 a = some (.lst (us.map V.ref))) (hu : Paired (R H1) us rows) (hn : rows.length ≤ 1000)
    (hs : ∀ (i : Nat) (u : Addr) (y : α) (H : Hp) (N : VK) (S : Hp → Prop), us[i]? = some u → rows[i]? = some y → R H1 u y → Same H1 H → (∀ H', Same H H' → keep y = true → N (out u y) H') → (∀ H', Same H H' → keep y = false → S H') → g (.ref u) (capS caps σ) H fun σ2 H2 => tt σ2 H2 fun ok H3 => (ok = true → te σ2 H3 N) ∧ (ok = false → S H3))
    (hd : ∀ H, Same H1 H → H D = some (.lst (((us.zip rows).filter fun p => keep p.2).map fun p => out p.1 p.2)) → Q (.ref D) H) : LCr (Itl K a) caps g tt te σ H1 Q D := by
  have hl : us.length = rows.length := hu.length
  have lz : (us.zip rows).length = rows.length := by rw [List.length_zip, hl, Nat.min_self]
  refine lc_sel (K := K) (xs := us.map V.ref) (us.zip rows) (fun p => keep p.2) (fun p => out p.1 p.2) hD (SqL.of ha) (by rw [List.length_map, lz, hl]) (by rw [List.length_map, hl]; exact hn) (fun i x y H N S hx hy sH n1 s1 => ?_) hd
  have hi : i < rows.length := by rw [← lz]; exact (List.getElem?_eq_some_iff.mp hy).1
  have e1 : (us.zip rows)[i]? = some (us[i], rows[i]) := by
    rw [List.getElem?_eq_getElem (by omega), List.getElem_zip]
  rw [e1] at hy
  cases hy
  have hu1 : us[i]? = some us[i] := List.getElem?_eq_getElem (by omega)
  rw [List.getElem?_map, hu1] at hx
  cases hx
  obtain ⟨d, hd', hr⟩ := Paired.get hu hu1
  have e2 : rows[i]? = some rows[i] := List.getElem?_eq_getElem hi
  rw [e2] at hd'
  cases hd'
  exact hs i us[i] rows[i] H N S hu1 e2 hr sH n1 s1
end L2

set_option Elab.async false
set_option linter.all false
set_option maxRecDepth 100000
set_option maxHeartbeats 4000000
namespace L2
open PySem PySem.Spec PyProof.Rows
end L2

set_option Elab.async false
set_option linter.all false
set_option maxRecDepth 100000
set_option maxHeartbeats 4000000
namespace L2
open PySem PySem.Spec PyProof.Rows
section
variable {X : Cx} {pins : List (Addr × Obj)} {σ : St} {e o : Expr} {es : List Expr} {ta : TE} {t : TA} {E : XK} {m : Str} {pos apos : Pos} {k : Nat} {f C : Addr} {fd : FuncData} {ps : List Str} {sp : Sp}
end
/-! ### xs.count(y), xs.index(y): flat things -/
end L2

set_option Elab.async false
set_option linter.all false
set_option maxRecDepth 100000
set_option maxHeartbeats 4000000
namespace L2
open PySem PySem.Spec PyProof.Rows
/-! ### zip over two lists -/
section
variable {X : Cx} {elts : List Expr} {x1 : Nat} {tpos : Pos}
end
end L2

set_option Elab.async false
set_option linter.all false
set_option maxRecDepth 100000
set_option maxHeartbeats 4000000
namespace L2
open PySem PySem.Spec PyProof.Rows
/-! ### dicts whose keys are tuples of texts and truths -/
end L2

set_option Elab.async false
set_option linter.all false
set_option maxRecDepth 100000
set_option maxHeartbeats 4000000
namespace L2
open PySem PySem.Spec PyProof.Rows
section
variable {P : Program} {w : World} {A : Around} {R : Result → Shared → Prop} {I : Addr} {fp wr : List Addr} {G : Array GenState → Array GenState → Prop} {n : Nat} {Pr : Nat → Value → Prop} {Sg : Nat → Shared → Prop}
end
end L2

set_option Elab.async false
set_option linter.all false
set_option maxRecDepth 100000
set_option maxHeartbeats 4000000
namespace L2
open PySem PySem.Spec PyProof.Rows
end L2

set_option Elab.async false
set_option linter.all false
set_option maxRecDepth 100000
set_option maxHeartbeats 4000000
namespace L2
open PySem PySem.Spec PyProof.Rows
end L2

set_option Elab.async false
set_option linter.all false
set_option maxRecDepth 100000
set_option maxHeartbeats 4000000
namespace L2
open PySem PySem.Spec PyProof.Rows
/-! ### xs == [] -/
end L2

set_option Elab.async false
set_option linter.all false
set_option maxRecDepth 100000
set_option maxHeartbeats 4000000
namespace L2
open PySem PySem.Spec PyProof.Rows
end L2

set_option Elab.async false
set_option linter.all false
set_option maxRecDepth 100000
set_option maxHeartbeats 4000000
namespace K91
open PySem L2 PyProof.Rows
/-! ### rows turned, a seat once more -/
/-! ### slices -/
end K91

set_option Elab.async false
set_option linter.all false
set_option maxRecDepth 100000
set_option maxHeartbeats 4000000
namespace K91
open PySem L2 PyProof.Rows
section
variable {P : Program} {w : World} {K : PySem.W.Frag} {mg : Str → Option Value} {base : Heap} {f CF N : Addr} {fd : FuncData} {c : C5}
end
end K91

set_option Elab.async false
set_option linter.all false
set_option maxRecDepth 100000
set_option maxHeartbeats 4000000
namespace K91
open PySem L2 PyProof.Rows
section
variable {P : Program} {w : World} {K : PySem.W.Frag} {mg : Str → Option Value} {base : Heap} {f CF : Addr} {fd : FuncData} {c : C5}
end
end K91

set_option Elab.async false
set_option linter.all false
set_option maxRecDepth 100000
set_option maxHeartbeats 4000000
namespace K91
open PySem L2 PyProof.Rows
/-! ### the first numbers, bit by bit -/
/-! ### what is wrong with a name -/
/-! ### the lacking -/
end K91

set_option Elab.async false
set_option linter.all false
set_option maxRecDepth 100000
set_option maxHeartbeats 4000000
namespace K91
open PySem L2 PyProof.Rows
/-! ### the names told -/
end K91

set_option Elab.async false
set_option linter.all false
set_option maxRecDepth 100000
set_option maxHeartbeats 4000000
namespace L2
open PySem PySem.Spec PyProof.Rows
theorem op_isnotIB {X : Cx} : OpR X (compareOp .IsNot) (fun x y H Q => ∃ i b, x = .int i ∧ y = .bl b ∧ Q (.bl true) H) := by
  intro pins s σ H x y v u Q I rx ry h
  obtain ⟨a, b, rfl, rfl, q⟩ := h
  obtain ⟨t, rfl⟩ := rx
  cases ry
  have e : wpAny (model X.prog X.w) X.A (pure (Value.bool (!(Value.int a t == Value.bool b)))) (EP X pins σ Q) X.xe s := wpAny_pure ⟨.bl true, H, I, rfl, q⟩
  exact e
end L2
namespace K91
open PySem L2 PyProof.Rows
structure TxtL (mg : Str → Option Value) : Prop where
  isi : mg "isinstance" = none
  int : mg "int" = none
  len : mg "len" = none
  range : mg "range" = none
  list : mg "list" = none
  zip : mg "zip" = none
  max : mg "max" = none
def spOneI : Sp := fun vs H Q _ => ∃ i : Int, vs = [.int i] ∧ Q (.bl true) H
def spMix : Sp := fun vs H Q _ => ∃ (c : Int) (k : Nat), vs = [.int c, .int k] ∧ k ≤ 1000 ∧ ∀ m : Int, 0 ≤ m → m < 2147483587 → Q (.int m) H
section
variable {P : Program} {w : World} {K : PySem.W.Frag} {mg : Str → Option Value} {base : Heap} {f : Addr} {fd : FuncData}
theorem scNth : FnScope ["_law_script", "_law_k"] ["_law_script", "_law_k"] (defScope sNth) := ⟨rfl, rfl, rfl, by decide +kernel, rfl, by decide +kernel, by decide +kernel⟩
theorem scNum : FnScope ["_law_found"] ["_law_found"] (defScope sNum) := ⟨rfl, rfl, rfl, by decide +kernel, rfl, by decide +kernel, by decide +kernel⟩
theorem ok_num (F : Fun K "_law_is_number" "_law_is_number" sNum f fd) (T : TxtL mg) : FnOk P w K mg base CX0 1 f fd ["_law_found"] spOneI := by
  refine F.ok scNum (fun vs H Q E h => ?_) (fun cdv A outer s H vs Q E hr h => ?_)
  · obtain ⟨i, rfl, _⟩ := h
    rfl
  obtain ⟨i, rfl, q⟩ := h
  refine ⟨_, pss_one (ps_ret (pe_and (cB call_isinst T.isi boot_isinstance (ac (pv 0) (ac (pe_bltn (v := .ty "int") rfl T.int PyProof.Rows.boot_int rfl) pa_nil)))
    (pe_and (pe_cmpR op_isnotIB (pv 0) pe_bl (nomark _)) (pe_one (pe_cmpR op_isnotIB (pv 0) pe_bl (nomark _)))))), ?_⟩
  refine ⟨_, rfl, _, _, _, _, rfl, .int i, kt_int_int K, _, rfl, ?_⟩
  refine iteT ?_
  refine ⟨_, rfl, _, _, rfl, rfl, _, rfl, ?_⟩
  refine iteT ?_
  exact ⟨_, rfl, _, _, rfl, rfl, q⟩
theorem scMix : FnScope ["_law_cell", "_law_k", "_law_number"] ["_law_cell", "_law_k"] (defScope sMix) := ⟨rfl, rfl, rfl, by decide +kernel, rfl, by decide +kernel, by decide +kernel⟩
theorem ok_mix (F : Fun K "_law_mix" "_law_mix" sMix f fd) : FnOk P w K mg base CX0 1 f fd ["_law_cell", "_law_k"] spMix := by
  refine F.ok scMix (fun vs H Q E h => ?_) (fun cdv A outer s H vs Q E hr h => ?_)
  · obtain ⟨c, k, rfl, _⟩ := h
    rfl
  obtain ⟨c, k, rfl, hk, q⟩ := h
  refine ⟨_, pss_cons (ps_set (i := 2) scMix.nd rfl (Or.inl rfl) (pe_op op_mod (pe_op op_add (pe_op op_add (pe_op op_mul (pe_op op_mod (pv 0) pe_int) pe_int) (pe_op op_mul (pe_op op_mul (pv 1) (pv 1)) pe_int)) (pe_op op_mul pe_int (pv 1))) pe_int))
    (pss_one (ps_ret (pe_op op_mod (pe_op op_add (pe_op op_add (pe_op op_mul (pv 2) (pv 2)) (pe_op op_mul pe_int (pv 2))) (pv 1)) pe_int))), ?_⟩
  have k0 : (0 : Int) ≤ (k : Int) := by omega
  have k1 : (k : Int) ≤ 1000 := by omega
  refine ⟨_, rfl, _, _, rfl, rfl, (by show (0 : Int) < 2147483629; decide), _, _, rfl, rfl, .inr ⟨by decide, by decide⟩, _, rfl, _, rfl, _, _, rfl, rfl, .inl ⟨by omega, by omega⟩, _, _, rfl, rfl, .inr ⟨by decide, by decide⟩, _, _, rfl, rfl, _, rfl, _, _, rfl, rfl, .inl ⟨by decide, by decide⟩, _, _, rfl, rfl, _, _, rfl, rfl, (by show (0 : Int) < 2147483647; decide), ?_⟩
  have h1 : 0 ≤ (c % 2147483629 * 48271 + (k : Int) * (k : Int) * 7919 + 31 * (k : Int)) % 2147483647 := Int.emod_nonneg _ (by decide)
  have h2 : (c % 2147483629 * 48271 + (k : Int) * (k : Int) * 7919 + 31 * (k : Int)) % 2147483647 < 2147483647 := Int.emod_lt_of_pos _ (by decide)
  refine ⟨_, rfl, _, rfl, _, _, rfl, rfl, .inl ⟨by omega, by omega⟩, _, rfl, _, _, rfl, rfl, .inl ⟨by decide, by decide⟩, _, _, rfl, rfl, _, rfl, _, _, rfl, rfl, _, _, rfl, rfl, (by show (0 : Int) < 2147483587; decide), q _ (Int.emod_nonneg _ (by decide)) (Int.emod_lt_of_pos _ (by decide))⟩
end
end K91

set_option Elab.async false
set_option linter.all false
set_option maxRecDepth 100000
set_option maxHeartbeats 4000000
namespace K91
open PySem L2 PyProof.Rows

theorem app_len (x y : Str) : (x ++ y).length = x.length + y.length := by
  show (x.cps ++ y.cps).size = _
  rw [Array.size_append]; rfl
theorem app_cps (x y : Str) : (x ++ y).cps.toList = x.cps.toList ++ y.cps.toList := by
  show (x.cps ++ y.cps).toList = _
  rw [Array.toList_append]
theorem nil_cps : (Str.ofString "").cps.toList = [] := by decide +kernel
theorem int_get {ts : List Int} {i : Nat} {x : V} (h : (ts.map V.int)[i]? = some x) : ∃ t, ts[i]? = some t ∧ x = .int t := by
  rw [List.getElem?_map] at h
  cases e : ts[i]? with
  | none => rw [e] at h; cases h
  | some it => rw [e] at h; exact ⟨it, rfl, (Option.some.inj h).symm⟩
theorem pairs_same {K : PySem.W.Frag} {ok : Addr → Prop} {H H' : Hp} {zs : List V} {ps : List (Str × Int)} (s : Same H H') (r : Paired (Says K ok H 1) zs (ps.map pairD)) : Paired (Says K ok H' 1) zs (ps.map pairD) := Paired.imp' (fun _ _ z => z.same s) r
theorem says_ok {K : PySem.W.Frag} {ok ok' : Addr → Prop} {H : Hp} (hk : ∀ b, ok b → H b ≠ none → ok' b) {n : Nat} {x : V} {d : Dt} (h : Says K ok H n x d) : Says K ok' H n x d :=
  h.frame (fun a xs z => z) fun a xs oa z => ⟨hk a oa (by rw [z]; intro q; cases q), z⟩
theorem pairs_ok {K : PySem.W.Frag} {ok ok' : Addr → Prop} {H3 : Hp} : ∀ {ps : List (Str × Int)} {zs : List V}, Paired (Says K ok H3 1) zs (ps.map pairD) → Paired (Says K ok' H3 1) zs (ps.map pairD)
  | [], _, r => by cases r; exact .nil
  | p :: ps, _, r => by
    cases r with
    | cons h r =>
      refine .cons ?_ (pairs_ok r)
      obtain ⟨b, ws, rfl, hS', r'⟩ := says_tup h
      exact .tup hS' (Paired.imp' (fun _ _ z => z) r')
theorem ints_says {K : PySem.W.Frag} {ok : Addr → Prop} {H : Hp} {n : Nat} : ∀ (ts : List Int), Paired (Says K ok H n) (ts.map V.int) (ts.map Dt.int)
  | [] => .nil
  | _ :: ts => .cons .int (ints_says ts)
theorem take_snocL {α : Type} {l : List α} {i : Nat} {x : α} (h : l[i]? = some x) : l.take (i + 1) = l.take i ++ [x] := by
  rw [List.take_add_one, h]; rfl
/-- what is said stays, where one list is written that it does not look at -/
theorem sqT_keep {K : PySem.W.Frag} {H3 : Hp} {o : HO} {l b : Addr} {zs : List V} (hl : H3 l = none ∨ (∃ zs, H3 l = some (.lst zs))) (hz : SqT K H3 b zs) : SqT K (upd H3 l o) b zs := by
  rcases hz with (z | ⟨u, z⟩) | z
  · refine .inl (.inl ?_)
    have : b ≠ l := fun e => by
      subst e
      rcases hl with e | ⟨_, e⟩
      · rw [e] at z; cases z
      · rw [e] at z; cases z
    rw [upd_ne this]; exact z
  · refine .inl (.inr ⟨u, ?_⟩)
    have : b ≠ l := fun e => by
      subst e
      rcases hl with e | ⟨_, e⟩
      · rw [e] at z; cases z
      · rw [e] at z; cases z
    rw [upd_ne this]; exact z
  · exact .inr z
theorem says_upd {K : PySem.W.Frag} {ok ok' : Addr → Prop} {H : Hp} {o : HO} {l : Addr} (hl : H l = none ∨ (∃ zs, H l = some (.lst zs))) (hk : ∀ b, ok b → H b ≠ none → ok' b ∧ b ≠ l) {n : Nat} {x : V} {d : Dt} (h : Says K ok H n x d) : Says K ok' (upd H l o) n x d :=
  h.frame (fun a xs z => sqT_keep hl z) fun a xs oa z => by
    have := hk a oa (by rw [z]; intro q; cases q)
    exact ⟨this.1, by rw [upd_ne this.2]; exact z⟩
theorem pairs_keep {K : PySem.W.Frag} {ok : Addr → Prop} {H3 : Hp} {o : HO} {l : Addr} (hl : H3 l = none ∨ (∃ zs, H3 l = some (.lst zs))) : ∀ {ps : List (Str × Int)} {zs : List V}, Paired (Says K ok H3 1) zs (ps.map pairD) → Paired (Says K ok (upd H3 l o) 1) zs (ps.map pairD)
  | [], _, r => by cases r; exact .nil
  | p :: ps, _, r => by
    cases r with
    | cons h r =>
      refine .cons ?_ (pairs_keep hl r)
      obtain ⟨b, ws, rfl, hS', r'⟩ := says_tup h
      exact .tup (sqT_keep hl hS') (Paired.imp' (fun _ _ z => z) r')

end K91

set_option Elab.async false
set_option linter.all false
set_option maxRecDepth 100000
set_option maxHeartbeats 4000000
namespace K91
open PySem L2 PyProof.Rows
theorem abc_at : ∀ m, m < 26 → (Str.ofString "abcdefghijklmnopqrstuvwxyz").cps.toList[m]? = some (97 + m) := by decide +kernel
theorem ab_at : ∀ m, m < 2 → (Str.ofString "ab").cps.toList[m]? = some (97 + m) := by decide +kernel
/-- an alphabet of n letters -/
structure Abc (z : Str) (n : Nat) : Prop where
  len : z.length = n
  pos : 0 < n
  le : n ≤ 26
  at_ : ∀ m, m < n → z.cps.toList[m]? = some (97 + m)
theorem abc26 : Abc "abcdefghijklmnopqrstuvwxyz" 26 := ⟨by decide +kernel, by decide, by decide, abc_at⟩
theorem abc2 : Abc "ab" 2 := ⟨by decide +kernel, by decide, by decide, ab_at⟩
theorem name_app {z : Str} {ch : Nat} (hz : ∀ c ∈ z.cps.toList, 97 ≤ c ∧ c ≤ 122) (hc : 97 ≤ ch ∧ ch ≤ 122) : ∀ c ∈ (z ++ (⟨#[ch]⟩ : Str)).cps.toList, 97 ≤ c ∧ c ≤ 122 := by
  intro c h
  rw [app_cps] at h
  rcases List.mem_append.mp h with h | h
  · exact hz c h
  · have : c = ch := by simpa using h
    rw [this]; exact hc
def spPool (K : PySem.W.Frag) : Sp := fun vs H Q _ => ∃ c : Int, vs = [.int c] ∧ ∀ (r : Addr) (zs : List Str) (H' : Hp), Same H H' → H r = none → H' r = some (.lst (zs.map V.str)) → zs.Nodup → (∀ z ∈ zs, nameB z = true) → 0 < zs.length → zs.length ≤ 30 → Q (.ref r) H'
theorem inStrs {z : Str} : ∀ {zs : List Str}, inV (.str z) (zs.map V.str) = decide (z ∈ zs)
  | [] => by simp [inV]
  | y :: ys => by
    have ih := inStrs (z := z) (zs := ys)
    show (eqV (.str y) (.str z) || inV (.str z) (ys.map V.str)) = _
    rw [ih]
    have : eqV (.str y) (.str z) = decide (z = y) := by
      show (y == z) = _
      rw [Bool.eq_iff_iff, beq_iff_eq, decide_eq_true_eq]
      exact ⟨Eq.symm, Eq.symm⟩
    rw [this]
    simp
theorem flatStrs : ∀ {zs : List Str}, (zs.map V.str).all flatV = true
  | [] => rfl
  | _ :: ys => by
    show (true && (ys.map V.str).all flatV) = true
    rw [flatStrs]
    rfl
section
variable {P : Program} {w : World} {K : PySem.W.Frag} {mg : Str → Option Value} {base : Heap} {f : Addr} {fd : FuncData}
theorem scPool : FnScope ["_law_cell", "_law_letters", "_law_pool_here", "_law_k", "_law_number", "_law_rest", "_law_name", "_law_j"] ["_law_cell"] (defScope sPool) := ⟨rfl, rfl, rfl, by decide +kernel, rfl, by decide +kernel, by decide +kernel⟩
theorem ok_pool {g : Addr} {gd : FuncData} (F : Fun K "_law_pool" "_law_pool" sPool f fd) (T : TxtL mg) (cM : Callee P w K mg base 1 "_law_mix" g gd ["_law_cell", "_law_k"] spMix) : FnOk P w K mg base CX0 2 f fd ["_law_cell"] (spPool K) := by
  refine F.ok scPool (fun vs H Q E h => ?_) (fun cdv A outer s H vs Q E hr h => ?_)
  · obtain ⟨c, rfl, _⟩ := h
    rfl
  obtain ⟨cc, rfl, q⟩ := h
  refine ⟨_, pss_cons (ps_set (i := 1) scPool.nd rfl (Or.inl rfl) (pe_ix ix_list (pe_lst (ac pe_str (ac pe_str pa_nil))) (pe_op op_mod (pv 0) pe_int) (fun _ _ => rfl)))
    (pss_cons (ps_set (i := 2) scPool.nd rfl (Or.inl rfl) (pe_lst pa_nil))
    (pss_cons (ps_for PassesOwn.never rfl (pi_range1 rfl T.range (ac (pe_ix ix_list (pe_lst (ac pe_int (ac pe_int pa_nil))) (cTy call_int1 T.int PyProof.Rows.boot_int (ac (pe_cmpR op_eq (pe_op op_mod (pv 0) pe_int) pe_int (nomark _)) pa_nil)) (fun _ _ => rfl)) pa_nil)) (pg_name (i := 3) scPool.nd rfl (Or.inl rfl))
      (pss_cons (ps_set (i := 4) scPool.nd rfl (Or.inl rfl) (cF cM hr (ac (pv 0) (ac (pv 3) pa_nil))))
      (pss_cons (ps_set (i := 5) scPool.nd rfl (Or.inl rfl) (pe_op op_fdiv (pv 4) pe_int))
      (pss_cons (ps_set (i := 6) scPool.nd rfl (Or.inl rfl) pe_str)
      (pss_cons (ps_for PassesOwn.never rfl (pi_range1 rfl T.range (ac (pe_op op_add pe_int (pe_op op_mod (pv 4) (pe_ix ix_list (pe_lst (ac pe_int (ac pe_int pa_nil))) (pe_op op_mod (pv 0) pe_int) (fun _ _ => rfl)))) pa_nil)) (pg_name (i := 7) scPool.nd rfl (Or.inl rfl))
        (pss_cons (ps_set (i := 6) scPool.nd rfl (Or.inl rfl) (pe_op op_add_str (pv 6) (pe_ix ix_str (pv 1) (pe_op op_mod (pv 5) (cB call_len_str T.len PySem.boot_len (ac (pv 1) pa_nil))) (fun _ _ => rfl))))
        (pss_one (ps_set (i := 5) scPool.nd rfl (Or.inl rfl) (pe_op op_fdiv (pv 5) (cB call_len_str T.len PySem.boot_len (ac (pv 1) pa_nil)))))))
      (pss_one (ps_if (pt_cmpR op_notIn_seq (pv 6) (pv 2) (by with_unfolding_all rfl)) (pss_one (ps_expr (pe_bm PySem.F.plainAttrs_list PySem.F.slot_list_append PySem.F.type_list_append mt_append (pv 2) (ac (pv 6) pa_nil)))) pss_nil)))))))
    (pss_one (ps_ret (pv 2))))), ?_⟩
  refine ⟨(by show 2 ≤ sizeLine; decide), fun l0 hl0 => ?_⟩
  have s0 := same_new hl0 (.lst [.str "ab", .str "abcdefghijklmnopqrstuvwxyz"])
  have g0 : upd H l0 (.lst [.str "ab", .str "abcdefghijklmnopqrstuvwxyz"]) l0 = some (.lst [.str "ab", .str "abcdefghijklmnopqrstuvwxyz"]) := upd_same
  generalize upd H l0 (.lst [.str "ab", .str "abcdefghijklmnopqrstuvwxyz"]) = H0 at s0 g0 ⊢
  obtain ⟨L, nL, hA, bb, hb, hbp, hb8, hat, hatb⟩ : ∃ (L : Str) (nL : Nat), Abc L nL ∧ ∃ bb : Nat, (bb = 3 ∨ bb = 8) ∧ 0 < bb ∧ bb ≤ 8 ∧ atI ([.str "ab", .str "abcdefghijklmnopqrstuvwxyz"] : List V) (cc % 2) = some (.str L) ∧ atI ([.int 3, .int 8] : List V) (cc % 2) = some (.int (bb : Nat)) := by
    have h : cc % 2 = 0 ∨ cc % 2 = 1 := by omega
    rcases h with h | h
    · exact ⟨"ab", 2, abc2, 3, .inl rfl, by decide, by decide, by rw [h]; rfl, by rw [h]; rfl⟩
    · exact ⟨_, 26, abc26, 8, .inr rfl, by decide, by decide, by rw [h]; rfl, by rw [h]; rfl⟩
  refine ⟨_, rfl, _, _, rfl, rfl, (by show (0 : Int) < 2; decide), l0, _, _, .str L, rfl, rfl, SqL.of g0, hat, ?_⟩
  refine ⟨(by show 0 ≤ sizeLine; decide), fun lp hlp => ?_⟩
  have s1 := same_new hlp (.lst [])
  have g1 : upd H0 lp (.lst []) lp = some (.lst []) := upd_same
  dsimp only [gName]
  generalize upd H0 lp (.lst []) = H1 at s1 g1 ⊢
  have s01 := s0.trans s1
  have nlp : H lp = none := s0.free hlp
  refine ⟨(by show 2 ≤ sizeLine; decide), fun lq hlq => ⟨_, rfl, _, _, rfl, rfl, (by show (0 : Int) < 16; decide), rfl, ?_⟩⟩
  have sq := same_new hlq (.lst [.int 12, .int 30])
  refine .inr ⟨_, rfl, ?_⟩
  obtain ⟨mm, hm0, hm1, hatq⟩ : ∃ mm : Nat, 0 < mm ∧ mm ≤ 30 ∧ atI [V.int 12, V.int 30] (if decide (V.int (cc % 16) = V.int 5) = true then 1 else 0) = some (.int mm) := by
    by_cases z : decide (V.int (cc % 16) = V.int 5) = true
    · exact ⟨30, by decide, by decide, by rw [if_pos z]; rfl⟩
    · exact ⟨12, by decide, by decide, by rw [if_neg z]; rfl⟩
  have s01 := s01.trans sq
  have g1 := sq _ _ g1
  have gq : upd H1 lq (.lst [.int 12, .int 30]) lq = some (.lst [.int 12, .int 30]) := upd_same
  generalize upd H1 lq (.lst [.int 12, .int 30]) = H1' at s01 g1 gq ⊢
  refine ⟨lq, _, _, .int mm, rfl, rfl, SqL.of gq, hatq, (mm : Int), rfl, by omega, by omega, ?_⟩
  rw [show ((mm : Int)).toNat = mm from rfl]
  refine for_range (n := mm) (fun i σ H' => ∃ (zs : List Str) (v3 v4 v5 v6 v7 : Option V), σ = [some (.int cc), some (.str L), some (.ref lp), v3, v4, v5, v6, v7] ∧ Same H H' ∧ H' lp = some (.lst (zs.map V.str)) ∧ zs.Nodup ∧ (∀ z ∈ zs, nameB z = true) ∧ zs.length ≤ i ∧ (0 < i → 0 < zs.length)) ⟨[], _, _, _, _, _, rfl, s01, g1, List.nodup_nil, (fun _ h => nomatch h), Nat.le_refl _, fun h => absurd h (by decide)⟩ ?_ ?_
  rotate_left
  · rintro σ H2 ⟨zs, v3, v4, v5, v6, v7, rfl, s2, e2, nd, nm, ln, l0'⟩
    exact ⟨_, rfl, q lp zs H2 s2 nlp e2 nd nm (l0' hm0) (by omega)⟩
  rintro i σ H2 hi ⟨zs, v3, v4, v5, v6, v7, rfl, s2, e2, nd, nm, ln, l0'⟩
  rw [Int.zero_add]
  refine ⟨_, rfl, _, rfl, cc, i, rfl, by omega, fun m m0 m1 => ?_⟩
  refine ⟨_, rfl, _, _, rfl, rfl, ⟨by decide, by decide⟩, ?_⟩
  have b0 : 0 ≤ m % (bb : Int) := Int.emod_nonneg _ (by omega)
  have b1 : m % (bb : Int) < (bb : Int) := Int.emod_lt_of_pos _ (by omega)
  refine ⟨_, rfl, (by show 2 ≤ sizeLine; decide), fun l3 hl3 => ?_⟩
  have s3 := same_new hl3 (.lst [.int 3, .int 8])
  have g3 : upd H2 l3 (.lst [.int 3, .int 8]) l3 = some (.lst [.int 3, .int 8]) := upd_same
  generalize upd H2 l3 (.lst [.int 3, .int 8]) = H3 at s3 g3 ⊢
  have s13 := s2.trans s3
  have e3 := s3 _ _ e2
  refine ⟨_, rfl, _, _, rfl, rfl, (by show (0 : Int) < 2; decide), l3, _, _, .int (bb : Nat), rfl, rfl, SqL.of g3, hatb, _, _, rfl, rfl, (by show (0 : Int) < (bb : Int); omega), _, _, rfl, rfl, 1 + m % (bb : Int), rfl, by omega, by omega, ?_⟩
  have hn : (1 + m % (bb : Int)).toNat ≤ 8 ∧ 1 ≤ (1 + m % (bb : Int)).toNat := by omega
  generalize (1 + m % (bb : Int)).toNat = n at hn
  refine for_range (n := n) (fun j σ H' => ∃ (r : Int) (z : Str) (v7 : Option V), σ = [some (.int cc), some (.str L), some (.ref lp), some (.int (i : Nat)), some (.int m), some (.int r), some (.str z), v7] ∧ H' = H3 ∧ z.length = j ∧ ∀ c ∈ z.cps.toList, 97 ≤ c ∧ c ≤ 122)
    ⟨m / 8, "", _, rfl, rfl, rfl, fun c hc => by rw [show ("" : Str).cps.toList = [] from nil_cps] at hc; cases hc⟩ ?_ ?_
  · rintro j σ H' hj ⟨r, z, v7, rfl, rfl, hl, hc⟩
    have lenL : (L.length : Int) = (nL : Int) := by rw [hA.len]
    have szL : L.length ≤ sizeLine := by rw [hA.len]; exact le1000 (by have := hA.le; omega)
    have p0 := hA.pos
    have p26 := hA.le
    have d0 : 0 ≤ r % (nL : Int) := Int.emod_nonneg _ (by omega)
    have d1 : r % (nL : Int) < (nL : Int) := Int.emod_lt_of_pos _ (by omega)
    obtain ⟨k, hk⟩ := Int.eq_ofNat_of_zero_le d0
    have hkn : k < nL := by omega
    refine ⟨_, rfl, _, rfl, _, rfl, _, rfl, L, rfl, szL, _, _, rfl, rfl, (by rw [lenL]; omega), L, _, 97 + k, rfl, rfl, szL, (by rw [lenL, hk]; exact atI_nat (hA.at_ k hkn)), _, _, rfl, rfl, (by rw [hl]; exact le1000 (by show j + 1 ≤ 1000; omega)), ?_⟩
    refine ⟨_, rfl, _, rfl, L, rfl, szL, _, _, rfl, rfl, ⟨by rw [lenL]; omega, by rw [lenL]; omega⟩, ?_⟩
    refine ⟨_, _, _, rfl, rfl, ?_, name_app hc (by omega)⟩
    rw [app_len, hl]
    rfl
  · rintro σ H' ⟨r, z, v7, rfl, rfl, hl, hc⟩
    have hzn : nameB z = true := nameB_iff.mpr ⟨by omega, by omega, hc⟩
    refine ⟨_, rfl, _, rfl, lp, _, rfl, .inl (SqL.of e3), rfl, flatStrs, _, rfl, ?_⟩
    by_cases hm : z ∈ zs
    · refine iteC (by rw [if_pos rfl, inStrs, decide_eq_true hm]; rfl) ?_
      exact ⟨zs, _, _, _, _, _, rfl, s13, e3, nd, nm, Nat.le_succ_of_le ln, fun _ => List.length_pos_of_mem hm⟩
    · refine iteB (by rw [if_pos rfl, inStrs, decide_eq_false hm]; rfl) ?_
      refine ⟨_, rfl, .inl ⟨rfl, _, SqL.of e3⟩, _, rfl, lp, _, _, rfl, rfl, e3, small1000 (by rw [List.length_map]; omega), ?_⟩
      refine ⟨zs ++ [z], _, _, _, _, _, rfl, fun b u e => by rw [upd_ne (ne_of_none e nlp)]; exact s13 _ _ e, by rw [upd_same, List.map_append]; rfl, List.nodup_append.mpr ⟨nd, by simp, fun x hx y hy e => hm (by rw [← List.mem_singleton.mp hy, ← e]; exact hx)⟩, fun y hy => ?_, by rw [List.length_append]; exact Nat.succ_le_succ ln, fun _ => by rw [List.length_append]; exact Nat.succ_pos _⟩
      rcases List.mem_append.mp hy with hy | hy
      · exact nm y hy
      · rw [List.mem_singleton.mp hy]; exact hzn
end
end K91

set_option Elab.async false
set_option linter.all false
set_option maxRecDepth 100000
set_option maxHeartbeats 4000000
namespace K91
open PySem L2 PyProof.Rows
/-! ### in order -/
theorem ord_cons {l g : Nat} {r : Rw} {rs : List Rw} (hg : grp r.k = g) (hb : badAt l g = false) (h : ordOk g rs = true) : ordOk l (r :: rs) = true := by
  show (!badAt l (grp r.k) && ordOk (grp r.k) rs) = true
  rw [hg, hb, h]
  rfl
theorem ord_even {g : Nat} (he : badAt g g = false) : ∀ (xs ys : List Rw) (l : Nat), badAt l g = false → (∀ r ∈ xs, grp r.k = g) → ordOk l ys = true → ordOk g ys = true → ordOk l (xs ++ ys) = true
  | [], _, _, _, _, h1, _ => h1
  | r :: rs, ys, l, hb, hg, _, h2 => ord_cons (hg r List.mem_cons_self) hb (ord_even he rs ys g he (fun x hx => hg x (List.mem_cons_of_mem _ hx)) h2 h2)
theorem ord_odd {g l : Nat} {xs ys : List Rw} (hl : xs.length ≤ 1) (hb : badAt l g = false) (hg : ∀ r ∈ xs, grp r.k = g) (h1 : ordOk l ys = true) (h2 : ordOk g ys = true) : ordOk l (xs ++ ys) = true := by
  match xs, hl with
  | [], _ => exact h1
  | [r], _ => exact ord_cons (hg r List.mem_cons_self) hb h2
theorem ord_all {xs0 xs1 xs2 xs3 : List Rw} (g0 : ∀ r ∈ xs0, grp r.k = 0) (g1 : ∀ r ∈ xs1, grp r.k = 1) (l1 : xs1.length ≤ 1) (g2 : ∀ r ∈ xs2, grp r.k = 2) (g3 : ∀ r ∈ xs3, grp r.k = 3) (l3 : xs3.length ≤ 1) : ordOk 0 (xs0 ++ (xs1 ++ (xs2 ++ xs3))) = true := by
  have h3 : ∀ l, l ≤ 2 → ordOk l xs3 = true := fun l hl => by
    have := ord_odd (g := 3) (l := l) (ys := []) l3 (by match l, hl with | 0, _ => rfl | 1, _ => rfl | 2, _ => rfl) g3 rfl rfl
    rwa [List.append_nil] at this
  have h2 : ∀ l, l ≤ 1 → ordOk l (xs2 ++ xs3) = true := fun l hl => ord_even (g := 2) rfl xs2 xs3 l (by match l, hl with | 0, _ => rfl | 1, _ => rfl) g2 (h3 l (by omega)) (h3 2 (by omega))
  have h1 : ordOk 0 (xs1 ++ (xs2 ++ xs3)) = true := ord_odd (g := 1) l1 rfl g1 (h2 0 (by omega)) (h2 1 (by omega))
  exact ord_even (g := 0) rfl xs0 _ 0 rfl g0 h1 h1
theorem grp_nm {k : Nat} (hk : k < 5) (h : byNm k = true) : grp k = 0 ∨ grp k = 2 := by
  rcases lt5 hk with rfl | rfl | rfl | rfl | rfl <;> first | (exact .inl rfl) | (exact .inr rfl) | (cases h)
theorem nms_nil {xs : List Rw} {g : Nat} (hg : ∀ r ∈ xs, r.ok ∧ grp r.k = g) (h : g % 2 = 1) : nms xs = [] := by
  unfold nms
  rw [List.filter_eq_nil_iff.mpr (fun r hr e => ?_)]
  · rfl
  · obtain ⟨ho, q⟩ := hg r hr
    rcases grp_nm ho.1 e with z | z <;> rw [z] at q <;> rw [← q] at h <;> cases h

/-! ### a form as it grows -/
structure FS where
  (P T G B : List Rw) (L : List Str)
def FS.add (S : FS) (k : Nat) (z : Str) (b : Bool) : FS := match k with
  | 0 => { S with P := S.P ++ [⟨0, z, b⟩] }
  | 1 => { S with P := S.P ++ [⟨1, z, b⟩], L := S.L ++ [z] }
  | 2 => { S with T := [⟨2, z, b⟩] }
  | 3 => { S with G := S.G ++ [⟨3, z, b⟩], L := S.L ++ [z] }
  | _ => { S with B := [⟨4, z, b⟩] }
structure FM (i : Nat) (S : FS) : Prop where
  okP : ∀ r ∈ S.P, r.ok ∧ grp r.k = 0
  okT : ∀ r ∈ S.T, r.ok ∧ grp r.k = 1
  okG : ∀ r ∈ S.G, r.ok ∧ grp r.k = 2
  okB : ∀ r ∈ S.B, r.ok ∧ grp r.k = 3
  lT : S.T.length ≤ 1
  lB : S.B.length ≤ 1
  nd : (nms S.P ++ nms S.G).Nodup
  sn : ∀ z ∈ nms S.P ++ nms S.G, z ∈ S.L
  ln : S.P.length + S.T.length + S.G.length + S.B.length ≤ i
  lL : S.L.length ≤ i
theorem mem_snoc {α : Type} {xs : List α} {y : α} {p : α → Prop} (h : ∀ x ∈ xs, p x) (hy : p y) : ∀ x ∈ xs ++ [y], p x := fun x hx => by
  rcases List.mem_append.mp hx with hx | hx
  · exact h x hx
  · rw [List.mem_singleton.mp hx]; exact hy
theorem FM.zero : FM 0 ⟨[], [], [], [], []⟩ := by
  refine ⟨?_, ?_, ?_, ?_, ?_, ?_, ?_, ?_, ?_, ?_⟩ <;> first | exact (fun _ h => nomatch h) | exact Nat.zero_le _ | exact List.nodup_nil | exact Nat.le_refl _
theorem nd_mid {a b : List Str} {z : Str} (h : (a ++ b).Nodup) (hz : z ∉ a ++ b) : (a ++ [z] ++ b).Nodup := by
  have p : (a ++ [z] ++ b).Perm (z :: (a ++ b)) := by
    rw [List.append_assoc]
    exact List.perm_middle
  exact p.nodup_iff.mpr (List.nodup_cons.mpr ⟨hz, h⟩)
theorem FM.add {i : Nat} {S : FS} {k : Nat} {z : Str} {b : Bool} (h : FM i S) (hk : k < 5) (hz : nameB z = true) (hn : byNm k = true → z ∉ S.L) : FM (i + 1) (S.add k z b) := by
  have ln := h.ln
  have lL := h.lL
  have lT := h.lT
  have lB := h.lB
  match k, hk with
  | 0, _ =>
    have e : nms (S.P ++ [⟨0, z, b⟩]) = nms S.P := by rw [nms_app, nms_one]; simp [byNm]
    exact ⟨mem_snoc h.okP ⟨⟨Nat.lt_of_sub_eq_succ rfl, hz⟩, rfl⟩, h.okT, h.okG, h.okB, h.lT, h.lB, by show (nms (S.P ++ _) ++ nms S.G).Nodup; rw [e]; exact h.nd, by show ∀ y ∈ nms (S.P ++ _) ++ nms S.G, y ∈ S.L; rw [e]; exact h.sn,
      by show (S.P ++ [_]).length + S.T.length + S.G.length + S.B.length ≤ i + 1; rw [List.length_append, List.length_singleton]; omega, Nat.le_succ_of_le h.lL⟩
  | 1, _ =>
    have e : nms (S.P ++ [⟨1, z, b⟩]) = nms S.P ++ [z] := by rw [nms_app, nms_one]; simp [byNm]
    have nz : z ∉ nms S.P ++ nms S.G := fun m => hn rfl (h.sn z m)
    refine ⟨mem_snoc h.okP ⟨⟨Nat.lt_of_sub_eq_succ rfl, hz⟩, rfl⟩, h.okT, h.okG, h.okB, h.lT, h.lB, by show (nms (S.P ++ _) ++ nms S.G).Nodup; rw [e]; exact nd_mid h.nd nz, ?_,
      by show (S.P ++ [_]).length + S.T.length + S.G.length + S.B.length ≤ i + 1; rw [List.length_append, List.length_singleton]; omega, by show (S.L ++ [_]).length ≤ i + 1; rw [List.length_append, List.length_singleton]; omega⟩
    show ∀ y ∈ nms (S.P ++ _) ++ nms S.G, y ∈ S.L ++ [z]
    rw [e]
    intro y hy
    rw [List.mem_append, List.mem_append] at hy
    rcases hy with (hy | hy) | hy
    · exact List.mem_append_left _ (h.sn y (List.mem_append_left _ hy))
    · exact List.mem_append_right _ hy
    · exact List.mem_append_left _ (h.sn y (List.mem_append_right _ hy))
  | 2, _ =>
    refine ⟨h.okP, fun r hr => ?_, h.okG, h.okB, Nat.le_refl _, h.lB, h.nd, h.sn, ?_, Nat.le_succ_of_le h.lL⟩
    · rw [List.mem_singleton.mp hr]; exact ⟨⟨Nat.lt_of_sub_eq_succ rfl, hz⟩, rfl⟩
    · show S.P.length + 1 + S.G.length + S.B.length ≤ i + 1
      omega
  | 3, _ =>
    have e : nms (S.G ++ [⟨3, z, b⟩]) = nms S.G ++ [z] := by rw [nms_app, nms_one]; simp [byNm]
    have nz : z ∉ nms S.P ++ nms S.G := fun m => hn rfl (h.sn z m)
    refine ⟨h.okP, h.okT, mem_snoc h.okG ⟨⟨Nat.lt_of_sub_eq_succ rfl, hz⟩, rfl⟩, h.okB, h.lT, h.lB, ?_, ?_,
      by show S.P.length + S.T.length + (S.G ++ [_]).length + S.B.length ≤ i + 1; rw [List.length_append, List.length_singleton]; omega, by show (S.L ++ [_]).length ≤ i + 1; rw [List.length_append, List.length_singleton]; omega⟩
    · show (nms S.P ++ nms (S.G ++ _)).Nodup
      rw [e, ← List.append_assoc]
      have := nd_mid (a := nms S.P ++ nms S.G) (b := []) (z := z) (by rw [List.append_nil]; exact h.nd) (by rw [List.append_nil]; exact nz)
      rwa [List.append_nil] at this
    · show ∀ y ∈ nms S.P ++ nms (S.G ++ _), y ∈ S.L ++ [z]
      rw [e]
      intro y hy
      rw [List.mem_append, List.mem_append] at hy
      rcases hy with hy | hy | hy
      · exact List.mem_append_left _ (h.sn y (List.mem_append_left _ hy))
      · exact List.mem_append_left _ (h.sn y (List.mem_append_right _ hy))
      · exact List.mem_append_right _ hy
  | 4, _ =>
    refine ⟨h.okP, h.okT, h.okG, fun r hr => ?_, h.lT, Nat.le_refl _, h.nd, h.sn, ?_, Nat.le_succ_of_le h.lL⟩
    · rw [List.mem_singleton.mp hr]; exact ⟨⟨Nat.lt_of_sub_eq_succ rfl, hz⟩, rfl⟩
    · show S.P.length + S.T.length + S.G.length + 1 ≤ i + 1
      omega
def FS.rows (S : FS) : List Rw := S.P ++ S.T ++ S.G ++ S.B
theorem FM.valid {i : Nat} {S : FS} {bars : List Str} (h : FM i S) (hi : i ≤ 24) (lb : bars.length ≤ 60) (bn : ∀ z ∈ bars, nameB z = true) (bd : bars.Nodup) (bl : ∀ z ∈ bars, z ∉ S.L) : Valid S.rows bars := by
  have en : nms S.rows = nms S.P ++ nms S.G := by
    unfold FS.rows
    rw [nms_app, nms_app, nms_app, nms_nil h.okT rfl, nms_nil h.okB rfl, List.append_nil, List.append_nil]
  refine ⟨fun r hr => ?_, ?_, lb, ?_, bn, ?_⟩
  · unfold FS.rows at hr
    rw [List.mem_append, List.mem_append, List.mem_append] at hr
    rcases hr with ((hr | hr) | hr) | hr
    · exact (h.okP r hr).1
    · exact (h.okT r hr).1
    · exact (h.okG r hr).1
    · exact (h.okB r hr).1
  · unfold FS.rows
    have := h.ln
    simp only [List.length_append]
    omega
  · unfold FS.rows
    rw [List.append_assoc, List.append_assoc]
    exact ord_all (fun r hr => (h.okP r hr).2) (fun r hr => (h.okT r hr).2) h.lT (fun r hr => (h.okG r hr).2) (fun r hr => (h.okB r hr).2) h.lB
  · rw [en]
    exact List.nodup_append.mpr ⟨h.nd, bd, fun x hx y hy e => bl y hy (e ▸ h.sn x hx)⟩
/-! ### its lists -/
theorem TAt.keep {H : Hp} {v D : Addr} {r : Rw} {o : HO} (h : TAt H v r) (hD : ∀ vs, H D ≠ some (.tup vs)) : TAt (upd H D o) v r := by
  show upd H D o v = _
  rw [upd_ne (fun e => by subst e; exact hD _ h)]
  exact h
def LsAt (H : Hp) (l : Addr) (rows : List Rw) : Prop := ∃ us : List Addr, H l = some (.lst (us.map V.ref)) ∧ Paired (TAt H) us rows
theorem LsAt.same {H H' : Hp} {l : Addr} {rows : List Rw} (h : LsAt H l rows) (s : Same H H') : LsAt H' l rows := let ⟨us, h1, h2⟩ := h; ⟨us, s _ _ h1, tats_same s h2⟩
theorem LsAt.keep {H : Hp} {l D : Addr} {rows : List Rw} {o : HO} (h : LsAt H l rows) (ne : l ≠ D) (hD : ∀ vs, H D ≠ some (.tup vs)) : LsAt (upd H D o) l rows :=
  let ⟨us, h1, h2⟩ := h
  ⟨us, by rw [upd_ne ne]; exact h1, Paired.imp' (fun _ _ z => z.keep hD) h2⟩
theorem LsAt.snoc {H : Hp} {l u : Addr} {rows : List Rw} {r : Rw} {us : List Addr} (h1 : H l = some (.lst (us.map V.ref))) (h2 : Paired (TAt H) us rows) (hu : TAt H u r) : LsAt (upd H l (.lst (us.map V.ref ++ [.ref u]))) l (rows ++ [r]) := by
  have hD : ∀ vs, H l ≠ some (.tup vs) := fun vs e => by rw [h1] at e; cases e
  refine ⟨us ++ [u], by rw [upd_same, List.map_append]; rfl, Paired.snoc (Paired.imp' (fun _ _ z => z.keep hD) h2) (hu.keep hD)⟩
structure FI (H H' : Hp) (lg g0 g1 g2 g3 ll : Addr) (S : FS) : Prop where
  sm : Same H H'
  gg : H' lg = some (.lst [.ref g0, .ref g1, .ref g2, .ref g3])
  h0 : LsAt H' g0 S.P
  h1 : LsAt H' g1 S.T
  h2 : LsAt H' g2 S.G
  h3 : LsAt H' g3 S.B
  hl : H' ll = some (.lst (S.L.map V.str))
  nd : [lg, g0, g1, g2, g3, ll].Nodup
  fr : ∀ x ∈ [lg, g0, g1, g2, g3, ll], H x = none
section
variable {H H' H'' : Hp} {lg g0 g1 g2 g3 ll u : Addr} {S : FS} {r : Rw} {z : Str} {b : Bool} {us : List Addr}
theorem FI.same (h : FI H H' lg g0 g1 g2 g3 ll S) (s : Same H' H'') : FI H H'' lg g0 g1 g2 g3 ll S := ⟨h.sm.trans s, s _ _ h.gg, h.h0.same s, h.h1.same s, h.h2.same s, h.h3.same s, s _ _ h.hl, h.nd, h.fr⟩
theorem FI.smU (h : FI H H' lg g0 g1 g2 g3 ll S) {l : Addr} (hl : H l = none) {o : HO} : Same H (upd H' l o) := fun b u e => by rw [upd_ne (ne_of_none e hl)]; exact h.sm _ _ e
theorem FI.ne (h : FI H H' lg g0 g1 g2 g3 ll S) : lg ≠ g0 ∧ lg ≠ g1 ∧ lg ≠ g2 ∧ lg ≠ g3 ∧ lg ≠ ll ∧ g0 ≠ g1 ∧ g0 ≠ g2 ∧ g0 ≠ g3 ∧ g0 ≠ ll ∧ g1 ≠ g2 ∧ g1 ≠ g3 ∧ g1 ≠ ll ∧ g2 ≠ g3 ∧ g2 ≠ ll ∧ g3 ≠ ll := by
  have := h.nd
  simp only [List.nodup_cons, List.mem_cons, List.not_mem_nil, or_false, not_or] at this
  obtain ⟨⟨a1, a2, a3, a4, a5⟩, ⟨b1, b2, b3, b4⟩, ⟨c1, c2, c3⟩, ⟨d1, d2⟩, e1, _⟩ := this
  exact ⟨a1, a2, a3, a4, a5, b1, b2, b3, b4, c1, c2, c3, d1, d2, e1⟩
theorem FI.addL (h : FI H H' lg g0 g1 g2 g3 ll S) : FI H (upd H' ll (.lst (S.L.map V.str ++ [.str z]))) lg g0 g1 g2 g3 ll { S with L := S.L ++ [z] } := by
  have hD : ∀ vs, H' ll ≠ some (.tup vs) := fun vs e => by rw [h.hl] at e; cases e
  obtain ⟨a1, a2, a3, a4, a5, b1, b2, b3, b4, c1, c2, c3, d1, d2, e1⟩ := h.ne
  exact ⟨h.smU (h.fr ll (by simp)), by rw [upd_ne a5]; exact h.gg, h.h0.keep b4 hD, h.h1.keep c3 hD, h.h2.keep d2 hD, h.h3.keep e1 hD, by rw [upd_same, List.map_append]; rfl, h.nd, h.fr⟩
theorem FI.add0 (h : FI H H' lg g0 g1 g2 g3 ll S) (hh : H' g0 = some (.lst (us.map V.ref))) (h2 : Paired (TAt H') us S.P) (hu : TAt H' u r) : FI H (upd H' g0 (.lst (us.map V.ref ++ [.ref u]))) lg g0 g1 g2 g3 ll { S with P := S.P ++ [r] } := by
  have hD : ∀ vs, H' g0 ≠ some (.tup vs) := fun vs e => by rw [hh] at e; cases e
  obtain ⟨a1, a2, a3, a4, a5, b1, b2, b3, b4, c1, c2, c3, d1, d2, e1⟩ := h.ne
  exact ⟨h.smU (h.fr g0 (by simp)), by rw [upd_ne a1]; exact h.gg, .snoc hh h2 hu, h.h1.keep b1.symm hD, h.h2.keep b2.symm hD, h.h3.keep b3.symm hD, by rw [upd_ne b4.symm]; exact h.hl, h.nd, h.fr⟩
theorem FI.add2 (h : FI H H' lg g0 g1 g2 g3 ll S) (hh : H' g2 = some (.lst (us.map V.ref))) (h2 : Paired (TAt H') us S.G) (hu : TAt H' u r) : FI H (upd H' g2 (.lst (us.map V.ref ++ [.ref u]))) lg g0 g1 g2 g3 ll { S with G := S.G ++ [r] } := by
  have hD : ∀ vs, H' g2 ≠ some (.tup vs) := fun vs e => by rw [hh] at e; cases e
  obtain ⟨a1, a2, a3, a4, a5, b1, b2, b3, b4, c1, c2, c3, d1, d2, e1⟩ := h.ne
  exact ⟨h.smU (h.fr g2 (by simp)), by rw [upd_ne a3]; exact h.gg, h.h0.keep b2 hD, h.h1.keep c1 hD, .snoc hh h2 hu, h.h3.keep d1.symm hD, by rw [upd_ne d2.symm]; exact h.hl, h.nd, h.fr⟩
theorem FI.add1 (h : FI H H' lg g0 g1 g2 g3 ll S) (hT : S.T = []) (hu : TAt H' u r) : FI H (upd H' g1 (.lst [.ref u])) lg g0 g1 g2 g3 ll { S with T := [r] } := by
  obtain ⟨us, hh, h2⟩ := h.h1
  rw [hT] at h2
  cases h2
  have hD : ∀ vs, H' g1 ≠ some (.tup vs) := fun vs e => by rw [hh] at e; cases e
  obtain ⟨a1, a2, a3, a4, a5, b1, b2, b3, b4, c1, c2, c3, d1, d2, e1⟩ := h.ne
  have sn := LsAt.snoc hh .nil hu
  exact ⟨h.smU (h.fr g1 (by simp)), by rw [upd_ne a2]; exact h.gg, h.h0.keep b1 hD, sn, h.h2.keep c1.symm hD, h.h3.keep c2.symm hD, by rw [upd_ne c3.symm]; exact h.hl, h.nd, h.fr⟩
theorem FI.add3 (h : FI H H' lg g0 g1 g2 g3 ll S) (hT : S.B = []) (hu : TAt H' u r) : FI H (upd H' g3 (.lst [.ref u])) lg g0 g1 g2 g3 ll { S with B := [r] } := by
  obtain ⟨us, hh, h2⟩ := h.h3
  rw [hT] at h2
  cases h2
  have hD : ∀ vs, H' g3 ≠ some (.tup vs) := fun vs e => by rw [hh] at e; cases e
  obtain ⟨a1, a2, a3, a4, a5, b1, b2, b3, b4, c1, c2, c3, d1, d2, e1⟩ := h.ne
  have sn := LsAt.snoc hh .nil hu
  exact ⟨h.smU (h.fr g3 (by simp)), by rw [upd_ne a4]; exact h.gg, h.h0.keep b3 hD, h.h1.keep c2 hD, h.h2.keep d1 hD, sn, by rw [upd_ne e1.symm]; exact h.hl, h.nd, h.fr⟩
end
/-- the rows, without bars -/
structure VR (rows : List Rw) : Prop where
  ok : ∀ r ∈ rows, r.ok
  l24 : rows.length ≤ 24
  ord : ordOk 0 rows = true
  nd : (nms rows).Nodup
theorem FM.vr {i : Nat} {S : FS} (h : FM i S) (hi : i ≤ 24) : VR S.rows := by
  have v := h.valid (bars := []) hi (Nat.zero_le _) (fun _ h => nomatch h) List.nodup_nil (fun _ h => nomatch h)
  exact ⟨v.ok, v.l24, v.ord, by have := v.nd; rwa [List.append_nil] at this⟩
end K91

set_option Elab.async false
set_option linter.all false
set_option maxRecDepth 100000
set_option maxHeartbeats 4000000
namespace K91
open PySem L2 PyProof.Rows
def spSpecs (K : PySem.W.Frag) : Sp := fun vs H Q _ => ∃ (a pa : Addr) (cs : List Int) (zs : List Str), vs = [.ref a, .ref pa] ∧ SqL K H a (cs.map V.int) ∧ cs.length ≤ 20 ∧ H pa = some (.lst (zs.map V.str)) ∧ 0 < zs.length ∧ (∀ z ∈ zs, nameB z = true) ∧
  ∀ (la : Addr) (us : List Addr) (rows : List Rw) (H' : Hp), Same H H' → H la = none → H' la = some (.lst (us.map V.ref)) → Paired (TAt H') us rows → VR rows → Q (.ref la) H'
section
variable {P : Program} {w : World} {K : PySem.W.Frag} {mg : Str → Option Value} {base : Heap} {f : Addr} {fd : FuncData}
theorem scSpecs : FnScope ["_law_cells", "_law_pool_here", "_law_groups", "_law_seen", "_law_cell", "_law_kind", "_law_name", "_law_loose"] ["_law_cells", "_law_pool_here"] (defScope sSpecs) := ⟨rfl, rfl, rfl, by decide +kernel, rfl, by decide +kernel, by decide +kernel⟩
theorem ok_specs (F : Fun K "_law_specs" "_law_specs" sSpecs f fd) (T : TxtL mg) : FnOk P w K mg base CX0 1 f fd ["_law_cells", "_law_pool_here"] (spSpecs K) := by
  refine F.ok scSpecs (fun vs H Q E h => ?_) (fun cdv A outer s H vs Q E hr h => ?_)
  · obtain ⟨a, pa, cs, zs, rfl, _⟩ := h
    rfl
  obtain ⟨a, pa, cs, zs, rfl, hS, l20, hpa, z0, hzn, q⟩ := h
  have hU := hr.units
  have hU0 := hr.units0
  refine ⟨_, pss_cons (ps_set (i := 2) scSpecs.nd rfl (Or.inl rfl) (pe_lst (ac (pe_lst pa_nil) (ac (pe_lst pa_nil) (ac (pe_lst pa_nil) (ac (pe_lst pa_nil) pa_nil))))))
    (pss_cons (ps_set (i := 3) scSpecs.nd rfl (Or.inl rfl) (pe_lst pa_nil))
    (pss_cons (ps_for PassesOwn.never rfl (pi_list (pv 0)) (pg_name (i := 4) scSpecs.nd rfl (Or.inl rfl))
      (pss_cons (ps_set (i := 5) scSpecs.nd rfl (Or.inl rfl) (pe_op op_mod (pv 4) pe_int))
      (pss_cons (ps_set (i := 6) scSpecs.nd rfl (Or.inl rfl) (pe_ix ix_list (pv 1) (pe_op op_mod (pe_op op_fdiv (pv 4) pe_int) (cB call_len_seq T.len PySem.boot_len (ac (pv 1) pa_nil))) (fun _ _ => rfl)))
      (pss_cons (ps_set (i := 7) scSpecs.nd rfl (Or.inl rfl) (pe_cmpR op_eq (pe_op op_mod (pe_op op_fdiv (pv 4) pe_int) pe_int) pe_int (nomark _)))
      (pss_one (ps_if (pt_cmpR op_lt (pv 5) pe_int (nomark _)) (pss_one (ps_expr (pe_bm PySem.F.plainAttrs_list PySem.F.slot_list_append PySem.F.type_list_append mt_append (pe_ix ix_list (pv 2) pe_int (fun _ _ => rfl)) (ac (pe_tup (ac pe_str (ac (pv 6) (ac (pv 7) pa_nil)))) pa_nil))))
        (pss_one (ps_if (PW.pt (pw_and (pt_cmpR op_eq (pv 5) pe_int (nomark _)) (pw_and1 (pt_cmpR (OpR.or (op_eqS hU) (op_eqLen hU0)) (pe_ix ix_list (pv 2) pe_int (fun _ _ => rfl)) (pe_lst pa_nil) (nomark _))))) (pss_one (ps_expr (pe_bm PySem.F.plainAttrs_list PySem.F.slot_list_append PySem.F.type_list_append mt_append (pe_ix ix_list (pv 2) pe_int (fun _ _ => rfl)) (ac (pe_tup (ac pe_str (ac (pv 6) pa_nil))) pa_nil))))
          (pss_one (ps_if (PW.pt (pw_and (pt_cmpR op_eq (pv 5) pe_int (nomark _)) (pw_and1 (pt_cmpR (OpR.or (op_eqS hU) (op_eqLen hU0)) (pe_ix ix_list (pv 2) pe_int (fun _ _ => rfl)) (pe_lst pa_nil) (nomark _))))) (pss_one (ps_expr (pe_bm PySem.F.plainAttrs_list PySem.F.slot_list_append PySem.F.type_list_append mt_append (pe_ix ix_list (pv 2) pe_int (fun _ _ => rfl)) (ac (pe_tup (ac pe_str (ac (pv 6) pa_nil))) pa_nil))))
            (pss_one (ps_if (PW.pt (pw_and (pt_cmpR op_in_seq (pv 5) (pe_tup (ac pe_int (ac pe_int (ac pe_int pa_nil)))) (by with_unfolding_all rfl)) (pw_and1 (pt_cmpR op_notIn_seq (pv 6) (pv 3) (by with_unfolding_all rfl))))) (pss_cons (ps_expr (pe_bm PySem.F.plainAttrs_list PySem.F.slot_list_append PySem.F.type_list_append mt_append (pe_ix ix_list (pv 2) pe_int (fun _ _ => rfl)) (ac (pe_tup (ac pe_str (ac (pv 6) (ac (pv 7) pa_nil)))) pa_nil))) (pss_one (ps_expr (pe_bm PySem.F.plainAttrs_list PySem.F.slot_list_append PySem.F.type_list_append mt_append (pv 3) (ac (pv 6) pa_nil)))))
              (pss_one (ps_if (PW.pt (pw_and (pt_cmpR op_in_seq (pv 5) (pe_tup (ac pe_int (ac pe_int pa_nil))) (by with_unfolding_all rfl)) (pw_and1 (pt_cmpR op_notIn_seq (pv 6) (pv 3) (by with_unfolding_all rfl))))) (pss_cons (ps_expr (pe_bm PySem.F.plainAttrs_list PySem.F.slot_list_append PySem.F.type_list_append mt_append (pe_ix ix_list (pv 2) pe_int (fun _ _ => rfl)) (ac (pe_tup (ac pe_str (ac (pv 6) (ac (pv 7) pa_nil)))) pa_nil))) (pss_one (ps_expr (pe_bm PySem.F.plainAttrs_list PySem.F.slot_list_append PySem.F.type_list_append mt_append (pv 3) (ac (pv 6) pa_nil))))) pss_nil))))))))))))))
    (pss_one (ps_ret (pe_op op_cat (pe_op op_cat (pe_op op_cat (pe_ix ix_list (pv 2) pe_int (fun _ _ => rfl)) (pe_ix ix_list (pv 2) pe_int (fun _ _ => rfl))) (pe_ix ix_list (pv 2) pe_int (fun _ _ => rfl))) (pe_ix ix_list (pv 2) pe_int (fun _ _ => rfl))))))), ?_⟩
  refine ⟨(by show 0 ≤ sizeLine; decide), fun g0 h0 => ?_⟩
  have s0 := same_new h0 (.lst [])
  have e0 : upd H g0 (.lst []) g0 = some (.lst []) := upd_same
  generalize upd H g0 (.lst []) = H0 at s0 e0 ⊢
  refine ⟨(by show 0 ≤ sizeLine; decide), fun g1 h1 => ?_⟩
  have s1 := same_new h1 (.lst [])
  have e1 : upd H0 g1 (.lst []) g1 = some (.lst []) := upd_same
  generalize upd H0 g1 (.lst []) = H1 at s1 e1 ⊢
  refine ⟨(by show 0 ≤ sizeLine; decide), fun g2 h2 => ?_⟩
  have s2 := same_new h2 (.lst [])
  have e2 : upd H1 g2 (.lst []) g2 = some (.lst []) := upd_same
  generalize upd H1 g2 (.lst []) = H2 at s2 e2 ⊢
  refine ⟨(by show 0 ≤ sizeLine; decide), fun g3 h3 => ?_⟩
  have s3 := same_new h3 (.lst [])
  have e3 : upd H2 g3 (.lst []) g3 = some (.lst []) := upd_same
  generalize upd H2 g3 (.lst []) = H3 at s3 e3 ⊢
  refine ⟨(by show 4 ≤ sizeLine; decide), fun lg h4 => ?_⟩
  have s4 := same_new h4 (.lst [.ref g0, .ref g1, .ref g2, .ref g3])
  have e4 : upd H3 lg (.lst [.ref g0, .ref g1, .ref g2, .ref g3]) lg = some (.lst [.ref g0, .ref g1, .ref g2, .ref g3]) := upd_same
  dsimp only [gName]
  generalize upd H3 lg (.lst [.ref g0, .ref g1, .ref g2, .ref g3]) = H4 at s4 e4 ⊢
  refine ⟨(by show 0 ≤ sizeLine; decide), fun ll h5 => ?_⟩
  have s5 := same_new h5 (.lst [])
  have e5 : upd H4 ll (.lst []) ll = some (.lst []) := upd_same
  dsimp only [gName]
  generalize upd H4 ll (.lst []) = H5 at s5 e5 ⊢
  have s01 := s0.trans s1
  have s02 := s01.trans s2
  have s03 := s02.trans s3
  have s04 := s03.trans s4
  have I0 : FI H H5 lg g0 g1 g2 g3 ll ⟨[], [], [], [], []⟩ := by
    have s15 := s2.trans (s3.trans (s4.trans s5))
    refine ⟨s04.trans s5, s5 _ _ e4, ⟨[], s15 _ _ (s1 _ _ e0), .nil⟩, ⟨[], s15 _ _ e1, .nil⟩, ⟨[], s5 _ _ (s4 _ _ (s3 _ _ e2)), .nil⟩, ⟨[], s5 _ _ (s4 _ _ e3), .nil⟩, e5, ?_, ?_⟩
    · simp only [List.nodup_cons, List.mem_cons, List.not_mem_nil, or_false, not_or, List.nodup_nil, not_false_iff, and_true]
      exact ⟨⟨(ne_of_none (s3 _ _ (s2 _ _ (s1 _ _ e0))) h4).symm, (ne_of_none (s3 _ _ (s2 _ _ e1)) h4).symm, (ne_of_none (s3 _ _ e2) h4).symm, (ne_of_none e3 h4).symm, ne_of_none e4 h5⟩, ⟨ne_of_none e0 h1, ne_of_none (s1 _ _ e0) h2, ne_of_none (s2 _ _ (s1 _ _ e0)) h3, ne_of_none (s4 _ _ (s3 _ _ (s2 _ _ (s1 _ _ e0)))) h5⟩, ⟨ne_of_none e1 h2, ne_of_none (s2 _ _ e1) h3, ne_of_none (s4 _ _ (s3 _ _ (s2 _ _ e1))) h5⟩, ⟨ne_of_none e2 h3, ne_of_none (s4 _ _ (s3 _ _ e2)) h5⟩, ne_of_none (s4 _ _ e3) h5⟩
    · intro x hx
      simp only [List.mem_cons, List.not_mem_nil, or_false] at hx
      rcases hx with rfl | rfl | rfl | rfl | rfl | rfl
      · exact s03.free h4
      · exact h0
      · exact s0.free h1
      · exact s01.free h2
      · exact s02.free h3
      · exact s04.free h5
  have lz : ((zs.map V.str).length : Int) = (zs.length : Int) := by rw [List.length_map]
  refine ⟨_, rfl, a, rfl, ⟨_, I0.sm.seq hS⟩, for_list (K := K) (a := a) (xs := cs.map V.int) (fun i σ H' => ∃ (S : FS) (v4 v5 v6 v7 : Option V), σ = [some (.ref a), some (.ref pa), some (.ref lg), some (.ref ll), v4, v5, v6, v7] ∧ FI H H' lg g0 g1 g2 g3 ll S ∧ FM i S)
    ⟨_, _, _, _, _, rfl, I0, FM.zero⟩ (fun i σ H' _ ⟨_, _, _, _, _, _, h, _⟩ => h.sm.seq hS) ?_ ?_⟩
  · rintro i x σ H6 hx ⟨S, v4, v5, v6, v7, rfl, I6, M6⟩
    obtain ⟨n, hn, rfl⟩ : ∃ n, cs[i]? = some n ∧ x = .int n := by
      rw [List.getElem?_map] at hx
      cases e : cs[i]? with
      | none => rw [e] at hx; cases hx
      | some n => rw [e] at hx; cases hx; exact ⟨n, rfl, rfl⟩
    have hi : i < cs.length := (List.getElem?_eq_some_iff.mp hn).1
    refine ⟨_, rfl, _, _, rfl, rfl, (by show (0 : Int) < 9; decide), ?_⟩
    have d0 : 0 ≤ n / 9 % (zs.length : Int) := Int.emod_nonneg _ (by omega)
    have d1 : n / 9 % (zs.length : Int) < (zs.length : Int) := Int.emod_lt_of_pos _ (by omega)
    obtain ⟨j, hj⟩ := Int.eq_ofNat_of_zero_le d0
    have hjl : j < zs.length := by omega
    have hpa6 := I6.sm _ _ hpa
    refine ⟨_, rfl, _, rfl, _, _, rfl, rfl, ⟨by decide, by decide⟩, _, rfl, pa, _, rfl, .inl (SqL.of hpa6), _, _, rfl, rfl, (by rw [lz]; omega), pa, _, _, .str zs[j], rfl, rfl, SqL.of hpa6, (by rw [lz, hj]; exact atI_nat (by rw [List.getElem?_map, List.getElem?_eq_getElem hjl]; rfl)), ?_⟩
    have hz := hzn _ (List.getElem_mem hjl)
    generalize zs[j] = z at hz ⊢
    refine ⟨_, rfl, _, _, rfl, rfl, ⟨by decide, by decide⟩, _, _, rfl, rfl, (by show (0 : Int) < 2; decide), rfl, ?_⟩
    dsimp only [gName]
    generalize decide (V.int (n / 108 % 2) = V.int 1) = fb
    have lnS := M6.ln
    have lL := M6.lL
    have skip : ∀ {H' : Hp}, FI H H' lg g0 g1 g2 g3 ll S → ∃ (S : FS) (v4 v5 v6 v7 : Option V), ([some (.ref a), some (.ref pa), some (.ref lg), some (.ref ll), some (.int n), some (.int (n % 9)), some (.str z), some (.bl fb)] : L2.St) = [some (.ref a), some (.ref pa), some (.ref lg), some (.ref ll), v4, v5, v6, v7] ∧ FI H H' lg g0 g1 g2 g3 ll S ∧ FM (i + 1) S := fun I => ⟨S, _, _, _, _, rfl, I, ⟨M6.okP, M6.okT, M6.okG, M6.okB, M6.lT, M6.lB, M6.nd, M6.sn, Nat.le_succ_of_le M6.ln, Nat.le_succ_of_le M6.lL⟩⟩
    have fin : ∀ {k : Nat} {H' : Hp} {b : Bool}, FI H H' lg g0 g1 g2 g3 ll (S.add k z b) → k < 5 → (byNm k = true → z ∉ S.L) → ∃ (S : FS) (v4 v5 v6 v7 : Option V), ([some (.ref a), some (.ref pa), some (.ref lg), some (.ref ll), some (.int n), some (.int (n % 9)), some (.str z), some (.bl fb)] : L2.St) = [some (.ref a), some (.ref pa), some (.ref lg), some (.ref ll), v4, v5, v6, v7] ∧ FI H H' lg g0 g1 g2 g3 ll S ∧ FM (i + 1) S := fun {k H' b} I hk hn' => ⟨S.add k z b, _, _, _, _, rfl, I, M6.add hk hz hn'⟩
    refine ⟨_, rfl, _, _, rfl, rfl, _, rfl, ?_⟩
    refine ite2 (fun _ => ?_) (fun _ => ?_)
    · obtain ⟨us, w1, w2⟩ := I6.h0
      have hlu : us.length ≤ 24 := by rw [w2.length]; omega
      refine ⟨_, rfl, lg, _, 0, .ref g0, rfl, rfl, SqL.of I6.gg, rfl, .inl ⟨rfl, _, SqL.of w1⟩, _, rfl, _, rfl, (by show 3 ≤ sizeLine; decide), fun u hu => ?_⟩
      have s7 := same_new hu (.tup [.str "seat", .str z, .bl fb])
      have tu : TAt (upd H6 u (.tup [.str "seat", .str z, .bl fb])) u ⟨0, z, fb⟩ := upd_same
      refine ⟨g0, _, _, rfl, rfl, s7 _ _ w1, small1000 (by rw [List.length_map]; omega), ?_⟩
      exact fin (k := 0) ((I6.same s7).add0 (s7 _ _ w1) (tats_same s7 w2) tu) (by decide) (fun e => by cases e)
    rename_i hlt
    have hge : ¬ n % 9 < 2 := fun e => hlt (decide_eq_true e)
    have hcase : n % 9 = 2 ∨ n % 9 = 3 ∨ n % 9 = 4 ∨ n % 9 = 5 ∨ n % 9 = 6 ∨ n % 9 = 7 ∨ n % 9 = 8 := by omega
    rcases hcase with hv | hv | hv | hv | hv | hv | hv
    · -- 2
      refine ⟨_, rfl, rfl, _, rfl, ?_⟩
      refine dF (fun e' => by have := V.int.inj e'; omega) ?_
      refine iteF ?_
      refine ⟨_, rfl, rfl, _, rfl, ?_⟩
      refine dF (fun e' => by have := V.int.inj e'; omega) ?_
      refine iteF ?_
      refine ⟨_, rfl, (by show 3 ≤ sizeLine; decide), fun tH7 htH7 => ?_⟩
      have sH7 := same_new htH7 (.tup [.int 2, .int 3, .int 4])
      have I7 := I6.same sH7
      refine ⟨tH7, _, rfl, .inr (SqT.of upd_same), rfl, rfl, _, rfl, ?_⟩
      generalize upd H6 tH7 (.tup [.int 2, .int 3, .int 4]) = H7 at sH7 I7 ⊢
      refine iteB (by rw [if_neg Bool.false_ne_true, hv]; decide +kernel) ?_
      refine ⟨_, rfl, _, rfl, ll, _, rfl, .inl (SqL.of I7.hl), rfl, flatStrs, _, rfl, ?_⟩
      by_cases hm : z ∈ S.L
      · refine iteC (by rw [if_pos rfl, inStrs, decide_eq_true hm]; rfl) ?_
        refine ⟨_, rfl, (by show 2 ≤ sizeLine; decide), fun tH8 htH8 => ?_⟩
        have sH8 := same_new htH8 (.tup [.int 6, .int 7])
        have I8 := I7.same sH8
        refine ⟨tH8, _, rfl, .inr (SqT.of upd_same), rfl, rfl, _, rfl, ?_⟩
        generalize upd H7 tH8 (.tup [.int 6, .int 7]) = H8 at sH8 I8 ⊢
        refine iteC (by rw [if_neg Bool.false_ne_true, hv]; decide +kernel) ?_
        refine iteF ?_
        exact skip I8
      refine iteB (by rw [if_pos rfl, inStrs, decide_eq_false hm]; rfl) ?_
      obtain ⟨us, w1, w2⟩ := I7.h0
      have hlu : us.length ≤ 24 := by rw [w2.length]; omega
      refine ⟨_, rfl, lg, _, 0, .ref g0, rfl, rfl, SqL.of I7.gg, rfl, .inl ⟨rfl, _, SqL.of w1⟩, _, rfl, _, rfl, (by show 3 ≤ sizeLine; decide), fun u hu => ?_⟩
      have s9 := same_new hu (.tup [.str "both", .str z, .bl fb])
      have tu : TAt (upd H7 u (.tup [.str "both", .str z, .bl fb])) u ⟨1, z, fb⟩ := upd_same
      refine ⟨g0, _, _, rfl, rfl, s9 _ _ w1, small1000 (by rw [List.length_map]; omega), ?_⟩
      have J := (I7.same s9).add0 (s9 _ _ w1) (tats_same s9 w2) tu
      dsimp only [tNext]
      generalize upd (upd H7 u (.tup [.str "both", .str z, .bl fb])) g0 (.lst (us.map V.ref ++ [.ref u])) = HJ at J ⊢
      refine ⟨_, rfl, .inl ⟨rfl, _, SqL.of J.hl⟩, _, rfl, ll, _, _, rfl, rfl, J.hl, small1000 (by rw [List.length_map]; show S.L.length ≤ 1000; omega), ?_⟩
      exact fin (k := 1) J.addL (by decide) (fun _ => hm)
    · -- 3
      refine ⟨_, rfl, rfl, _, rfl, ?_⟩
      refine dF (fun e' => by have := V.int.inj e'; omega) ?_
      refine iteF ?_
      refine ⟨_, rfl, rfl, _, rfl, ?_⟩
      refine dF (fun e' => by have := V.int.inj e'; omega) ?_
      refine iteF ?_
      refine ⟨_, rfl, (by show 3 ≤ sizeLine; decide), fun tH7 htH7 => ?_⟩
      have sH7 := same_new htH7 (.tup [.int 2, .int 3, .int 4])
      have I7 := I6.same sH7
      refine ⟨tH7, _, rfl, .inr (SqT.of upd_same), rfl, rfl, _, rfl, ?_⟩
      generalize upd H6 tH7 (.tup [.int 2, .int 3, .int 4]) = H7 at sH7 I7 ⊢
      refine iteB (by rw [if_neg Bool.false_ne_true, hv]; decide +kernel) ?_
      refine ⟨_, rfl, _, rfl, ll, _, rfl, .inl (SqL.of I7.hl), rfl, flatStrs, _, rfl, ?_⟩
      by_cases hm : z ∈ S.L
      · refine iteC (by rw [if_pos rfl, inStrs, decide_eq_true hm]; rfl) ?_
        refine ⟨_, rfl, (by show 2 ≤ sizeLine; decide), fun tH8 htH8 => ?_⟩
        have sH8 := same_new htH8 (.tup [.int 6, .int 7])
        have I8 := I7.same sH8
        refine ⟨tH8, _, rfl, .inr (SqT.of upd_same), rfl, rfl, _, rfl, ?_⟩
        generalize upd H7 tH8 (.tup [.int 6, .int 7]) = H8 at sH8 I8 ⊢
        refine iteC (by rw [if_neg Bool.false_ne_true, hv]; decide +kernel) ?_
        refine iteF ?_
        exact skip I8
      refine iteB (by rw [if_pos rfl, inStrs, decide_eq_false hm]; rfl) ?_
      obtain ⟨us, w1, w2⟩ := I7.h0
      have hlu : us.length ≤ 24 := by rw [w2.length]; omega
      refine ⟨_, rfl, lg, _, 0, .ref g0, rfl, rfl, SqL.of I7.gg, rfl, .inl ⟨rfl, _, SqL.of w1⟩, _, rfl, _, rfl, (by show 3 ≤ sizeLine; decide), fun u hu => ?_⟩
      have s9 := same_new hu (.tup [.str "both", .str z, .bl fb])
      have tu : TAt (upd H7 u (.tup [.str "both", .str z, .bl fb])) u ⟨1, z, fb⟩ := upd_same
      refine ⟨g0, _, _, rfl, rfl, s9 _ _ w1, small1000 (by rw [List.length_map]; omega), ?_⟩
      have J := (I7.same s9).add0 (s9 _ _ w1) (tats_same s9 w2) tu
      dsimp only [tNext]
      generalize upd (upd H7 u (.tup [.str "both", .str z, .bl fb])) g0 (.lst (us.map V.ref ++ [.ref u])) = HJ at J ⊢
      refine ⟨_, rfl, .inl ⟨rfl, _, SqL.of J.hl⟩, _, rfl, ll, _, _, rfl, rfl, J.hl, small1000 (by rw [List.length_map]; show S.L.length ≤ 1000; omega), ?_⟩
      exact fin (k := 1) J.addL (by decide) (fun _ => hm)
    · -- 4
      refine ⟨_, rfl, rfl, _, rfl, ?_⟩
      refine dF (fun e' => by have := V.int.inj e'; omega) ?_
      refine iteF ?_
      refine ⟨_, rfl, rfl, _, rfl, ?_⟩
      refine dF (fun e' => by have := V.int.inj e'; omega) ?_
      refine iteF ?_
      refine ⟨_, rfl, (by show 3 ≤ sizeLine; decide), fun tH7 htH7 => ?_⟩
      have sH7 := same_new htH7 (.tup [.int 2, .int 3, .int 4])
      have I7 := I6.same sH7
      refine ⟨tH7, _, rfl, .inr (SqT.of upd_same), rfl, rfl, _, rfl, ?_⟩
      generalize upd H6 tH7 (.tup [.int 2, .int 3, .int 4]) = H7 at sH7 I7 ⊢
      refine iteB (by rw [if_neg Bool.false_ne_true, hv]; decide +kernel) ?_
      refine ⟨_, rfl, _, rfl, ll, _, rfl, .inl (SqL.of I7.hl), rfl, flatStrs, _, rfl, ?_⟩
      by_cases hm : z ∈ S.L
      · refine iteC (by rw [if_pos rfl, inStrs, decide_eq_true hm]; rfl) ?_
        refine ⟨_, rfl, (by show 2 ≤ sizeLine; decide), fun tH8 htH8 => ?_⟩
        have sH8 := same_new htH8 (.tup [.int 6, .int 7])
        have I8 := I7.same sH8
        refine ⟨tH8, _, rfl, .inr (SqT.of upd_same), rfl, rfl, _, rfl, ?_⟩
        generalize upd H7 tH8 (.tup [.int 6, .int 7]) = H8 at sH8 I8 ⊢
        refine iteC (by rw [if_neg Bool.false_ne_true, hv]; decide +kernel) ?_
        refine iteF ?_
        exact skip I8
      refine iteB (by rw [if_pos rfl, inStrs, decide_eq_false hm]; rfl) ?_
      obtain ⟨us, w1, w2⟩ := I7.h0
      have hlu : us.length ≤ 24 := by rw [w2.length]; omega
      refine ⟨_, rfl, lg, _, 0, .ref g0, rfl, rfl, SqL.of I7.gg, rfl, .inl ⟨rfl, _, SqL.of w1⟩, _, rfl, _, rfl, (by show 3 ≤ sizeLine; decide), fun u hu => ?_⟩
      have s9 := same_new hu (.tup [.str "both", .str z, .bl fb])
      have tu : TAt (upd H7 u (.tup [.str "both", .str z, .bl fb])) u ⟨1, z, fb⟩ := upd_same
      refine ⟨g0, _, _, rfl, rfl, s9 _ _ w1, small1000 (by rw [List.length_map]; omega), ?_⟩
      have J := (I7.same s9).add0 (s9 _ _ w1) (tats_same s9 w2) tu
      dsimp only [tNext]
      generalize upd (upd H7 u (.tup [.str "both", .str z, .bl fb])) g0 (.lst (us.map V.ref ++ [.ref u])) = HJ at J ⊢
      refine ⟨_, rfl, .inl ⟨rfl, _, SqL.of J.hl⟩, _, rfl, ll, _, _, rfl, rfl, J.hl, small1000 (by rw [List.length_map]; show S.L.length ≤ 1000; omega), ?_⟩
      exact fin (k := 1) J.addL (by decide) (fun _ => hm)
    · -- 5
      refine ⟨_, rfl, rfl, _, rfl, ?_⟩
      refine dT (congrArg V.int hv) ?_
      obtain ⟨us, w1, w2⟩ := I6.h1
      refine ⟨_, rfl, lg, _, 1, .ref g1, rfl, rfl, SqL.of I6.gg, rfl, (by show 0 ≤ sizeLine; decide), fun l0 hl0 => ?_⟩
      have s7 := same_new hl0 (.lst [])
      have e7 : upd H6 l0 (.lst []) l0 = some (.lst []) := upd_same
      have I7 := I6.same s7
      have w1 := s7 _ _ w1
      have w2 := tats_same s7 w2
      generalize upd H6 l0 (.lst []) = H7 at s7 e7 I7 w1 w2 ⊢
      by_cases hT : S.T = []
      · rw [hT] at w2
        cases w2
        refine .inl ⟨g1, l0, 0, .lst [], fun _ => True, fun _ => True, rfl, rfl, by decide, Says.lst True.intro w1 .nil, Says.lst True.intro e7 .nil, _, rfl, ?_⟩
        refine iteT ?_
        refine ⟨_, rfl, lg, _, 1, .ref g1, rfl, rfl, SqL.of I7.gg, rfl, .inl ⟨rfl, _, SqL.of w1⟩, _, rfl, (by show 2 ≤ sizeLine; decide), fun u hu => ?_⟩
        have s9 := same_new hu (.tup [.str "tail", .str z])
        have tu : TAt (upd H7 u (.tup [.str "tail", .str z])) u ⟨2, z, fb⟩ := upd_same
        refine ⟨g1, _, _, rfl, rfl, s9 _ _ w1, small1000 (by show 0 ≤ 1000; decide), ?_⟩
        exact fin (k := 2) ((I7.same s9).add1 hT tu) (by decide) (fun e => by cases e)
      refine .inr ⟨g1, l0, _, _, rfl, rfl, w1, e7, (by rw [List.length_map, w2.length]; exact fun e => hT (List.eq_nil_of_length_eq_zero e)), _, rfl, ?_⟩
      refine iteF ?_
      refine ⟨_, rfl, rfl, _, rfl, ?_⟩
      refine dF (fun e' => by have := V.int.inj e'; omega) ?_
      refine iteF ?_
      refine ⟨_, rfl, (by show 3 ≤ sizeLine; decide), fun tH8 htH8 => ?_⟩
      have sH8 := same_new htH8 (.tup [.int 2, .int 3, .int 4])
      have I8 := I7.same sH8
      refine ⟨tH8, _, rfl, .inr (SqT.of upd_same), rfl, rfl, _, rfl, ?_⟩
      generalize upd H7 tH8 (.tup [.int 2, .int 3, .int 4]) = H8 at sH8 I8 ⊢
      refine iteC (by rw [if_neg Bool.false_ne_true, hv]; decide +kernel) ?_
      refine iteF ?_
      refine ⟨_, rfl, (by show 2 ≤ sizeLine; decide), fun tH9 htH9 => ?_⟩
      have sH9 := same_new htH9 (.tup [.int 6, .int 7])
      have I9 := I8.same sH9
      refine ⟨tH9, _, rfl, .inr (SqT.of upd_same), rfl, rfl, _, rfl, ?_⟩
      generalize upd H8 tH9 (.tup [.int 6, .int 7]) = H9 at sH9 I9 ⊢
      refine iteC (by rw [if_neg Bool.false_ne_true, hv]; decide +kernel) ?_
      refine iteF ?_
      exact skip I9
    · -- 6
      refine ⟨_, rfl, rfl, _, rfl, ?_⟩
      refine dF (fun e' => by have := V.int.inj e'; omega) ?_
      refine iteF ?_
      refine ⟨_, rfl, rfl, _, rfl, ?_⟩
      refine dF (fun e' => by have := V.int.inj e'; omega) ?_
      refine iteF ?_
      refine ⟨_, rfl, (by show 3 ≤ sizeLine; decide), fun tH7 htH7 => ?_⟩
      have sH7 := same_new htH7 (.tup [.int 2, .int 3, .int 4])
      have I7 := I6.same sH7
      refine ⟨tH7, _, rfl, .inr (SqT.of upd_same), rfl, rfl, _, rfl, ?_⟩
      generalize upd H6 tH7 (.tup [.int 2, .int 3, .int 4]) = H7 at sH7 I7 ⊢
      refine iteC (by rw [if_neg Bool.false_ne_true, hv]; decide +kernel) ?_
      refine iteF ?_
      refine ⟨_, rfl, (by show 2 ≤ sizeLine; decide), fun tH8 htH8 => ?_⟩
      have sH8 := same_new htH8 (.tup [.int 6, .int 7])
      have I8 := I7.same sH8
      refine ⟨tH8, _, rfl, .inr (SqT.of upd_same), rfl, rfl, _, rfl, ?_⟩
      generalize upd H7 tH8 (.tup [.int 6, .int 7]) = H8 at sH8 I8 ⊢
      refine iteB (by rw [if_neg Bool.false_ne_true, hv]; decide +kernel) ?_
      refine ⟨_, rfl, _, rfl, ll, _, rfl, .inl (SqL.of I8.hl), rfl, flatStrs, _, rfl, ?_⟩
      by_cases hm : z ∈ S.L
      · refine iteC (by rw [if_pos rfl, inStrs, decide_eq_true hm]; rfl) ?_
        exact skip I8
      refine iteB (by rw [if_pos rfl, inStrs, decide_eq_false hm]; rfl) ?_
      obtain ⟨us, w1, w2⟩ := I8.h2
      have hlu : us.length ≤ 24 := by rw [w2.length]; omega
      refine ⟨_, rfl, lg, _, 2, .ref g2, rfl, rfl, SqL.of I8.gg, rfl, .inl ⟨rfl, _, SqL.of w1⟩, _, rfl, _, rfl, (by show 3 ≤ sizeLine; decide), fun u hu => ?_⟩
      have s9 := same_new hu (.tup [.str "tag", .str z, .bl fb])
      have tu : TAt (upd H8 u (.tup [.str "tag", .str z, .bl fb])) u ⟨3, z, fb⟩ := upd_same
      refine ⟨g2, _, _, rfl, rfl, s9 _ _ w1, small1000 (by rw [List.length_map]; omega), ?_⟩
      have J := (I8.same s9).add2 (s9 _ _ w1) (tats_same s9 w2) tu
      dsimp only [tNext]
      generalize upd (upd H8 u (.tup [.str "tag", .str z, .bl fb])) g2 (.lst (us.map V.ref ++ [.ref u])) = HJ at J ⊢
      refine ⟨_, rfl, .inl ⟨rfl, _, SqL.of J.hl⟩, _, rfl, ll, _, _, rfl, rfl, J.hl, small1000 (by rw [List.length_map]; show S.L.length ≤ 1000; omega), ?_⟩
      exact fin (k := 3) J.addL (by decide) (fun _ => hm)
    · -- 7
      refine ⟨_, rfl, rfl, _, rfl, ?_⟩
      refine dF (fun e' => by have := V.int.inj e'; omega) ?_
      refine iteF ?_
      refine ⟨_, rfl, rfl, _, rfl, ?_⟩
      refine dF (fun e' => by have := V.int.inj e'; omega) ?_
      refine iteF ?_
      refine ⟨_, rfl, (by show 3 ≤ sizeLine; decide), fun tH7 htH7 => ?_⟩
      have sH7 := same_new htH7 (.tup [.int 2, .int 3, .int 4])
      have I7 := I6.same sH7
      refine ⟨tH7, _, rfl, .inr (SqT.of upd_same), rfl, rfl, _, rfl, ?_⟩
      generalize upd H6 tH7 (.tup [.int 2, .int 3, .int 4]) = H7 at sH7 I7 ⊢
      refine iteC (by rw [if_neg Bool.false_ne_true, hv]; decide +kernel) ?_
      refine iteF ?_
      refine ⟨_, rfl, (by show 2 ≤ sizeLine; decide), fun tH8 htH8 => ?_⟩
      have sH8 := same_new htH8 (.tup [.int 6, .int 7])
      have I8 := I7.same sH8
      refine ⟨tH8, _, rfl, .inr (SqT.of upd_same), rfl, rfl, _, rfl, ?_⟩
      generalize upd H7 tH8 (.tup [.int 6, .int 7]) = H8 at sH8 I8 ⊢
      refine iteB (by rw [if_neg Bool.false_ne_true, hv]; decide +kernel) ?_
      refine ⟨_, rfl, _, rfl, ll, _, rfl, .inl (SqL.of I8.hl), rfl, flatStrs, _, rfl, ?_⟩
      by_cases hm : z ∈ S.L
      · refine iteC (by rw [if_pos rfl, inStrs, decide_eq_true hm]; rfl) ?_
        exact skip I8
      refine iteB (by rw [if_pos rfl, inStrs, decide_eq_false hm]; rfl) ?_
      obtain ⟨us, w1, w2⟩ := I8.h2
      have hlu : us.length ≤ 24 := by rw [w2.length]; omega
      refine ⟨_, rfl, lg, _, 2, .ref g2, rfl, rfl, SqL.of I8.gg, rfl, .inl ⟨rfl, _, SqL.of w1⟩, _, rfl, _, rfl, (by show 3 ≤ sizeLine; decide), fun u hu => ?_⟩
      have s9 := same_new hu (.tup [.str "tag", .str z, .bl fb])
      have tu : TAt (upd H8 u (.tup [.str "tag", .str z, .bl fb])) u ⟨3, z, fb⟩ := upd_same
      refine ⟨g2, _, _, rfl, rfl, s9 _ _ w1, small1000 (by rw [List.length_map]; omega), ?_⟩
      have J := (I8.same s9).add2 (s9 _ _ w1) (tats_same s9 w2) tu
      dsimp only [tNext]
      generalize upd (upd H8 u (.tup [.str "tag", .str z, .bl fb])) g2 (.lst (us.map V.ref ++ [.ref u])) = HJ at J ⊢
      refine ⟨_, rfl, .inl ⟨rfl, _, SqL.of J.hl⟩, _, rfl, ll, _, _, rfl, rfl, J.hl, small1000 (by rw [List.length_map]; show S.L.length ≤ 1000; omega), ?_⟩
      exact fin (k := 3) J.addL (by decide) (fun _ => hm)
    · -- 8
      refine ⟨_, rfl, rfl, _, rfl, ?_⟩
      refine dF (fun e' => by have := V.int.inj e'; omega) ?_
      refine iteF ?_
      refine ⟨_, rfl, rfl, _, rfl, ?_⟩
      refine dT (congrArg V.int hv) ?_
      obtain ⟨us, w1, w2⟩ := I6.h3
      refine ⟨_, rfl, lg, _, 3, .ref g3, rfl, rfl, SqL.of I6.gg, rfl, (by show 0 ≤ sizeLine; decide), fun l0 hl0 => ?_⟩
      have s7 := same_new hl0 (.lst [])
      have e7 : upd H6 l0 (.lst []) l0 = some (.lst []) := upd_same
      have I7 := I6.same s7
      have w1 := s7 _ _ w1
      have w2 := tats_same s7 w2
      generalize upd H6 l0 (.lst []) = H7 at s7 e7 I7 w1 w2 ⊢
      by_cases hT : S.B = []
      · rw [hT] at w2
        cases w2
        refine .inl ⟨g3, l0, 0, .lst [], fun _ => True, fun _ => True, rfl, rfl, by decide, Says.lst True.intro w1 .nil, Says.lst True.intro e7 .nil, _, rfl, ?_⟩
        refine iteT ?_
        refine ⟨_, rfl, lg, _, 3, .ref g3, rfl, rfl, SqL.of I7.gg, rfl, .inl ⟨rfl, _, SqL.of w1⟩, _, rfl, (by show 2 ≤ sizeLine; decide), fun u hu => ?_⟩
        have s9 := same_new hu (.tup [.str "bag", .str z])
        have tu : TAt (upd H7 u (.tup [.str "bag", .str z])) u ⟨4, z, fb⟩ := upd_same
        refine ⟨g3, _, _, rfl, rfl, s9 _ _ w1, small1000 (by show 0 ≤ 1000; decide), ?_⟩
        exact fin (k := 4) ((I7.same s9).add3 hT tu) (by decide) (fun e => by cases e)
      refine .inr ⟨g3, l0, _, _, rfl, rfl, w1, e7, (by rw [List.length_map, w2.length]; exact fun e => hT (List.eq_nil_of_length_eq_zero e)), _, rfl, ?_⟩
      refine iteF ?_
      refine ⟨_, rfl, (by show 3 ≤ sizeLine; decide), fun tH8 htH8 => ?_⟩
      have sH8 := same_new htH8 (.tup [.int 2, .int 3, .int 4])
      have I8 := I7.same sH8
      refine ⟨tH8, _, rfl, .inr (SqT.of upd_same), rfl, rfl, _, rfl, ?_⟩
      generalize upd H7 tH8 (.tup [.int 2, .int 3, .int 4]) = H8 at sH8 I8 ⊢
      refine iteC (by rw [if_neg Bool.false_ne_true, hv]; decide +kernel) ?_
      refine iteF ?_
      refine ⟨_, rfl, (by show 2 ≤ sizeLine; decide), fun tH9 htH9 => ?_⟩
      have sH9 := same_new htH9 (.tup [.int 6, .int 7])
      have I9 := I8.same sH9
      refine ⟨tH9, _, rfl, .inr (SqT.of upd_same), rfl, rfl, _, rfl, ?_⟩
      generalize upd H8 tH9 (.tup [.int 6, .int 7]) = H9 at sH9 I9 ⊢
      refine iteC (by rw [if_neg Bool.false_ne_true, hv]; decide +kernel) ?_
      refine iteF ?_
      exact skip I9
  · rintro σ H6 ⟨S, v4, v5, v6, v7, rfl, I6, M6⟩
    rw [List.length_map] at M6
    have lnS := M6.ln
    obtain ⟨u0, a0, b0⟩ := I6.h0
    obtain ⟨u1, a1, b1⟩ := I6.h1
    obtain ⟨u2, a2, b2⟩ := I6.h2
    obtain ⟨u3, a3, b3⟩ := I6.h3
    have c0 := b0.length
    have c1 := b1.length
    have c2 := b2.length
    have c3 := b3.length
    refine ⟨_, rfl, lg, _, 0, .ref g0, rfl, rfl, SqL.of I6.gg, rfl, _, rfl, lg, _, 1, .ref g1, rfl, rfl, SqL.of I6.gg, rfl, g0, g1, _, _, rfl, rfl, a0, a1, le1000 (by rw [List.length_map, List.length_map]; omega), fun p1 hp1 => ?_⟩
    have t1 := same_new hp1 (.lst (u0.map V.ref ++ u1.map V.ref))
    have f1 : upd H6 p1 (.lst (u0.map V.ref ++ u1.map V.ref)) p1 = some (.lst (u0.map V.ref ++ u1.map V.ref)) := upd_same
    generalize upd H6 p1 (.lst (u0.map V.ref ++ u1.map V.ref)) = H7 at t1 f1 ⊢
    refine ⟨_, rfl, lg, _, 2, .ref g2, rfl, rfl, SqL.of (t1 _ _ I6.gg), rfl, p1, g2, _, _, rfl, rfl, f1, t1 _ _ a2, le1000 (by rw [List.length_append, List.length_map, List.length_map, List.length_map]; omega), fun p2 hp2 => ?_⟩
    have t2 := same_new hp2 (.lst (u0.map V.ref ++ u1.map V.ref ++ u2.map V.ref))
    have f2 : upd H7 p2 (.lst (u0.map V.ref ++ u1.map V.ref ++ u2.map V.ref)) p2 = some (.lst (u0.map V.ref ++ u1.map V.ref ++ u2.map V.ref)) := upd_same
    generalize upd H7 p2 (.lst (u0.map V.ref ++ u1.map V.ref ++ u2.map V.ref)) = H8 at t2 f2 ⊢
    have t12 := t1.trans t2
    refine ⟨_, rfl, lg, _, 3, .ref g3, rfl, rfl, SqL.of (t12 _ _ I6.gg), rfl, p2, g3, _, _, rfl, rfl, f2, t12 _ _ a3, le1000 (by simp only [List.length_append, List.length_map]; omega), fun p3 hp3 => ?_⟩
    have t3 := same_new hp3 (.lst (u0.map V.ref ++ u1.map V.ref ++ u2.map V.ref ++ u3.map V.ref))
    have t13 := t12.trans t3
    refine q p3 (u0 ++ u1 ++ u2 ++ u3) S.rows _ (I6.sm.trans t13) (I6.sm.free (t12.free hp3)) ?_ ?_ (M6.vr (by omega))
    · rw [upd_same]
      simp only [List.map_append]
    · have paired_app' : ∀ {α β : Type} {R : α → β → Prop} {a c : List α} {b d : List β}, Paired R a b → Paired R c d → Paired R (a ++ c) (b ++ d) := by
        intro α β R a c b d h1 h2
        induction h1 with
        | nil => exact h2
        | cons r t ih => exact .cons r ih
      unfold FS.rows
      exact paired_app' (paired_app' (paired_app' (tats_same t13 b0) (tats_same t13 b1)) (tats_same t13 b2)) (tats_same t13 b3)
end
end K91

set_option Elab.async false
set_option linter.all false
set_option maxRecDepth 100000
set_option maxHeartbeats 4000000
namespace K91
open PySem L2 PyProof.Rows
theorem row_at0 {r : Rw} (h : r.ok) : atI (rv r) 0 = some (.str (kw r.k)) := by
  obtain ⟨k, z, b⟩ := r
  rcases lt5 h.1 with e | e | e | e | e <;> (cases e; rfl)
theorem row_at1 {r : Rw} (h : r.ok) : atI (rv r) 1 = some (.str r.z) := by
  obtain ⟨k, z, b⟩ := r
  rcases lt5 h.1 with e | e | e | e | e <;> (cases e; rfl)
theorem in_nm' {k : Nat} (h : k < 5) : inV (.str (kw k)) [.str "both", .str "tag"] = byNm k := in_nm k h
theorem nms_zip {R : Addr → Rw → Prop} {us : List Addr} {rows : List Rw} (h : Paired R us rows) : ((us.zip rows).filter fun p => byNm p.2.k).map (fun p => V.str p.2.z) = (nms rows).map V.str := by
  have := zip_out h (fun r => byNm r.k) (fun r => V.str r.z)
  rw [this]
  unfold nms
  rw [List.map_map]
  rfl
def spLBars (K : PySem.W.Frag) : Sp := fun vs H Q _ => ∃ (a pa la : Addr) (cs : List Int) (zs : List Str) (us : List Addr) (rows : List Rw), vs = [.ref a, .ref pa, .ref la] ∧ SqL K H a (cs.map V.int) ∧ cs.length ≤ 20 ∧ H pa = some (.lst (zs.map V.str)) ∧ 0 < zs.length ∧ (∀ z ∈ zs, nameB z = true) ∧ H la = some (.lst (us.map V.ref)) ∧ Paired (TAt H) us rows ∧ VR rows ∧
  ∀ (l : Addr) (bars : List Str) (H' : Hp), Same H H' → H l = none → H' l = some (.lst (bars.map V.str)) → Valid rows bars → Q (.ref l) H'
section
variable {P : Program} {w : World} {K : PySem.W.Frag} {mg : Str → Option Value} {base : Heap} {f : Addr} {fd : FuncData}
theorem ndOne : ([Str.ofString "_law_one"] : List Str).Nodup := by decide +kernel
theorem scLBars : FnScope ["_law_cells", "_law_pool_here", "_law_specs_here", "_law_seen", "_law_shut", "_law_cell", "_law_name"] ["_law_cells", "_law_pool_here", "_law_specs_here"] (defScope sBars) := ⟨rfl, rfl, rfl, by decide +kernel, rfl, by decide +kernel, by decide +kernel⟩
theorem ok_lbars (F : Fun K "_law_bars" "_law_bars" sBars f fd) (T : TxtL mg) : FnOk P w K mg base CX0 1 f fd ["_law_cells", "_law_pool_here", "_law_specs_here"] (spLBars K) := by
  refine F.ok scLBars (fun vs H Q E h => ?_) (fun cdv A outer s H vs Q E hr h => ?_)
  · obtain ⟨a, pa, la, cs, zs, us, rows, rfl, _⟩ := h
    rfl
  obtain ⟨a, pa, la, cs, zs, us, rows, rfl, hS, l20, hpa, z0, hzn, hla, hu, V1, q⟩ := h
  refine ⟨_, pss_cons (ps_lc (i := 3) [] ["_law_one"] [none] scLBars.nd rfl (Or.inl rfl) rfl ⟨rfl, rfl, rfl, rfl⟩ (pi_list (pv 2)) (gown_name 0) rfl rfl rfl
      (fun pins fp s H C => ⟨pg_name (i := 0) ndOne rfl (Or.inl rfl) (.inr rfl), pif_one (pt_cmpR (r := rIn K false) op_in_seq (pe_ix (r := rIxT K) ix_tup (pv 0) pe_int (fun _ _ => rfl)) (pe_tup (ac pe_str (ac pe_str pa_nil))) (by with_unfolding_all rfl)), pe_ix (r := rIxT K) ix_tup (pv 0) pe_int (fun _ _ => rfl)⟩))
    (pss_cons (ps_set (i := 4) scLBars.nd rfl (Or.inl rfl) (pe_lst pa_nil))
    (pss_cons (ps_for PassesOwn.never rfl (pi_list (pv 0)) (pg_name (i := 5) scLBars.nd rfl (Or.inl rfl))
      (pss_cons (ps_set (i := 6) scLBars.nd rfl (Or.inl rfl) (pe_ix ix_list (pv 1) (pe_op op_mod (pv 5) (cB call_len_seq T.len PySem.boot_len (ac (pv 1) pa_nil))) (fun _ _ => rfl)))
      (pss_one (ps_if (PW.pt (pw_and (pt_cmpR op_notIn_seq (pv 6) (pv 3) (by with_unfolding_all rfl)) (pw_and1 (pt_cmpR op_notIn_seq (pv 6) (pv 4) (by with_unfolding_all rfl))))) (pss_one (ps_expr (pe_bm PySem.F.plainAttrs_list PySem.F.slot_list_append PySem.F.type_list_append mt_append (pv 4) (ac (pv 6) pa_nil)))) pss_nil))))
    (pss_one (ps_ret (pv 4))))), ?_⟩
  have l24 := V1.l24
  refine ⟨_, rfl, la, rfl, ⟨_, SqL.of hla⟩, fun D hD => ?_⟩
  refine lc_zip (K := K) TAt (fun r => byNm r.k) (fun _ r => .str r.z) hD hla hu (by omega) (fun i u r H' N S hu' hr' tr sH n1 s1 => ?_) (fun H1 s1 hD1 => ?_)
  · have rk := V1.ok r (List.mem_of_getElem? hr')
    have tu := sH _ _ tr
    refine ⟨_, rfl, u, _, 0, _, rfl, rfl, SqT.of tu, row_at0 rk, (by show 2 ≤ sizeLine; decide), fun l hl => ?_⟩
    have s2 := same_new hl (.tup [.str "both", .str "tag"])
    refine ⟨l, _, rfl, .inr (SqT.of upd_same), rfl, rfl, _, rfl, ?_⟩
    rw [if_neg Bool.false_ne_true, in_nm' rk.1]
    exact ⟨fun e => ⟨_, rfl, u, _, 1, _, rfl, rfl, SqT.of (s2 _ _ tu), row_at1 rk, n1 _ s2 e⟩, fun e => s1 _ s2 e⟩
  rw [nms_zip hu] at hD1
  refine ⟨(by show 0 ≤ sizeLine; decide), fun fo hfo => ?_⟩
  have s2 := same_new hfo (.lst [])
  have g2 : upd H1 fo (.lst []) fo = some (.lst []) := upd_same
  dsimp only [gName]
  generalize upd H1 fo (.lst []) = H2 at s2 g2 ⊢
  have s12 := s1.trans s2
  have nD := s2 _ _ hD1
  have nfo : H fo = none := s1.free hfo
  have neD : D ≠ fo := ne_of_none hD1 hfo
  have lz : ((zs.map V.str).length : Int) = (zs.length : Int) := by rw [List.length_map]
  refine ⟨_, rfl, a, rfl, ⟨_, s12.seq hS⟩, for_list (K := K) (a := a) (xs := cs.map V.int) (fun i σ H' => ∃ (bars : List Str) (v5 v6 : Option V), σ = [some (.ref a), some (.ref pa), some (.ref la), some (.ref D), some (.ref fo), v5, v6] ∧ Same H H' ∧ H' D = some (.lst ((nms rows).map V.str)) ∧ H' fo = some (.lst (bars.map V.str)) ∧ bars.Nodup ∧ (∀ z ∈ bars, nameB z = true) ∧ (∀ z ∈ bars, z ∉ nms rows) ∧ bars.length ≤ i)
    ⟨[], _, _, rfl, s12, nD, g2, List.nodup_nil, (fun _ h => nomatch h), (fun _ h => nomatch h), Nat.le_refl _⟩ (fun i σ H' _ ⟨_, _, _, _, sH, _⟩ => sH.seq hS) ?_ ?_⟩
  · rintro i x σ H3 hx ⟨bars, v5, v6, rfl, s3, eD, eF, nd, nm, nk, ln⟩
    obtain ⟨n, hn, rfl⟩ : ∃ n, cs[i]? = some n ∧ x = .int n := by
      rw [List.getElem?_map] at hx
      cases e : cs[i]? with
      | none => rw [e] at hx; cases hx
      | some n => rw [e] at hx; cases hx; exact ⟨n, rfl, rfl⟩
    have hi : i < cs.length := (List.getElem?_eq_some_iff.mp hn).1
    have d0 : 0 ≤ n % (zs.length : Int) := Int.emod_nonneg _ (by omega)
    have d1 : n % (zs.length : Int) < (zs.length : Int) := Int.emod_lt_of_pos _ (by omega)
    obtain ⟨j, hj⟩ := Int.eq_ofNat_of_zero_le d0
    have hjl : j < zs.length := by omega
    have hpa3 := s3 _ _ hpa
    refine ⟨_, rfl, _, rfl, _, rfl, pa, _, rfl, .inl (SqL.of hpa3), _, _, rfl, rfl, (by rw [lz]; omega), pa, _, _, .str zs[j], rfl, rfl, SqL.of hpa3, (by rw [lz, hj]; exact atI_nat (by rw [List.getElem?_map, List.getElem?_eq_getElem hjl]; rfl)), ?_⟩
    have hz := hzn _ (List.getElem_mem hjl)
    generalize zs[j] = z at hz ⊢
    refine ⟨_, rfl, _, rfl, D, _, rfl, .inl (SqL.of eD), rfl, flatStrs, _, rfl, ?_⟩
    by_cases hk : z ∈ nms rows
    · refine iteC (by rw [if_pos rfl, inStrs, decide_eq_true hk]; rfl) ?_
      refine iteF ?_
      exact ⟨bars, _, _, rfl, s3, eD, eF, nd, nm, nk, Nat.le_succ_of_le ln⟩
    refine iteB (by rw [if_pos rfl, inStrs, decide_eq_false hk]; rfl) ?_
    refine ⟨_, rfl, _, rfl, fo, _, rfl, .inl (SqL.of eF), rfl, flatStrs, _, rfl, ?_⟩
    by_cases hb : z ∈ bars
    · refine iteC (by rw [if_pos rfl, inStrs, decide_eq_true hb]; rfl) ?_
      exact ⟨bars, _, _, rfl, s3, eD, eF, nd, nm, nk, Nat.le_succ_of_le ln⟩
    refine iteB (by rw [if_pos rfl, inStrs, decide_eq_false hb]; rfl) ?_
    refine ⟨_, rfl, .inl ⟨rfl, _, SqL.of eF⟩, _, rfl, fo, _, _, rfl, rfl, eF, small1000 (by rw [List.length_map]; omega), ?_⟩
    refine ⟨bars ++ [z], _, _, rfl, fun b u e => by rw [upd_ne (ne_of_none e nfo)]; exact s3 _ _ e, by rw [upd_ne neD]; exact eD, by rw [upd_same, List.map_append]; rfl, List.nodup_append.mpr ⟨nd, by simp, fun x hx y hy e => hb (by rw [← List.mem_singleton.mp hy, ← e]; exact hx)⟩, fun y hy => ?_, fun y hy => ?_, by rw [List.length_append]; exact Nat.succ_le_succ ln⟩
    · rcases List.mem_append.mp hy with hy | hy
      · exact nm y hy
      · rw [List.mem_singleton.mp hy]; exact hz
    · rcases List.mem_append.mp hy with hy | hy
      · exact nk y hy
      · rw [List.mem_singleton.mp hy]; exact hk
  · rintro σ H3 ⟨bars, v5, v6, rfl, s3, eD, eF, nd, nm, nk, ln⟩
    rw [List.length_map] at ln
    exact ⟨_, rfl, q fo bars H3 s3 nfo eF ⟨V1.ok, V1.l24, by omega, V1.ord, nm, List.nodup_append.mpr ⟨V1.nd, nd, fun x hx y hy e => nk y hy (e ▸ hx)⟩⟩⟩
end
end K91

set_option Elab.async false
set_option linter.all false
set_option maxRecDepth 100000
set_option maxHeartbeats 4000000
namespace K91
open PySem L2 PyProof.Rows
section
variable {P : Program} {w : World} {K : PySem.W.Frag} {mg : Str → Option Value} {base : Heap} {f : Addr} {fd : FuncData}

def thingF (c : Int) : Int := if V.int (c % 2) = V.int 0 then c / 2 % 41 - 20 else c / 2 % (2 * 10 ^ (60 : Int).toNat - 1) - (10 ^ (60 : Int).toNat - 1)
def spThing : Sp := fun vs H Q _ => ∃ c : Int, vs = [.int c] ∧ Q (.int (thingF c)) H
theorem scThing : FnScope ["_law_cell"] ["_law_cell"] (defScope sThing) := ⟨rfl, rfl, rfl, by decide +kernel, rfl, by decide +kernel, by decide +kernel⟩
theorem ok_thing (F : Fun K "_law_thing" "_law_thing" sThing f fd) : FnOk P w K mg base CX0 1 f fd ["_law_cell"] spThing := by
  refine F.ok scThing (fun vs H Q E h => ?_) (fun cdv A outer s H vs Q E hr h => ?_)
  · obtain ⟨c, rfl, _⟩ := h
    rfl
  obtain ⟨c, rfl, q⟩ := h
  unfold thingF at q
  refine ⟨_, pss_cons (ps_if (pt_cmpR op_eq (pe_op op_mod (pv 0) pe_int) pe_int (nomark _)) (pss_one (ps_ret (pe_op op_sub (pe_op op_mod (pe_op op_fdiv (pv 0) pe_int) pe_int) pe_int))) pss_nil)
    (pss_one (ps_ret (pe_op op_sub (pe_op op_mod (pe_op op_fdiv (pv 0) pe_int) (pe_op op_sub (pe_op op_mul pe_int (pe_op op_pow pe_int pe_int)) pe_int)) (pe_op op_sub (pe_op op_pow pe_int pe_int) pe_int)))), ?_⟩
  refine ⟨_, rfl, _, _, rfl, rfl, (by show (0 : Int) < 2; decide), rfl, _, rfl, ?_⟩
  refine ite2 (fun h => ?_) (fun h => ?_)
  · rw [if_pos (of_decide_eq_true h)] at q
    exact ⟨_, rfl, _, _, rfl, rfl, ⟨by decide, by decide⟩, _, _, rfl, rfl, (by show (0 : Int) < 41; decide), _, _, rfl, rfl, q⟩
  · rw [if_neg (fun z => h (decide_eq_true z))] at q
    exact ⟨_, rfl, _, _, rfl, rfl, ⟨by decide, by decide⟩, _, _, rfl, rfl, ⟨by decide, by decide, by decide⟩, _, _, rfl, rfl, .inl ⟨by decide, by decide⟩, _, _, rfl, rfl, _, _, rfl, rfl, (by show (0 : Int) < 2 * 10 ^ Int.toNat 60 - 1; decide +kernel), _, _, rfl, rfl, ⟨by decide, by decide, by decide⟩, _, _, rfl, rfl, _, _, rfl, rfl, q⟩
def nmAt (zs : List Str) (i : Int) : Str := zs.getD (i % (zs.length : Int)).toNat ""
def rowF (rest : Int) : List Int := (List.range (rest % 5).toNat).map fun (k : Nat) => thingF (rest + (k : Int) * (k : Int))
def namesF (zs : List Str) (rest : Int) : List Str := (List.range (rest % 4).toNat).map fun (k : Nat) => nmAt zs (rest + (k : Int) * (1 + rest / 5 % 3))
def bookF (zs : List Str) (rest : Int) : List (Str × Int) := (namesF zs rest).map fun z => (z, thingF (rest / 5 + (z.length : Int)))
def itemF (zs : List Str) (c : Int) : Item :=
  if c % 8 < 3 then .one (thingF (c / 8)) else if V.int (c % 8) = V.int 3 then .row (rowF (c / 8)) else if V.int (c % 8) = V.int 7 then .book (bookF zs (c / 8)) else .named (nmAt zs (c / 8)) (thingF (c / 8 / 3))
theorem nm_at {zs : List Str} (h : 0 < zs.length) (x : Int) : atI (zs.map V.str) (x % ((zs.map V.str).length : Int)) = some (.str (nmAt zs x)) ∧ nmAt zs x ∈ zs := by
  have lz : (0 : Int) < (zs.length : Int) := by omega
  have h0 := Int.emod_nonneg x (Int.ne_of_gt lz)
  have h1 := Int.emod_lt_of_pos x lz
  rw [List.length_map]
  obtain ⟨v, hv, hat, hg⟩ := atI_pos (xs := zs.map V.str) h0 (by rw [List.length_map]; exact h1)
  rw [List.getElem?_map] at hg
  have hk : (x % (zs.length : Int)).toNat < zs.length := by omega
  rw [List.getElem?_eq_getElem hk] at hg
  have e : nmAt zs x = zs[(x % (zs.length : Int)).toNat] := by
    unfold nmAt
    rw [List.getD_eq_getElem?_getD, List.getElem?_eq_getElem hk]
    rfl
  rw [e]
  have e2 : v = .str zs[(x % (zs.length : Int)).toNat] := (Option.some.inj hg).symm
  rw [← e2]
  exact ⟨hat, List.getElem_mem hk⟩
def spItems (K : PySem.W.Frag) : Sp := fun vs H Q _ => ∃ (cs pl : Addr) (ns : List Int) (zs : List Str), vs = [.ref cs, .ref pl] ∧ SqL K H cs (ns.map V.int) ∧ ns.length ≤ 63 ∧ H pl = some (.lst (zs.map V.str)) ∧ 0 < zs.length ∧ (∀ z ∈ zs, z.length ≤ 100) ∧
  ∀ (r : Addr) (xs : List V) (H' : Hp), Same H H' → H r = none → H' r = some (.lst xs) → Paired (Says K T' H' 3) xs ((ns.map (itemF zs)).map itemD) → Q (.ref r) H'
theorem ndK : ([Str.ofString "_law_k", Str.ofString "_law_rest"] : List Str).Nodup := by decide +kernel
theorem ndP : ([Str.ofString "_law_k", Str.ofString "_law_pool_here", Str.ofString "_law_rest"] : List Str).Nodup := by decide +kernel
theorem ndB : ([Str.ofString "_law_name", Str.ofString "_law_rest"] : List Str).Nodup := by decide +kernel
theorem scItems : FnScope ["_law_cells", "_law_pool_here", "_law_items_here", "_law_cell", "_law_kind", "_law_rest", "_law_names"] ["_law_cells", "_law_pool_here"] (defScope sItems) := ⟨rfl, rfl, rfl, by decide +kernel, rfl, by decide +kernel, by decide +kernel⟩
theorem ok_items {g : Addr} {gd : FuncData} (F : Fun K "_law_items" "_law_items" sItems f fd) (T : TxtL mg) (cT : Callee P w K mg base 1 "_law_thing" g gd ["_law_cell"] spThing) : FnOk P w K mg base CX0 2 f fd ["_law_cells", "_law_pool_here"] (spItems K) := by
  refine F.ok scItems (fun vs H Q E h => ?_) (fun cdv A outer s H vs Q E hr h => ?_)
  · obtain ⟨cs, pl, ns, zs, rfl, _⟩ := h
    rfl
  obtain ⟨cs, pl, ns, zs, rfl, hS, h63, hpl, hz0, hz1, q⟩ := h
  refine ⟨_, pss_cons (ps_set (i := 2) scItems.nd rfl (Or.inl rfl) (pe_lst pa_nil))
    (pss_cons (ps_for PassesOwn.never rfl (pi_list (pv 0)) (pg_name (i := 3) scItems.nd rfl (Or.inl rfl))
      (pss_cons (ps_set (i := 4) scItems.nd rfl (Or.inl rfl) (pe_op op_mod (pv 3) pe_int))
      (pss_cons (ps_set (i := 5) scItems.nd rfl (Or.inr rfl) (pe_op op_fdiv (pv 3) pe_int))
      (pss_one (ps_if (pt_cmpR op_lt (pv 4) pe_int (nomark _))
        (pss_one (ps_expr (pe_bm PySem.F.plainAttrs_list PySem.F.slot_list_append PySem.F.type_list_append mt_append (pv 2) (ac (pe_tup (ac pe_str (ac (cF cT hr (ac (pv 5) pa_nil)) pa_nil))) pa_nil))))
        (pss_one (ps_if (pt_cmpR op_eq (pv 4) pe_int (nomark _))
          (pss_one (ps_expr (pe_bm PySem.F.plainAttrs_list PySem.F.slot_list_append PySem.F.type_list_append mt_append (pv 2) (ac (pe_tup (ac pe_str (ac (pe_lc ["_law_rest"] ["_law_k", "_law_rest"] [none, some 5] rfl ⟨rfl, rfl, rfl, rfl⟩ (pi_range1 rfl T.range (ac (pe_op op_mod (pv 5) pe_int) pa_nil)) (gown_name 0) rfl rfl rfl
            (fun pins fp s H C => ⟨pg_name (i := 0) ndK rfl (Or.inl rfl) (.inr rfl), pif_nil, cF cT hr (ac (pe_op op_add (pv 1) (pe_op op_mul (pv 0) (pv 0))) pa_nil)⟩)) pa_nil))) pa_nil))))
          (pss_one (ps_if (pt_cmpR op_eq (pv 4) pe_int (nomark _))
            (pss_cons (ps_lc (i := 6) ["_law_rest", "_law_pool_here"] ["_law_k", "_law_pool_here", "_law_rest"] [none, some 1, some 5] scItems.nd rfl (Or.inl rfl) rfl ⟨rfl, rfl, rfl, rfl⟩ (pi_range1 rfl T.range (ac (pe_op op_mod (pv 5) pe_int) pa_nil)) (gown_name 0) rfl rfl rfl
              (fun pins fp s H C => ⟨pg_name (i := 0) ndP rfl (Or.inl rfl) (.inr rfl), pif_nil, pe_ix (r := rIxL K) ix_list (pv 1) (pe_op op_mod (pe_op op_add (pv 2) (pe_op op_mul (pv 0) (pe_op op_add pe_int (pe_op op_mod (pe_op op_fdiv (pv 2) pe_int) pe_int)))) (cB (r := fun xs H Q => ∃ p ys, xs = [.ref p] ∧ (SqL K H p ys ∨ SqT K H p ys) ∧ Q (.int ys.length) H) call_len_seq T.len PySem.boot_len (ac (pv 1) pa_nil))) (fun _ _ => rfl)⟩))
            (pss_one (ps_expr (pe_bm PySem.F.plainAttrs_list PySem.F.slot_list_append PySem.F.type_list_append mt_append (pv 2) (ac (pe_tup (ac pe_str (ac (pe_lc ["_law_rest"] ["_law_name", "_law_rest"] [none, some 5] rfl ⟨rfl, rfl, rfl, rfl⟩ (pi_list (pv 6)) (gown_name 0) rfl rfl rfl
              (fun pins fp s H C => ⟨pg_name (i := 0) ndB rfl (Or.inl rfl) (.inr rfl), pif_nil, pe_tup (ac (pv 0) (ac (cF cT hr (ac (pe_op op_add (pe_op op_fdiv (pv 1) pe_int) (cB call_len_str T.len PySem.boot_len (ac (pv 0) pa_nil))) pa_nil)) pa_nil))⟩)) pa_nil))) pa_nil)))))
            (pss_one (ps_expr (pe_bm PySem.F.plainAttrs_list PySem.F.slot_list_append PySem.F.type_list_append mt_append (pv 2) (ac (pe_tup (ac pe_str (ac (pe_ix ix_list (pv 1) (pe_op op_mod (pv 5) (cB call_len_seq T.len PySem.boot_len (ac (pv 1) pa_nil))) (fun _ _ => rfl)) (ac (cF cT hr (ac (pe_op op_fdiv (pv 5) pe_int) pa_nil)) pa_nil)))) pa_nil)))))))))))))
    (pss_one (ps_ret (pv 2)))), ?_⟩
  refine ⟨(by show 0 ≤ sizeLine; decide), fun r hrn => ?_⟩
  have sr := same_new hrn (.lst [])
  refine ⟨_, rfl, cs, rfl, ⟨_, sr.seq hS⟩, for_list (K := K) (a := cs) (xs := ns.map V.int) (fun i σ H2 => ∃ v3 v4 v5 v6 xs, σ = [some (.ref cs), some (.ref pl), some (.ref r), v3, v4, v5, v6] ∧ Same H H2 ∧ H2 r = some (.lst xs) ∧ Paired (Says K (fun b => b ≠ r) H2 3) xs (((ns.take i).map (itemF zs)).map itemD))
    ⟨_, _, _, _, [], rfl, sr, upd_same, .nil⟩ (fun i σ H2 _ ⟨_, _, _, _, _, _, s2, _⟩ => s2.seq hS) ?_ ?_⟩
  · rintro i y σ H2 hi ⟨v3, v4, v5, v6, xs, rfl, s2, g, hx⟩
    obtain ⟨c, hc, rfl⟩ := int_get hi
    have hil : i < ns.length := (List.getElem?_eq_some_iff.mp hc).1
    have lx : xs.length ≤ i := by rw [hx.length, List.length_map, List.length_map, List.length_take]; omega
    have hpl2 := s2 _ _ hpl
    have fin : ∀ {H3 : Hp} {x : V} {v6 : Option V}, Same H2 H3 → Says K (fun b => b ≠ r) H3 3 x (itemD (itemF zs c)) → ∃ v3 v4 v5 v6' xs', [some (V.ref cs), some (.ref pl), some (.ref r), some (.int c), some (.int (c % 8)), some (.int (c / 8)), v6] = [some (V.ref cs), some (.ref pl), some (.ref r), v3, v4, v5, v6'] ∧ Same H (upd H3 r (.lst (xs ++ [x]))) ∧ upd H3 r (.lst (xs ++ [x])) r = some (.lst xs') ∧ Paired (Says K (fun b => b ≠ r) (upd H3 r (.lst (xs ++ [x]))) 3) xs' (((ns.take (i + 1)).map (itemF zs)).map itemD) := by
      intro H3 x v6 s3 hsx
      refine ⟨_, _, _, _, xs ++ [x], rfl, same_upd (s2.trans s3) hrn _, upd_same, ?_⟩
      rw [take_snocL hc, List.map_append, List.map_append]
      exact paired_app (Paired.imp' (fun _ _ z => says_upd (.inr ⟨_, s3 _ _ g⟩) (fun b hb _ => ⟨hb, hb⟩) (z.same s3)) hx) (.cons (says_upd (.inr ⟨_, s3 _ _ g⟩) (fun b hb _ => ⟨hb, hb⟩) hsx) .nil)
    refine ⟨_, rfl, _, _, rfl, rfl, (by show (0 : Int) < 8; decide), ?_⟩
    refine ⟨_, rfl, _, _, rfl, rfl, ⟨by decide, by decide⟩, ?_⟩
    refine ⟨_, rfl, _, _, rfl, rfl, _, rfl, ?_⟩
    refine ite2 (fun cc => ?_) (fun cc => ?_)
    · have c1 : c % 8 < 3 := of_decide_eq_true cc
      have e : itemF zs c = .one (thingF (c / 8)) := by unfold itemF; rw [if_pos c1]
      refine ⟨_, rfl, .inl ⟨rfl, _, SqL.of g⟩, _, rfl, c / 8, rfl, (by show 2 ≤ sizeLine; decide), fun tp htp => ?_⟩
      have st := same_new htp (.tup [.str "one", .int (thingF (c / 8))])
      refine ⟨r, _, _, rfl, rfl, st _ _ g, small1000 (by omega), ?_⟩
      exact fin st (by rw [e]; exact .tup (SqT.of upd_same) (.cons .str (.cons .int .nil)))
    have c1 : ¬ c % 8 < 3 := fun z => cc (decide_eq_true z)
    refine ⟨_, rfl, rfl, _, rfl, ?_⟩
    refine ite2 (fun cc2 => ?_) (fun cc2 => ?_)
    · have e : itemF zs c = .row (rowF (c / 8)) := by unfold itemF; rw [if_neg c1, if_pos (of_decide_eq_true cc2)]
      have m0 : 0 ≤ c / 8 % 5 := Int.emod_nonneg _ (by decide)
      have m1 : c / 8 % 5 < 5 := Int.emod_lt_of_pos _ (by decide)
      refine ⟨_, rfl, .inl ⟨rfl, _, SqL.of g⟩, _, rfl, _, _, rfl, rfl, (by show (0 : Int) < 5; decide), c / 8 % 5, rfl, by omega, by omega, fun D hD => ?_⟩
      refine lc_range (n := (c / 8 % 5).toNat) (fun j ys H' => Same H2 H' ∧ H' D = some (.lst ys) ∧ ys = ((List.range j).map fun (k : Nat) => thingF (c / 8 + (k : Int) * (k : Int))).map V.int) ⟨same_new hD _, upd_same, rfl⟩ ?_ ?_
      · rintro j ys H' hj ⟨sH, hDy, ey⟩
        have e0 : (0 : Int) + (j : Int) = (j : Nat) := by omega
        rw [e0]
        refine ⟨fun _ => ⟨_, rfl, _, rfl, _, rfl, _, _, rfl, rfl, .inl ⟨by omega, by omega⟩, _, _, rfl, rfl, _, rfl, lcN.mk hj (le1000 (by omega)) hDy (by rw [ey, List.length_map, List.length_map, List.length_range]; exact Nat.le_refl _) ⟨same_upd sH hD _, upd_same, ?_⟩⟩, fun z => absurd z (by decide)⟩
        rw [ey, List.range_succ, List.map_append, List.map_append]
        rfl
      rintro ys H3 ⟨s3, hDy, ey⟩
      refine ⟨(by show 2 ≤ sizeLine; decide), fun tp htp => ?_⟩
      have st := same_new htp (.tup [.str "row", .ref D])
      refine ⟨r, _, _, rfl, rfl, (s3.trans st) _ _ g, small1000 (by omega), ?_⟩
      refine fin (s3.trans st) ?_
      rw [e]
      have hD3 := st _ _ hDy
      rw [ey] at hD3
      exact .tup (SqT.of upd_same) (.cons .str (.cons (.lst (ne_of_none g hD).symm hD3 (ints_says _)) .nil))
    refine ⟨_, rfl, rfl, _, rfl, ?_⟩
    refine ite2 (fun cc3 => ?_) (fun cc3 => ?_)
    · have e : itemF zs c = .book (bookF zs (c / 8)) := by unfold itemF; rw [if_neg c1, if_neg (fun z => cc2 (decide_eq_true z)), if_pos (of_decide_eq_true cc3)]
      have m0 : 0 ≤ c / 8 % 4 := Int.emod_nonneg _ (by decide)
      have m1 : c / 8 % 4 < 4 := Int.emod_lt_of_pos _ (by decide)
      refine ⟨_, rfl, _, _, rfl, rfl, (by show (0 : Int) < 4; decide), c / 8 % 4, rfl, by omega, by omega, fun D hD => ?_⟩
      refine lc_range (n := (c / 8 % 4).toNat) (fun j ys H' => Same H2 H' ∧ H' D = some (.lst ys) ∧ ys = ((List.range j).map fun (k : Nat) => nmAt zs (c / 8 + (k : Int) * (1 + c / 8 / 5 % 3))).map V.str) ⟨same_new hD _, upd_same, rfl⟩ ?_ ?_
      · rintro j ys H' hj ⟨sH, hDy, ey⟩
        have e0 : (0 : Int) + (j : Int) = (j : Nat) := by omega
        rw [e0]
        have lz : (0 : Int) < ((zs.map V.str).length : Int) := by rw [List.length_map]; omega
        obtain ⟨hat, _⟩ := nm_at hz0 (c / 8 + (j : Int) * (1 + c / 8 / 5 % 3))
        refine ⟨fun _ => ⟨_, rfl, _, rfl, _, rfl, _, rfl, _, _, rfl, rfl, ⟨by decide, by decide⟩, _, _, rfl, rfl, (by show (0 : Int) < 3; decide), _, _, rfl, rfl, _, _, rfl, rfl, .inl ⟨by omega, by omega⟩, _, _, rfl, rfl, _, rfl, pl, _, rfl, .inl (SqL.of (sH _ _ hpl2)), _, _, rfl, rfl, lz, pl, _, _, _, rfl, rfl, SqL.of (sH _ _ hpl2), hat,
          lcN.mk hj (le1000 (by omega)) hDy (by rw [ey, List.length_map, List.length_map, List.length_range]; exact Nat.le_refl _) ⟨same_upd sH hD _, upd_same, ?_⟩⟩, fun z => absurd z (by decide)⟩
        rw [ey, List.range_succ, List.map_append, List.map_append]
        rfl
      rintro ys H3 ⟨s3, hDy, ey⟩
      have ey' : ys = (namesF zs (c / 8)).map V.str := ey
      have ln : (namesF zs (c / 8)).length ≤ 3 := by unfold namesF; rw [List.length_map, List.length_range]; omega
      have hmem : ∀ z ∈ namesF zs (c / 8), z.length ≤ 100 := fun z hz => by
        unfold namesF at hz
        obtain ⟨k, _, rfl⟩ := List.mem_map.mp hz
        exact hz1 _ (nm_at hz0 _).2
      subst ey'
      refine ⟨_, rfl, .inl ⟨rfl, _, SqL.of (s3 _ _ g)⟩, _, rfl, D, rfl, ⟨_, SqL.of hDy⟩, fun D2 hD2 => ?_⟩
      refine lc_list (K := K) (xs := (namesF zs (c / 8)).map V.str) (fun j ys H' => Same H3 H' ∧ H' D2 = some (.lst ys) ∧ Paired (Says K T' H' 1) ys ((((namesF zs (c / 8)).take j).map fun z => (z, thingF (c / 8 / 5 + (Str.length z : Int)))).map pairD)) ⟨same_new hD2 _, upd_same, .nil⟩ (fun j ys H' h => SqL.of (h.1 _ _ hDy)) ?_ ?_
      · rintro j x ys H' hj hx2 ⟨sH, hDy2, hp⟩
        rw [List.length_map] at hj ⊢
        obtain ⟨z, hz, rfl⟩ : ∃ z, (namesF zs (c / 8))[j]? = some z ∧ x = .str z := by
          rw [List.getElem?_map, List.getElem?_eq_getElem hj] at hx2
          exact ⟨_, List.getElem?_eq_getElem hj, (Option.some.inj hx2).symm⟩
        have zl := hmem z (List.mem_of_getElem? hz)
        have lys : ys.length = j := by rw [hp.length, List.length_map, List.length_map, List.length_take]; omega
        refine ⟨fun _ => ⟨_, rfl, _, rfl, _, _, rfl, rfl, ⟨by decide, by decide⟩, _, rfl, z, rfl, le1000 (by omega), _, _, rfl, rfl, _, rfl, (by show 2 ≤ sizeLine; decide), fun tp htp => ?_⟩, fun z => absurd z (by decide)⟩
        have nD := ne_of_none hDy2 htp
        refine lcN.mk hj (le1000 (by omega)) (by rw [upd_ne nD]; exact hDy2) (by omega) ⟨same_upd (same_upd sH (sH.free htp) _) hD2 _, upd_same, ?_⟩
        rw [take_snocL hz, List.map_append, List.map_append]
        refine paired_app (pairs_keep (.inr ⟨_, by rw [upd_ne nD]; exact hDy2⟩) (pairs_keep (.inl htp) hp)) (.cons (.tup (xs := [.str z, .int (thingF (c / 8 / 5 + (z.length : Int)))]) (SqT.of ?_) (.cons .str (.cons .int .nil))) .nil)
        rw [upd_ne nD.symm, upd_same]
      rintro ys H4 ⟨s4, hDy2, hp⟩
      rw [List.length_map, List.take_length] at hp
      have hp : Paired (Says K T' H4 1) ys ((bookF zs (c / 8)).map pairD) := hp
      refine ⟨(by show 2 ≤ sizeLine; decide), fun tp htp => ?_⟩
      have st := same_new htp (.tup [.str "book", .ref D2])
      refine ⟨r, _, _, rfl, rfl, (s3.trans (s4.trans st)) _ _ g, small1000 (by omega), ?_⟩
      refine fin (s3.trans (s4.trans st)) ?_
      rw [e]
      exact .tup (SqT.of upd_same) (.cons .str (.cons (.lst (ne_of_none (s3 _ _ g) hD2).symm (st _ _ hDy2) (pairs_ok (pairs_same st hp))) .nil))
    · have e : itemF zs c = .named (nmAt zs (c / 8)) (thingF (c / 8 / 3)) := by unfold itemF; rw [if_neg c1, if_neg (fun z => cc2 (decide_eq_true z)), if_neg (fun z => cc3 (decide_eq_true z))]
      have lz : (0 : Int) < ((zs.map V.str).length : Int) := by rw [List.length_map]; omega
      obtain ⟨hat, _⟩ := nm_at hz0 (c / 8)
      refine ⟨_, rfl, .inl ⟨rfl, _, SqL.of g⟩, _, rfl, _, rfl, _, rfl, pl, _, rfl, .inl (SqL.of hpl2), _, _, rfl, rfl, lz, pl, _, _, _, rfl, rfl, SqL.of hpl2, hat, _, rfl, _, _, rfl, rfl, ⟨by decide, by decide⟩, _, rfl, (by show 3 ≤ sizeLine; decide), fun tp htp => ?_⟩
      have st := same_new htp (.tup [.str "named", .str (nmAt zs (c / 8)), .int (thingF (c / 8 / 3))])
      refine ⟨r, _, _, rfl, rfl, st _ _ g, small1000 (by omega), ?_⟩
      exact fin st (by rw [e]; exact .tup (SqT.of upd_same) (.cons .str (.cons .str (.cons .int .nil))))
  · rintro σ H2 ⟨v3, v4, v5, v6, xs, rfl, s2, g, hx⟩
    rw [List.length_map, List.take_length] at hx
    exact ⟨_, rfl, q r xs H2 s2 hrn g (Paired.imp' (fun _ _ z => says_ok (fun _ _ _ => True.intro) z) hx)⟩
end
end K91

set_option Elab.async false
set_option linter.all false
set_option maxRecDepth 100000
set_option maxHeartbeats 4000000
namespace K91
open PySem L2 PyProof.Rows
section
variable {P : Program} {w : World} {K : PySem.W.Frag} {mg : Str → Option Value} {base : Heap} {f CF : Addr} {fd : FuncData} {c : C5} {m : MA}

end
end K91

set_option Elab.async false
set_option linter.all false
set_option maxRecDepth 100000
set_option maxHeartbeats 4000000
namespace K91
open PySem L2 PyProof.Rows

end K91

set_option Elab.async false
set_option linter.all false
set_option maxRecDepth 100000
set_option maxHeartbeats 4000000
namespace L2
open PySem PySem.Spec PyProof.Rows
section
variable {prog : Program} {w : World} {κ : Type} [DecidableEq κ] {knd : HeapKind prog w κ} {A : Around} {E : Value → Shared → Prop} {s : Shared}
end
section
variable {X : Cx} {P : Program} {w : World} {pos : Pos}
variable {o e1 e2 : Expr} {td : TE} {ta : TA} {apos cpos : Pos}
end
end L2

set_option Elab.async false
set_option linter.all false
set_option maxRecDepth 100000
set_option maxHeartbeats 4000000
namespace L2
open PySem PySem.Spec PyProof.Rows
end L2

set_option Elab.async false
set_option linter.all false
set_option maxRecDepth 100000
set_option maxHeartbeats 4000000
namespace L2
open PySem PySem.Spec PyProof.Rows
/-! ### == of data, whatever it answers -/
section
variable {X : Cx} {pins : List (Addr × Obj)} {σ : St} {H : Hp} {s : Shared} {ok : Addr → Prop}
end
/-! ### sorted(xs), a list of fewer than 64 texts -/
section
variable {X : Cx}
end
end L2

set_option Elab.async false
set_option linter.all false
set_option maxRecDepth 100000
set_option maxHeartbeats 4000000
namespace L2
open PySem PySem.Spec PyProof.Rows
/-! ### a set of texts that can be walked -/
section
variable {P : Program} {w : World} {A : Around} {E : Value → Shared → Prop} {s : Shared}
end
end L2

set_option Elab.async false
set_option linter.all false
set_option maxRecDepth 100000
set_option maxHeartbeats 4000000
namespace L2
open PySem PySem.Spec PyProof.Rows
section
variable {P : Program} {w : World} {A : Around} {R : Result → Shared → Prop} {I : Addr} {fp wr : List Addr} {G : Array GenState → Array GenState → Prop} {n : Nat} {Pr : Nat → Value → Prop} {Sg : Nat → Shared → Prop}
end
end L2

set_option Elab.async false
set_option linter.all false
set_option maxRecDepth 100000
set_option maxHeartbeats 4000000
namespace L2
open PySem PySem.Spec PyProof.Rows
/-! ### the walk over a set of texts -/
namespace FS
end FS
section
variable {P : Program} {w : World} {A : Around} {E : Value → Shared → Prop} {s : Shared}
end
end L2

set_option Elab.async false
set_option linter.all false
set_option maxRecDepth 100000
set_option maxHeartbeats 4000000
namespace L2
open PySem PySem.Spec PyProof.Rows
section
variable {P : Program} {w : World} {A : Around} {E : Value → Shared → Prop} {s : Shared}
end
end L2

set_option Elab.async false
set_option linter.all false
set_option maxRecDepth 100000
set_option maxHeartbeats 4000000
namespace L2
open PySem PySem.Spec PyProof.Rows
section
variable {P : Program} {w : World} {A : Around} {E : Value → Shared → Prop} {s : Shared}
end
end L2

set_option Elab.async false
set_option linter.all false
set_option maxRecDepth 100000
set_option maxHeartbeats 4000000
namespace L2
open PySem PySem.Spec PyProof.Rows
section
variable {X : Cx}
end
end L2

set_option Elab.async false
set_option linter.all false
set_option maxRecDepth 100000
set_option maxHeartbeats 4000000
namespace L2
open PySem PySem.Spec PyProof.Rows
/-! ### list(reversed(xs)) -/
section
variable {prog : Program} {w : World} {A : Around} {E : Value → Shared → Prop} {s : Shared}
end
section
variable {X : Cx}
end
end L2

set_option Elab.async false
set_option linter.all false
set_option maxRecDepth 100000
set_option maxHeartbeats 4000000
namespace L2
open PySem PySem.Spec PyProof.Rows
section
variable {P : Program} {w : World} {A : Around} {E : Value → Shared → Prop} {s : Shared}
end
end L2

set_option Elab.async false
set_option linter.all false
set_option maxRecDepth 100000
set_option maxHeartbeats 4000000
namespace L2
open PySem PySem.Spec PyProof.Rows
/-! ### min(xs, key=len) -/
section
variable {prog : Program} {w : World} {A : Around} {E : Value → Shared → Prop} {s : Shared} {l I S : Addr} {vs : List Value} {kid : String}
end
end L2

set_option Elab.async false
set_option linter.all false
set_option maxRecDepth 100000
set_option maxHeartbeats 4000000
namespace L2
open PySem PySem.Spec PyProof.Rows
section
variable {X : Cx}
end
end L2

set_option Elab.async false
set_option linter.all false
set_option maxRecDepth 100000
set_option maxHeartbeats 4000000
namespace K91
open PySem L2 PyProof.Rows
/-! ### what mends are -/
section
variable {G : Nat → List Str → Prop}
end
end K91

set_option Elab.async false
set_option linter.all false
set_option maxRecDepth 100000
set_option maxHeartbeats 4000000
namespace K91
open PySem L2 PyProof.Rows
end K91

set_option Elab.async false
set_option linter.all false
namespace L2
open PySem PyProof.Rows
/-! ### a def read statement by statement: the rest is `some reading of it holds` -/
def uAll (X : Cx) (ss : List Stmt) : TS := fun D σ H => ∃ t, PSs X ss t ∧ t D σ H
theorem pss_all {X : Cx} {ss : List Stmt} : PSs X ss (uAll X ss) := ⟨fun pins s σ H D I ⟨_, p, h⟩ => p pins s σ H D I h⟩
theorem pss_go {X : Cx} {st : Stmt} {rest : List Stmt} {t : TS} {D : L2.Ends} {σ : L2.St} {H : Hp} (p : PS X st t) (h : tSeq t (uAll X rest) D σ H) : uAll X (st :: rest) D σ H := ⟨_, pss_cons p pss_all, h⟩
end L2

set_option Elab.async false
set_option linter.all false
set_option maxRecDepth 100000
set_option maxHeartbeats 4000000
namespace L2
open PySem PySem.Spec PyProof.Rows
/-! ### what stands at the top, in bundles (for the last file of a law) -/
section
variable {P : Program} {w : World} {K : PySem.W.Frag} {mg : Str → Option Value} {base h : Heap} {x q p p2 p3 p4 p5 : Str} {st : Stmt} {f C T : Addr} {fd : FuncData} {sp : Sp} {k n : Nat}
/-- where all of it runs -/
structure TB (P : Program) (w : World) (K : PySem.W.Frag) (mg : Str → Option Value) (base : Heap) : Prop where
  mgo : ∀ {x : Str} {v : Value}, PySem.W.nsIn K mainGlobals x = some (some v) → mg x = some v
/-- a def of the top -/
structure GD (K : PySem.W.Frag) (x : Str) (st : Stmt) (f : Addr) (fd : FuncData) : Prop where
  a : PySem.W.nsIn K mainGlobals x = some (some (.ref f))
  F : Fun K x x st f fd
/-- a def of a class -/
structure MD (K : PySem.W.Frag) (C : Addr) (x q : Str) (st : Stmt) (f : Addr) (fd : FuncData) : Prop where
  m : Meth K C x f
  F : Fun K x q st f fd
/-- a def of a class, with defaults -/
structure DD (K : PySem.W.Frag) (C : Addr) (x q : Str) (st : Stmt) (f : Addr) (fd : FuncData) (ds : List Value) : Prop where
  m : Meth K C x f
  F : FunD K x q st f fd ds
/-- a class of the top -/
structure CD (K : PySem.W.Frag) (x : Str) (C : Addr) : Prop where
  a : PySem.W.nsIn K mainGlobals x = some (some (.ref C))
  c : Cls K C
  ms : PySem.W.makesIn K C = true
  kc : PySem.W.keepIn K (.ref C) = true
theorem gd_mk {oc : Value} {od an : Option Addr} {osl : Array (Option Value)} {kV doc pm cdv ct : Value} (a : PySem.W.nsIn K mainGlobals x = some (some (.ref f))) (l : K.lookup f = some ⟨oc, od, .func (PySem.W.fnOf x x (defArgs st) (defBody st) (defScope st) .none kV doc pm an cdv ct), osl⟩)
    (c : PySem.W.codeIn K cdv x = true) (k : PySem.W.keepIn K (.ref f) = true) : GD K x st f (PySem.W.fnOf x x (defArgs st) (defBody st) (defScope st) .none kV doc pm an cdv ct) := ⟨a, fun_mk l c k⟩
theorem md_mk {oc : Value} {od an : Option Addr} {osl : Array (Option Value)} {kV doc pm cdv ct : Value} (a : PySem.W.findIn K (.ref C) x = some (some (.ref f))) (i : PySem.W.isFn K (.ref f) = true) (l : K.lookup f = some ⟨oc, od, .func (PySem.W.fnOf x q (defArgs st) (defBody st) (defScope st) .none kV doc pm an cdv ct), osl⟩)
    (c : PySem.W.codeIn K cdv q = true) (k : PySem.W.keepIn K (.ref f) = true) : MD K C x q st f (PySem.W.fnOf x q (defArgs st) (defBody st) (defScope st) .none kV doc pm an cdv ct) := ⟨⟨a, i, k⟩, fun_mk l c k⟩
theorem dd_mk {oc oT : Value} {od an dT : Option Addr} {osl sT : Array (Option Value)} {kV doc pm cdv ct d : Value} (a : PySem.W.findIn K (.ref C) x = some (some (.ref f))) (i : PySem.W.isFn K (.ref f) = true) (l : K.lookup f = some ⟨oc, od, .func (PySem.W.fnOf x q (defArgs st) (defBody st) (defScope st) (.ref T) kV doc pm an cdv ct), osl⟩)
    (c : PySem.W.codeIn K cdv q = true) (k : PySem.W.keepIn K (.ref f) = true) (t : K.lookup T = some ⟨oT, dT, .seq #[d] n, sT⟩) : DD K C x q st f (PySem.W.fnOf x q (defArgs st) (defBody st) (defScope st) (.ref T) kV doc pm an cdv ct) [d] := ⟨⟨a, i, k⟩, funD_mk (items := [d]) l c k t rfl⟩
theorem cd_mk (a : PySem.W.nsIn K mainGlobals x = some (some (.ref C))) (pg : PySem.W.plainGet K C Str.empty = true) (hd : PySem.W.hasDictIn K C = true) (po : PySem.W.plainOver K C = true) (sa : PySem.W.findIn K (.ref C) "__setattr__" = some (some (.builtin "object.__setattr__"))) (mk : PySem.W.makesIn K C = true) (kc : PySem.W.keepIn K (.ref C) = true) : CD K x C := ⟨a, ⟨pg, hd, po, sa⟩, mk, kc⟩
theorem Fun.b1 (F : Fun K x q st f fd) (h : ∀ (kV doc pm : Value) (an : Option Addr) (cdv ct u : Value), bindArgs (PySem.W.fnOf x q (defArgs st) (defBody st) (defScope st) .none kV doc pm an cdv ct) ⟨[u], []⟩ = pure [(p, u)] := by intros; rfl) : Binds K fd [p] [] :=
  F.binds fun _ _ _ _ _ _ us hl => match us, hl with | [_], _ => h _ _ _ _ _ _ _
theorem Fun.b2 (F : Fun K x q st f fd) (h : ∀ (kV doc pm : Value) (an : Option Addr) (cdv ct u u2 : Value), bindArgs (PySem.W.fnOf x q (defArgs st) (defBody st) (defScope st) .none kV doc pm an cdv ct) ⟨[u, u2], []⟩ = pure [(p, u), (p2, u2)] := by intros; rfl) : Binds K fd [p, p2] [] :=
  F.binds fun _ _ _ _ _ _ us hl => match us, hl with | [_, _], _ => h _ _ _ _ _ _ _ _
theorem Fun.b3 (F : Fun K x q st f fd) (h : ∀ (kV doc pm : Value) (an : Option Addr) (cdv ct u u2 u3 : Value), bindArgs (PySem.W.fnOf x q (defArgs st) (defBody st) (defScope st) .none kV doc pm an cdv ct) ⟨[u, u2, u3], []⟩ = pure [(p, u), (p2, u2), (p3, u3)] := by intros; rfl) : Binds K fd [p, p2, p3] [] :=
  F.binds fun _ _ _ _ _ _ us hl => match us, hl with | [_, _, _], _ => h _ _ _ _ _ _ _ _ _
theorem Fun.b4 (F : Fun K x q st f fd) (h : ∀ (kV doc pm : Value) (an : Option Addr) (cdv ct u u2 u3 u4 : Value), bindArgs (PySem.W.fnOf x q (defArgs st) (defBody st) (defScope st) .none kV doc pm an cdv ct) ⟨[u, u2, u3, u4], []⟩ = pure [(p, u), (p2, u2), (p3, u3), (p4, u4)] := by intros; rfl) : Binds K fd [p, p2, p3, p4] [] :=
  F.binds fun _ _ _ _ _ _ us hl => match us, hl with | [_, _, _, _], _ => h _ _ _ _ _ _ _ _ _ _
theorem GD.c1 (g : GD K x st f fd) (B : TB P w K mg base) (ok : FnOk P w K mg base CX0 k f fd [p] sp) (h : ∀ (kV doc pm : Value) (an : Option Addr) (cdv ct u : Value), bindArgs (PySem.W.fnOf x x (defArgs st) (defBody st) (defScope st) .none kV doc pm an cdv ct) ⟨[u], []⟩ = pure [(p, u)] := by intros; rfl) : Callee P w K mg base k x f fd [p] sp := ⟨ok, B.mgo g.a, g.F.kp, g.F.b1 h⟩
theorem GD.c2 (g : GD K x st f fd) (B : TB P w K mg base) (ok : FnOk P w K mg base CX0 k f fd [p, p2] sp) (h : ∀ (kV doc pm : Value) (an : Option Addr) (cdv ct u u2 : Value), bindArgs (PySem.W.fnOf x x (defArgs st) (defBody st) (defScope st) .none kV doc pm an cdv ct) ⟨[u, u2], []⟩ = pure [(p, u), (p2, u2)] := by intros; rfl) : Callee P w K mg base k x f fd [p, p2] sp := ⟨ok, B.mgo g.a, g.F.kp, g.F.b2 h⟩
theorem GD.c3 (g : GD K x st f fd) (B : TB P w K mg base) (ok : FnOk P w K mg base CX0 k f fd [p, p2, p3] sp) (h : ∀ (kV doc pm : Value) (an : Option Addr) (cdv ct u u2 u3 : Value), bindArgs (PySem.W.fnOf x x (defArgs st) (defBody st) (defScope st) .none kV doc pm an cdv ct) ⟨[u, u2, u3], []⟩ = pure [(p, u), (p2, u2), (p3, u3)] := by intros; rfl) : Callee P w K mg base k x f fd [p, p2, p3] sp := ⟨ok, B.mgo g.a, g.F.kp, g.F.b3 h⟩
theorem GD.law (g : GD K x st f fd) (h : ∀ (kV doc pm : Value) (an : Option Addr) (cdv ct u : Value), bindArgs (PySem.W.fnOf x x (defArgs st) (defBody st) (defScope st) .none kV doc pm an cdv ct) ⟨[u], []⟩ = pure [(p, u)] := by intros; rfl) : ∀ (s : Shared) (v : Value), BindsTo s fd ⟨[v], []⟩ [(p, v)] := by
  obtain ⟨oc, od, kV, doc, pm, an, cdv, ct, osl, rfl, lk, hcd⟩ := g.F.ex
  exact fun s v => .of_eq (h kV doc pm an cdv ct v)
theorem DD.b0 {d : Value} (D : DD K C x q st f fd [d]) (h : ∀ (T : Addr) (kV doc pm : Value) (an : Option Addr) (cdv ct u u2 u3 : Value), ∃ k : Option (Array Value) → Sem (List (Str × Value)), bindArgs (PySem.W.fnOf x q (defArgs st) (defBody st) (defScope st) (.ref T) kV doc pm an cdv ct) ⟨[u, u2, u3], []⟩ = seqItems? (.ref T) >>= k ∧ k (some [d].toArray) = pure [(p, u), (p2, u2), (p3, u3)] := by exact fun _ _ _ _ _ _ _ _ _ _ => ⟨_, rfl, rfl⟩) : Binds K fd [p, p2, p3] [] :=
  fun _ us KX hl => match us, hl with | [_, _, _], _ => D.F.bindsTo (fun _ _ _ _ _ _ _ => h _ _ _ _ _ _ _ _ _ _) KX
end
end L2

set_option Elab.async false
set_option linter.all false
set_option maxRecDepth 100000
set_option maxHeartbeats 4000000
namespace K91
open PySem L2 PyProof.Rows
section
variable {P : Program} {w : World} {K : PySem.W.Frag} {mg : Str → Option Value} {base : Heap} {f CF : Addr} {fd : FuncData} {c : C5} {m : MA}
end
end K91

set_option Elab.async false
set_option linter.all false
set_option maxRecDepth 100000
set_option maxHeartbeats 4000000
namespace K91
open PySem L2 PyProof.Rows
end K91

set_option Elab.async false
set_option linter.all false
set_option maxRecDepth 100000
set_option maxHeartbeats 4000000
namespace K91
open PySem L2 PyProof.Rows
section
variable {P : Program} {w : World} {K : PySem.W.Frag} {mg : Str → Option Value} {base : Heap} {f CF : Addr} {fd : FuncData} {c : C5} {m : MA}
end
end K91

set_option Elab.async false
set_option linter.all false
set_option maxRecDepth 100000
set_option maxHeartbeats 4000000
namespace K91
open PySem L2 PyProof.Rows
def CallAt (K : PySem.W.Frag) (H : Hp) (a : Addr) (c : List Item) : Prop := ∃ xs, SqL K H a xs ∧ Paired (Says K T' H 3) xs (c.map itemD)
section
variable {P : Program} {w : World} {K : PySem.W.Frag} {mg : Str → Option Value} {base : Heap} {f CF : Addr} {fd : FuncData} {c : C5} {m : MA}
end
end K91

set_option Elab.async false
set_option linter.all false
set_option maxRecDepth 100000
set_option maxHeartbeats 4000000
namespace L2
open PySem PySem.Spec PyProof.Rows
/-! ### sorted(set(xs)), xs a list of texts -/
section
variable {X : Cx}
end
end L2

set_option Elab.async false
set_option linter.all false
set_option maxRecDepth 100000
set_option maxHeartbeats 4000000
namespace L2
open PySem PySem.Spec PyProof.Rows
end L2

set_option Elab.async false
set_option linter.all false
set_option maxRecDepth 100000
set_option maxHeartbeats 4000000
namespace K91
open PySem L2 PyProof.Rows

end K91

set_option Elab.async false
set_option linter.all false
set_option maxRecDepth 100000
set_option maxHeartbeats 4000000
namespace K91
open PySem L2 PyProof.Rows
section
variable {P : Program} {w : World} {K : PySem.W.Frag} {mg : Str → Option Value} {base : Heap} {f CF : Addr} {fd : FuncData} {c : C5} {m : MA}
end
end K91

set_option Elab.async false
set_option linter.all false
set_option maxRecDepth 100000
set_option maxHeartbeats 4000000
namespace K91
open PySem L2 PyProof.Rows

section
variable {P : Program} {w : World} {K : PySem.W.Frag} {mg : Str → Option Value} {base : Heap} {f CF : Addr} {fd : FuncData} {c : C5} {m : MA}
end
end K91

set_option Elab.async false
set_option linter.all false
set_option maxRecDepth 100000
set_option maxHeartbeats 4000000
namespace K91
open PySem L2 PyProof.Rows
def spNthD (K : PySem.W.Frag) : Sp := fun vs H Q _ => ∃ (a : Addr) (ns : List Int) (k : Nat), vs = [.ref a, .int k] ∧ SqL K H a (ns.map V.int) ∧ Q (.int (ns.getD k 0)) H
section
variable {P : Program} {w : World} {K : PySem.W.Frag} {mg : Str → Option Value} {base : Heap} {f CF : Addr} {fd : FuncData} {c : C5} {m : MA}
theorem ok_nthD (F : Fun K "_law_nth" "_law_nth" sNth f fd) (T : TxtL mg) : FnOk P w K mg base CX0 1 f fd ["_law_script", "_law_k"] (spNthD K) := by
  refine F.ok scNth (fun vs H Q E h => ?_) (fun cdv A outer s H vs Q E hr h => ?_)
  · obtain ⟨a, ns, k, rfl, _⟩ := h
    rfl
  obtain ⟨a, ns, k, rfl, hS, q⟩ := h
  refine ⟨_, pss_one (ps_ret (pe_ifExp (pt_cmpR op_lt (pv 1) (cB call_len_seq T.len PySem.boot_len (ac (pv 0) pa_nil)) (nomark _)) (pe_ix ix_list (pv 0) (pv 1) (fun _ _ => rfl)) pe_int)), ?_⟩
  refine ⟨_, rfl, _, rfl, a, _, rfl, .inl hS, _, _, rfl, rfl, _, rfl, ?_⟩
  rw [List.length_map]
  refine ite2 (fun c => ?_) (fun c => ?_)
  · have c' : (k : Int) < (ns.length : Int) := of_decide_eq_true c
    have hk : k < ns.length := by omega
    rw [List.getD_eq_getElem?_getD, List.getElem?_eq_getElem hk] at q
    refine ⟨_, rfl, _, rfl, a, _, (k : Int), .int ns[k], rfl, rfl, hS, atI_nat (by rw [List.getElem?_map, List.getElem?_eq_getElem hk]; rfl), q⟩
  · have c' : ¬ (k : Int) < (ns.length : Int) := fun h => c (decide_eq_true h)
    rw [List.getD_eq_getElem?_getD, List.getElem?_eq_none (by omega)] at q
    exact q
end
end K91

set_option Elab.async false
set_option linter.all false
set_option maxRecDepth 100000
set_option maxHeartbeats 4000000
namespace K91
open PySem L2 PyProof.Rows
def cutI (ns : List Int) (a b : Nat) : List Int := (ns.drop (min a ns.length)).take (min b ns.length - min a ns.length)
theorem cut_i (ns : List Int) (a b : Nat) : cutV (ns.map V.int) (some (a : Int)) (some (b : Int)) = (cutI ns a b).map V.int ∧ (cutI ns a b).length ≤ b - a := by
  unfold cutI
  refine ⟨?_, ?_⟩
  · unfold cutV
    rw [HT.sIx_nat, HT.sIx_nat, List.length_map, List.map_take, List.map_drop]
  · rw [List.length_take, List.length_drop]
    omega
section
variable {P : Program} {w : World} {K : PySem.W.Frag} {mg : Str → Option Value} {base : Heap} {f CF : Addr} {fd : FuncData} {c : C5} {m : MA}
theorem ndKS : ([Str.ofString "_law_k", Str.ofString "_law_script"] : List Str).Nodup := by decide +kernel
theorem paired_take {α β : Type} {R : α → β → Prop} : ∀ {xs : List α} {ys : List β} (n : Nat), Paired R xs ys → Paired R (xs.take n) (ys.take n)
  | _, _, 0, _ => .nil
  | _, _, _ + 1, .nil => .nil
  | _, _, n + 1, .cons h t => .cons h (paired_take n t)
end
end K91

set_option Elab.async false
set_option linter.all false
set_option maxRecDepth 100000
set_option maxHeartbeats 4000000
namespace K91
open PySem L2 PyProof.Rows

theorem PAt.upd {c : C5} {H : Hp} {v D : Addr} {r : Rw} {ys : List V} {o : HO} (h : PAt c H v r) (hD : H D = some (.lst ys)) : PAt c (upd H D o) v r := by
  obtain ⟨dx, h⟩ := h
  refine ⟨dx, ?_⟩
  rw [upd_ne (fun e => by rw [e, hD] at h; cases h)]
  exact h
end K91

set_option Elab.async false
set_option linter.all false
set_option maxRecDepth 100000
set_option maxHeartbeats 4000000
namespace K91
open PySem L2 PyProof.Rows
theorem lt_bits {zs : List Str} (h : ∀ z ∈ zs, nameB z = true) : ∀ z ∈ zs, z.length ≤ 100 := fun z hz => by
  have := (nameB_iff.mp (h z hz)).2.1
  omega
section
variable {P : Program} {w : World} {K : PySem.W.Frag} {mg : Str → Option Value} {base : Heap} {f CF : Addr} {fd : FuncData} {c : C5} {m : MA}
end
end K91

set_option Elab.async false
set_option linter.all false
set_option maxRecDepth 100000
set_option maxHeartbeats 4000000
namespace L2
open PySem PySem.Spec PyProof.Rows
/-! ### methods of texts -/
section
variable {X : Cx}
theorem mt_starts : MtR X "str.startswith" (fun x xs H Q => ∃ z y, x = .str z ∧ xs = [.str y] ∧ Q (.bl (Txt.startswith z y)) H) := by
  intro pins s σ H x xs v us Q I rx r h
  obtain ⟨z, y, rfl, rfl, q⟩ := h
  obtain ⟨t, rfl⟩ := rx
  obtain ⟨u, rfl, t2, rfl⟩ := r.one
  exact SC.startswith ⟨.bl _, H, I, rfl, q⟩
theorem mt_ends : MtR X "str.endswith" (fun x xs H Q => ∃ z y, x = .str z ∧ xs = [.str y] ∧ Q (.bl (Txt.endswith z y)) H) := by
  intro pins s σ H x xs v us Q I rx r h
  obtain ⟨z, y, rfl, rfl, q⟩ := h
  obtain ⟨t, rfl⟩ := rx
  obtain ⟨u, rfl, t2, rfl⟩ := r.one
  exact SC.endswith ⟨.bl _, H, I, rfl, q⟩
theorem mt_rstripC : MtR X "str.rstrip" (fun x xs H Q => ∃ z y, x = .str z ∧ xs = [.str y] ∧ z.length ≤ sizeLine ∧ Q (.str (Txt.rstripChars z y)) H) := by
  intro pins s σ H x xs v us Q I rx r h
  obtain ⟨z, y, rfl, rfl, hz, q⟩ := h
  obtain ⟨t, rfl⟩ := rx
  obtain ⟨u, rfl, t2, rfl⟩ := r.one
  exact SCL.rstripChars (fun t' k _ => ⟨.str _, H, I.tok _, ⟨_, rfl⟩, q⟩) hz
theorem vals_from : ∀ (ys : List Str) (t : Nat), Vals (ys.map V.str) (strsFrom t ys)
  | [], _ => .nil
  | y :: ys, t => .cons ⟨_, rfl⟩ (vals_from ys (t + 1))
def rSplit : V → List V → Hp → VK → Prop := fun x xs H Q => ∃ z y, x = .str z ∧ xs = [.str y] ∧ (y.length == 0) = false ∧ z.length ≤ sizeLine ∧ (PySem.Builtin.Str.partsBetween z (PySem.Builtin.Str.occurrences z y 0 z.length (z.length + 1)) y.length).length ≤ sizeLine ∧ ∀ l, H l = none → Q (.ref l) (upd H l (.lst ((Txt.split z y).map V.str)))
theorem mt_split : MtR X "str.split" rSplit := by
  intro pins s σ H x xs v us Q I rx r h
  obtain ⟨z, y, rfl, rfl, hy, hz, hp, q⟩ := h
  obtain ⟨t, rfl⟩ := rx
  obtain ⟨u, rfl, t2, rfl⟩ := r.one
  have q := q s.heap.objs.size I.fresh
  cases h1 : (decide (z.length < y.length) || decide (PySem.Builtin.Str.strKind z < PySem.Builtin.Str.strKind y))
  · cases hf : (PySem.Builtin.Str.occurrences z y 0 z.length (z.length + 1)).isEmpty
    · have e : Txt.split z y = PySem.Builtin.Str.partsBetween z (PySem.Builtin.Str.occurrences z y 0 z.length (z.length + 1)) y.length := by unfold Txt.split; rw [h1, if_neg Bool.false_ne_true, hf, if_neg Bool.false_ne_true]
      rw [e] at q
      refine call_meets F.slot_str_split (typeIs_str _ _ _) F.entry_str_split (F.args_str_split_2 _ _) (meets_str_split_sep z y t t2 h1 hy hf hz hp) ?_
      exact ⟨.ref _, _, I.lnew (vals_from _ _) (by rw [List.length_map]; exact hp), rfl, q⟩
    · have e : Txt.split z y = [z] := by unfold Txt.split; rw [h1, if_neg Bool.false_ne_true, hf, if_pos rfl]
      rw [e] at q
      refine call_meets F.slot_str_split (typeIs_str _ _ _) F.entry_str_split (F.args_str_split_2 _ _) (meets_str_split_not_found z y t t2 h1 hy hf) ?_
      exact ⟨.ref _, _, I.lnew (its := [.str z t]) (t' := s.toks) (ys := [.str z]) (.cons ⟨_, rfl⟩ .nil) (by show 1 ≤ sizeLine; decide), rfl, q⟩
  · have e : Txt.split z y = [z] := by unfold Txt.split; rw [h1, if_pos rfl]
    rw [e] at q
    refine call_meets F.slot_str_split (typeIs_str _ _ _) F.entry_str_split (F.args_str_split_2 _ _) (meets_str_split_cannot_occur z y t t2 h1) ?_
    exact ⟨.ref _, _, I.lnew (its := [.str z t]) (t' := s.toks) (ys := [.str z]) (.cons ⟨_, rfl⟩ .nil) (by show 1 ≤ sizeLine; decide), rfl, q⟩
theorem mt_part : MtR X "str.partition" (fun x xs H Q => ∃ z y, x = .str z ∧ xs = [.str y] ∧ (y.length == 0) = false ∧ z.length ≤ sizeLine ∧ ∀ p, H p = none → Q (.ref p) (upd H p (.tup [.str (Txt.partition z y).1, .str (Txt.partition z y).2.1, .str (Txt.partition z y).2.2]))) := by
  intro pins s σ H x xs v us Q I rx r h
  obtain ⟨z, y, rfl, rfl, hy, hz, q⟩ := h
  obtain ⟨t, rfl⟩ := rx
  obtain ⟨u, rfl, t2, rfl⟩ := r.one
  have q := q s.heap.objs.size I.fresh
  refine call_meets F.slot_str_partition (typeIs_str _ _ _) F.entry_str_partition (F.args_str_partition_2 _ _) (meets_str_partition z y t t2 hy hz) ?_
  unfold Txt.partition at q
  generalize PySem.Builtin.Str.occurrences z y 0 z.length 1 = oc at q ⊢
  cases oc with
  | nil => exact ⟨.ref _, _, I.laid (o := .tup [.str z, .str Str.empty, .str Str.empty]) (fun b o e => Heap.get?_push_of_some _ e) (Nat.le_refl _) ⟨by show 3 ≤ sizeLine; decide, [.str z t, .str Str.empty s.toks, .str Str.empty s.toks], .cons ⟨_, rfl⟩ (.cons ⟨_, rfl⟩ (.cons ⟨_, rfl⟩ .nil)), ⟨_, Heap.get?_push_size s.heap rfl, rfl, 0, rfl⟩⟩, rfl, q⟩
  | cons i r => exact ⟨.ref _, _, I.laid (o := .tup [.str (PySem.Builtin.Str.strSub z 0 i), .str y, .str (PySem.Builtin.Str.strSub z (i + y.length) z.length)]) (fun b o e => Heap.get?_push_of_some _ e) (Nat.le_refl _) ⟨by show 3 ≤ sizeLine; decide, [.str (PySem.Builtin.Str.strSub z 0 i) s.toks, .str y t2, .str (PySem.Builtin.Str.strSub z (i + y.length) z.length) (s.toks + 1)], .cons ⟨_, rfl⟩ (.cons ⟨_, rfl⟩ (.cons ⟨_, rfl⟩ .nil)), ⟨_, Heap.get?_push_size s.heap rfl, rfl, 0, rfl⟩⟩, rfl, q⟩
/-! ### str of a number, int of a text -/
theorem call_strI : CallR X (.type "str") (fun xs H Q => ∃ i : Int, xs = [.int i] ∧ i.natAbs.log2 < 1920 ∧ Q (.str (Str.ofString (toString i))) H) := by
  intro pins s σ H xs us Q I r h
  obtain ⟨i, rfl, hi, q⟩ := h
  obtain ⟨u, rfl, t, rfl⟩ := vals1 r
  exact PySem.P.str_of_int hi ⟨.str _, H, I.tok _, ⟨_, rfl⟩, q⟩
theorem call_intT : CallR X (.type "int") (fun xs H Q => ∃ (z : Str) (n : Int), xs = [.str z] ∧ PySem.intText? z = some n ∧ z.length ≤ 640 ∧ Q (.int n) H) := by
  intro pins s σ H xs us Q I r h
  obtain ⟨z, n, rfl, hn, hl, q⟩ := h
  obtain ⟨u, rfl, t, rfl⟩ := vals1 r
  exact PySem.W.KIN.call_text hn hl ⟨.int _, H, I.tok _, ⟨_, rfl⟩, q⟩
end
end L2

set_option Elab.async false
set_option linter.all false
set_option maxRecDepth 100000
set_option maxHeartbeats 4000000
namespace L2
open PySem PySem.Spec PyProof.Rows
abbrev sg (z : Str) : List Nat := z.cps.toList
theorem sg_ext {a b : Str} (h : sg a = sg b) : a = b := by
  obtain ⟨x⟩ := a; obtain ⟨y⟩ := b
  exact congrArg Str.mk (Array.toList_inj.mp h)
theorem sg_app (a b : Str) : sg (a ++ b) = sg a ++ sg b := by
  show (a.cps ++ b.cps).toList = _
  rw [Array.toList_append]
theorem sg_len (a : Str) : a.length = (sg a).length := by simp [Str.length, sg]
/-! ### where a text stands in another -/
def Spc (k m : Nat) : Nat → List Nat → Prop
  | _, [] => True
  | f, c :: cs => f ≤ c ∧ c < m ∧ Spc k m (c + k) cs
theorem Spc.all {k m : Nat} : ∀ {f : Nat} {cs : List Nat}, Spc k m f cs → ∀ c ∈ cs, f ≤ c ∧ c < m
  | _, _ :: _, ⟨h1, h2, h3⟩, c, hc => by
    rcases List.mem_cons.mp hc with rfl | hc
    · exact ⟨h1, h2⟩
    · have := Spc.all h3 c hc
      exact ⟨by omega, this.2⟩
theorem occ_run {s sub : Str} {hi lim : Nat} (hk : 0 < sub.length) : ∀ (n i : Nat) (cuts : List Nat) (found : Array Nat) (free : Nat),
    (∀ j, i ≤ j → j < i + n → ((j + sub.length ≤ hi ∧ PySem.Builtin.Str.subAt s sub j = true) ↔ j ∈ cuts)) → Spc sub.length (i + n) free cuts → (∀ c ∈ cuts, i ≤ c) → found.size + cuts.length ≤ lim →
    (forIn (m := Id) (List.range' i n) (found, free) (PySem.StrLaws.occBody s sub hi lim)).run.fst = found ++ cuts.toArray
  | 0, i, cuts, found, free, _, hs, hg, _ => by
    cases cuts with
    | nil => simp
    | cons c cs => exact absurd (hs.2.1) (by have := hg c List.mem_cons_self; omega)
  | n + 1, i, cuts, found, free, hm, hs, hg, hl => by
    rw [List.range'_succ, List.forIn_cons]
    have hi0 := hm i (Nat.le_refl _) (by omega)
    cases cuts with
    | nil =>
      have hc : ¬ (((found.size < lim ∧ free ≤ i) ∧ i + sub.length ≤ hi) ∧ PySem.Builtin.Str.subAt s sub i = true) := fun h => by cases hi0.mp ⟨h.1.2, h.2⟩
      unfold PySem.StrLaws.occBody
      rw [if_neg hc]
      exact occ_run hk n (i + 1) [] found free (fun j h1 h2 => hm j (by omega) (by omega)) trivial (fun c hc => by cases hc) hl
    | cons c cs =>
      obtain ⟨h1, h2, h3⟩ := hs
      by_cases e : i = c
      · subst e
        obtain ⟨a1, a2⟩ := hi0.mpr List.mem_cons_self
        have hc : ((found.size < lim ∧ free ≤ i) ∧ i + sub.length ≤ hi) ∧ PySem.Builtin.Str.subAt s sub i = true := ⟨⟨⟨by simp at hl; omega, h1⟩, a1⟩, a2⟩
        unfold PySem.StrLaws.occBody
        rw [if_pos hc]
        have := occ_run (s := s) (sub := sub) (hi := hi) (lim := lim) hk n (i + 1) cs (found.push i) (i + sub.length) (fun j h1' h2' => by
          rw [hm j (by omega) (by omega), List.mem_cons]
          exact ⟨fun h => h.resolve_left (by omega), .inr⟩) (by rw [show i + 1 + n = i + (n + 1) by omega]; exact h3) (fun d hd => by have := (h3.all d hd).1; omega) (by simp at hl ⊢; omega)
        refine this.trans ?_
        simp
      · have gi := hg c List.mem_cons_self
        have hn : i ∉ c :: cs := fun h => by
          rcases List.mem_cons.mp h with h | h
          · exact e h
          · have := (h3.all i h).1; omega
        have hc : ¬ (((found.size < lim ∧ free ≤ i) ∧ i + sub.length ≤ hi) ∧ PySem.Builtin.Str.subAt s sub i = true) := fun h => hn (hi0.mp ⟨h.1.2, h.2⟩)
        unfold PySem.StrLaws.occBody
        rw [if_neg hc]
        refine occ_run hk n (i + 1) (c :: cs) found free (fun j h1 h2 => hm j (by omega) (by omega)) (by rw [show i + 1 + n = i + (n + 1) by omega]; exact ⟨h1, h2, h3⟩) (fun d hd => ?_) hl
        have := hg d hd
        have : i ≠ d := fun e => hn (e ▸ hd)
        omega
theorem occ_cuts {s sub : Str} {lim : Nat} {cuts : List Nat} (hk : 0 < sub.length) (hm : ∀ j, (j + sub.length ≤ s.length ∧ PySem.Builtin.Str.subAt s sub j = true) ↔ j ∈ cuts) (hs : Spc sub.length (s.length + 1) 0 cuts) (hl : cuts.length ≤ lim) :
    PySem.Builtin.Str.occurrences s sub 0 s.length lim = cuts := by
  rw [PySem.StrLaws.occ_eq]
  have := occ_run (s := s) (sub := sub) (hi := s.length) (lim := lim) hk (s.length + 1 - 0) 0 cuts #[] 0 (fun j _ _ => hm j) (by rw [show 0 + (s.length + 1 - 0) = s.length + 1 by omega]; exact hs) (fun _ _ => Nat.zero_le _) (by simpa using hl)
  rw [this]
  simp
/-! ### joins, as lists of signs -/
def jL (sep : List Nat) : List (List Nat) → List Nat
  | [] => []
  | [p] => p
  | p :: q :: r => p ++ sep ++ jL sep (q :: r)
def cL (k : Nat) : Nat → List (List Nat) → List Nat
  | _, [] => []
  | _, [_] => []
  | f, p :: q :: r => (f + p.length) :: cL k (f + p.length + k) (q :: r)
theorem sg_join (sep : Str) (ys : List Str) : sg (Txt.join sep ys) = jL (sg sep) (ys.map sg) := by
    show sg (PySem.Builtin.Str.glued sep ys) = _
    rw [PySem.StrLaws.glued_eq_join]
    induction ys with
    | nil => rfl
    | cons p r ih =>
      cases r with
      | nil => rfl
      | cons q r =>
        show sg (p ++ sep ++ Str.join sep (q :: r)) = _
        rw [sg_app, sg_app, ih]
        rfl
theorem cL_len (k : Nat) : ∀ (f : Nat) (ps : List (List Nat)), (cL k f ps).length = ps.length - 1
  | _, [] => rfl
  | _, [_] => rfl
  | f, p :: q :: r => by simp [cL, cL_len k _ (q :: r)]
theorem cL_up (k : Nat) : ∀ (f : Nat) (ps : List (List Nat)), ∀ c ∈ cL k f ps, f ≤ c
  | f, p :: q :: r, c, hc => by
    rcases List.mem_cons.mp hc with rfl | hc
    · omega
    · have := cL_up k _ (q :: r) c hc
      omega
theorem cL_sp (sep : List Nat) (h0 : 0 < sep.length) : ∀ (f : Nat) (ps : List (List Nat)), Spc sep.length (f + (jL sep ps).length + 1) f (cL sep.length f ps)
  | _, [] => trivial
  | _, [_] => trivial
  | f, p :: q :: r => by
    refine ⟨by omega, by simp [jL]; omega, ?_⟩
    have := cL_sp sep h0 (f + p.length + sep.length) (q :: r)
    have e : f + p.length + sep.length + (jL sep (q :: r)).length + 1 = f + (jL sep (p :: q :: r)).length + 1 := by simp [jL]; omega
    rw [e] at this
    exact this
theorem cL_of {c0 : Nat} {rest : List Nat} (hr : c0 ∉ rest) : ∀ (f : Nat) (ps : List (List Nat)), (∀ p ∈ ps, c0 ∉ p) → ∀ i, (jL (c0 :: rest) ps)[i]? = some c0 → f + i ∈ cL (rest.length + 1) f ps
  | _, [], _, i, h => by simp [jL] at h
  | _, [p], hp, i, h => absurd (List.mem_of_getElem? h) (hp p List.mem_cons_self)
  | f, p :: q :: r, hp, i, h => by
    simp only [jL, List.append_assoc] at h
    by_cases h1 : i < p.length
    · rw [List.getElem?_append_left h1] at h
      exact absurd (List.mem_of_getElem? h) (hp p List.mem_cons_self)
    · rw [List.getElem?_append_right (by omega)] at h
      by_cases h2 : i - p.length < (c0 :: rest).length
      · rw [List.getElem?_append_left h2] at h
        rcases e : i - p.length with _ | j
        · exact List.mem_cons.mpr (.inl (by omega))
        · rw [e] at h
          exact absurd (List.mem_of_getElem? (show rest[j]? = some c0 from h)) hr
      · rw [List.getElem?_append_right (by omega)] at h
        have := cL_of hr (f + p.length + (rest.length + 1)) (q :: r) (fun p hp' => hp p (List.mem_cons_of_mem _ hp')) _ h
        simp at h2
        refine List.mem_cons_of_mem _ ?_
        rw [show f + i = f + p.length + (rest.length + 1) + (i - p.length - (c0 :: rest).length) by simp; omega]
        exact this
theorem cL_at (sep : List Nat) : ∀ (ps : List (List Nat)) (f i : Nat), f + i ∈ cL sep.length f ps → ((jL sep ps).drop i).take sep.length = sep ∧ i + sep.length ≤ (jL sep ps).length
  | p :: q :: r, f, i, h => by
    simp only [jL, List.append_assoc]
    rcases List.mem_cons.mp h with h | h
    · have : i = p.length := by omega
      subst this
      refine ⟨?_, by simp⟩
      rw [List.drop_left, List.take_left]
    · have hu := cL_up _ _ _ _ h
      obtain ⟨j, rfl⟩ : ∃ j, i = p.length + (sep.length + j) := ⟨i - p.length - sep.length, by omega⟩
      have ih := cL_at sep (q :: r) (f + p.length + sep.length) j (by rw [show f + p.length + sep.length + j = f + (p.length + (sep.length + j)) by omega]; exact h)
      rw [List.drop_append, List.drop_eq_nil_of_le (by omega), List.nil_append, show p.length + (sep.length + j) - p.length = sep.length + j by omega, List.drop_append, List.drop_eq_nil_of_le (by omega), List.nil_append, show sep.length + j - sep.length = j by omega]
      refine ⟨ih.1, ?_⟩
      simp
      omega
theorem cuts_join {s sub : Str} {c0 : Nat} {rest : List Nat} {ps : List (List Nat)} {lim : Nat} (hsub : sg sub = c0 :: rest) (hr : c0 ∉ rest) (hs : sg s = jL (c0 :: rest) ps) (hp : ∀ p ∈ ps, c0 ∉ p) (hl : ps.length - 1 ≤ lim) :
    PySem.Builtin.Str.occurrences s sub 0 s.length lim = cL (rest.length + 1) 0 ps := by
  have hk : sub.length = rest.length + 1 := by rw [sg_len, hsub]; rfl
  refine occ_cuts (by omega) (fun j => ?_) ?_ (by rw [cL_len]; exact hl)
  · rw [PySem.StrLaws.subAt_eq, beq_iff_eq, show s.cps.toList = jL (c0 :: rest) ps from hs, show sub.cps.toList = c0 :: rest from hsub, hk, sg_len, hs]
    constructor
    · rintro ⟨h1, h2⟩
      have e : ((jL (c0 :: rest) ps).drop j)[0]? = some c0 := by
        have := congrArg (·[0]?) h2
        simp only [List.getElem?_take] at this
        simpa using this
      rw [List.getElem?_drop] at e
      have := cL_of hr 0 ps hp _ e
      simpa using this
    · intro h
      have := cL_at (c0 :: rest) ps 0 j (by simpa using h)
      exact ⟨this.2, this.1⟩
  · rw [hk, sg_len, hs]
    have := cL_sp (c0 :: rest) (by simp) 0 ps
    simpa using this
theorem parts_join (sep : List Nat) : ∀ (ps : List (List Nat)) (pre : List Nat), ps ≠ [] →
    ((pre.length :: (cL sep.length pre.length ps).map (· + sep.length)).zip (cL sep.length pre.length ps ++ [pre.length + (jL sep ps).length])).map (fun q => ((pre ++ jL sep ps).drop q.1).take (q.2 - q.1)) = ps
  | [], _, h => absurd rfl h
  | [p], pre, _ => by simp [cL, jL]
  | p :: q :: r, pre, _ => by
    have ih := parts_join sep (q :: r) (pre ++ p ++ sep) (by simp)
    simp only [cL, List.map_cons, List.cons_append, List.zip_cons_cons, List.map_cons, jL]
    have e1 : (pre ++ p ++ sep).length = pre.length + p.length + sep.length := by simp; omega
    rw [e1] at ih
    congr 1
    · rw [List.drop_left, List.append_assoc, show pre.length + p.length - pre.length = p.length by omega, List.take_left]
    · refine Eq.trans ?_ ih
      simp [List.append_assoc, Nat.add_assoc]
theorem split_join {s sub : Str} {c0 : Nat} {rest : List Nat} {ys : List Str} (hsub : sg sub = c0 :: rest) (hr : c0 ∉ rest) (hs : s = Txt.join sub ys) (hp : ∀ p ∈ ys, c0 ∉ sg p) (h0 : ys ≠ []) :
    PySem.Builtin.Str.partsBetween s (PySem.Builtin.Str.occurrences s sub 0 s.length (s.length + 1)) sub.length = ys ∧ Txt.split s sub = ys := by
  have hk : sub.length = rest.length + 1 := by rw [sg_len, hsub]; rfl
  have es : sg s = jL (c0 :: rest) (ys.map sg) := by rw [hs, sg_join, hsub]
  have hp' : ∀ p ∈ ys.map sg, c0 ∉ p := fun p h => by obtain ⟨y, hy, rfl⟩ := List.mem_map.mp h; exact hp y hy
  have hle : (ys.map sg).length - 1 ≤ s.length + 1 := by
    have : ∀ qs : List (List Nat), qs.length - 1 ≤ (jL (c0 :: rest) qs).length := by
      intro qs
      induction qs with
      | nil => simp
      | cons q r ih =>
        cases r with
        | nil => simp
        | cons x r => simp [jL] at ih ⊢; omega
    have := this (ys.map sg)
    rw [← es, ← sg_len] at this
    omega
  have eo := cuts_join (lim := s.length + 1) hsub hr es hp' hle
  have e1 : PySem.Builtin.Str.partsBetween s (PySem.Builtin.Str.occurrences s sub 0 s.length (s.length + 1)) sub.length = ys := by
    rw [eo, hk]
    have := parts_join (c0 :: rest) (ys.map sg) [] (by simpa using h0)
    have inj : ∀ {a b : List Str}, a.map sg = b.map sg → a = b := fun {a b} h => List.map_inj_right (fun _ _ => sg_ext) |>.mp h
    refine inj ?_
    refine Eq.trans ?_ this
    unfold PySem.Builtin.Str.partsBetween
    simp only [List.map_map, List.length_nil, List.nil_append, List.length_cons, Nat.zero_add]
    rw [← es, ← sg_len]
    refine List.map_congr_left fun q _ => ?_
    exact PySem.StrLaws.strSub_toList s q.1 q.2
  refine ⟨e1, ?_⟩
  unfold Txt.split
  split
  · rename_i h
    have e : PySem.Builtin.Str.occurrences s sub 0 s.length (s.length + 1) = [] := by
      refine PySem.W.occ_nil_of_no s sub _ fun i hi => ?_
      rcases Bool.or_eq_true_iff.mp h with h | h
      · have := of_decide_eq_true h; omega
      · cases e : PySem.Builtin.Str.subAt s sub i
        · rfl
        · have := PySem.W.kind_le s sub e; have := of_decide_eq_true h; omega
    rw [e] at e1
    rw [← e1]
    simp [PySem.Builtin.Str.partsBetween, PySem.Builtin.Str.strSub, Str.length]
  · split
    · rename_i h
      rw [List.isEmpty_iff.mp h] at e1
      rw [← e1]
      simp [PySem.Builtin.Str.partsBetween, PySem.Builtin.Str.strSub, Str.length]
    · exact e1
theorem part_of {a b y : Str} {c0 : Nat} (hy : sg y = [c0]) (ha : c0 ∉ sg a) (hb : c0 ∉ sg b) : Txt.partition (a ++ y ++ b) y = (a, y, b) := by
  have e : PySem.Builtin.Str.occurrences (a ++ y ++ b) y 0 (a ++ y ++ b).length 1 = [(sg a).length] := by
    have := cuts_join (s := a ++ y ++ b) (lim := 1) hy (by simp) (ps := [sg a, sg b]) (by rw [sg_app, sg_app, hy]; simp [jL]) (by intro p hp; rcases List.mem_cons.mp hp with rfl | hp; exact ha; rcases List.mem_cons.mp hp with rfl | hp; exact hb; cases hp) (by simp)
    simpa [cL] using this
  unfold Txt.partition
  rw [e]
  have l1 : y.length = 1 := by rw [sg_len, hy]; rfl
  refine Prod.ext (sg_ext ?_) (Prod.ext rfl (sg_ext ?_))
  · show sg (PySem.Builtin.Str.strSub _ _ _) = _
    rw [show sg (PySem.Builtin.Str.strSub (a ++ y ++ b) 0 (sg a).length) = _ from PySem.StrLaws.strSub_toList _ _ _, show (a ++ y ++ b).cps.toList = sg a ++ sg y ++ sg b by rw [← sg_app, ← sg_app]]
    simp [List.append_assoc]
  · show sg (PySem.Builtin.Str.strSub _ _ _) = _
    rw [show sg (PySem.Builtin.Str.strSub (a ++ y ++ b) ((sg a).length + y.length) (a ++ y ++ b).length) = _ from PySem.StrLaws.strSub_toList _ _ _, show (a ++ y ++ b).cps.toList = sg a ++ sg y ++ sg b by rw [← sg_app, ← sg_app], l1, sg_len, sg_app, sg_app, hy, List.drop_append_of_le_length (by simp), List.drop_eq_nil_of_le (by simp)]
    rw [List.nil_append]
    exact List.take_of_length_le (by simp; omega)
end L2

set_option Elab.async false
set_option linter.all false
set_option maxRecDepth 100000
set_option maxHeartbeats 4000000
namespace L2
open PySem PySem.Spec PyProof.Rows
/-! ### whole numbers as texts -/
def numT (i : Int) : Str := Str.ofString (toString i)
theorem digits_head : ∀ m : Nat, (Nat.toDigits 10 m).head? = some '0' → m = 0 := by
  intro m
  induction m using Nat.strongRecOn with
  | _ m ih =>
    intro h
    by_cases hm : m < 10
    · rw [Nat.toDigits_of_lt_base hm] at h
      have : ∀ d : Nat, d < 10 → Nat.digitChar d = '0' → d = 0 := by decide
      exact this m hm (by simpa using h)
    · have hd : m % 10 < 10 := Nat.mod_lt m (by decide)
      have t : Nat.toDigits 10 (m / 10) ++ Nat.toDigits 10 (m % 10) = Nat.toDigits 10 (10 * (m / 10) + m % 10) := Nat.toDigits_append_toDigits (by decide) (by omega) hd
      rw [Nat.div_add_mod] at t
      rw [← t] at h
      have l := PySem.toDigits_len_ge 10 (m / 10)
      have : (Nat.toDigits 10 (m / 10)).head? = some '0' := by
        cases e : Nat.toDigits 10 (m / 10) with
        | nil => rw [e] at l; exact absurd l (by decide)
        | cons x r => rw [e] at h; simpa using h
      have := ih (m / 10) (by omega) this
      omega
structure Num (i : Int) (ds : List Nat) : Prop where
  dig : PySem.NumText.AllDigits ds
  l1 : 1 ≤ ds.length
  l60 : ds.length ≤ 60
  hd : ds.head? = some 48 → i = 0
  txt : (0 ≤ i ∧ sg (numT i) = ds) ∨ (i < 0 ∧ sg (numT i) = 45 :: ds)
  read : PySem.intText? (numT i) = some i
theorem num_is (i : Int) (h : i.natAbs < 10 ^ 60) : Num i ((Nat.toDigits 10 i.natAbs).map Char.toNat) := by
  have dg : PySem.NumText.AllDigits ((Nat.toDigits 10 i.natAbs).map Char.toNat) := by
    intro c hc
    obtain ⟨ch, hch, e⟩ := List.mem_map.mp hc
    rw [← e]
    exact digit_range (Nat.isDigit_of_mem_toDigits (by decide) (by decide) hch)
  have l1 : 1 ≤ ((Nat.toDigits 10 i.natAbs).map Char.toNat).length := by rw [List.length_map]; exact PySem.toDigits_len_ge 10 _
  have l60 : ((Nat.toDigits 10 i.natAbs).map Char.toNat).length ≤ 60 := by rw [List.length_map]; exact PySem.toDigits_len_pow (by decide) (by decide) h
  have hd : ((Nat.toDigits 10 i.natAbs).map Char.toNat).head? = some 48 → i = 0 := fun e => by
    rw [List.head?_map] at e
    cases e2 : (Nat.toDigits 10 i.natAbs).head? with
    | none => rw [e2] at e; cases e
    | some c =>
      rw [e2] at e
      have ec : c = '0' := by
        have : c.toNat = 48 := by simpa using e
        exact Char.ext (UInt32.toNat_inj.mp this)
      rw [ec] at e2
      have := digits_head _ e2
      omega
  have hn : (Nat.toDigits 10 i.natAbs).map Char.toNat ≠ [] := fun e => by rw [e] at l1; exact absurd l1 (by decide)
  have tx : (0 ≤ i ∧ sg (numT i) = (Nat.toDigits 10 i.natAbs).map Char.toNat) ∨ (i < 0 ∧ sg (numT i) = 45 :: (Nat.toDigits 10 i.natAbs).map Char.toNat) := by
    cases i with
    | ofNat m => exact .inl ⟨Int.natCast_nonneg _, PySem.W.KIN.signs_num m⟩
    | negSucc m =>
      refine .inr ⟨Int.negSucc_lt_zero m, ?_⟩
      show (Str.ofString (toString (Int.negSucc m))).cps.toList = _
      rw [signs_ofString]
      show ("-" ++ Nat.repr (m + 1)).toList.map Char.toNat = _
      rw [String.toList_append, Nat.toList_repr]
      rfl
  refine ⟨dg, l1, l60, hd, tx, ?_⟩
  rcases tx with ⟨h0, e⟩ | ⟨h0, e⟩
  · have := PySem.intText_digits (x := numT i) (by rw [show (numT i).cps.toList = _ from e]; exact dg) (by rw [show (numT i).cps.toList = _ from e]; exact hn) (by rw [sg_len, e]; omega)
    rw [this, show (numT i).cps.toList = _ from e, PySem.W.KIN.val_back]
    congr 1
    omega
  · have := PySem.intText_neg (x := numT i) e dg hn (by rw [sg_len, e]; simp at l60 ⊢; omega)
    rw [this, PySem.W.KIN.val_back]
    congr 1
    omega
section
variable {X : Cx}
theorem pe_fpair {a b : Expr} {ta tb : TE} {j : Nat} {p1 p2 p3 pos : Pos} {z : Str} (ha : PE X a ta) (hb : PE X b tb) :
    PE X (.JoinedStr [.FormattedValue a (-1) none p1, .Constant (.str z) j p2, .FormattedValue b (-1) none p3] pos)
      (fun σ H Q => ta σ H fun x H1 => ∃ n : Str, x = .str n ∧ n.length ≤ 100 ∧ z.length ≤ 100 ∧ tb σ H1 fun y H2 => ∃ i : Int, y = .int i ∧ i.natAbs.log2 < 1920 ∧ (numT i).length ≤ 100 ∧ Q (.str (n ++ z ++ numT i)) H2) := by
  refine ⟨?_⟩
  intro pins s σ H Q I h
  refine wpAny_JoinedStr ?_
  refine wpAny_FormattedValue_plain (thn (ha pins s σ H _ I h) fun u s1 ⟨x, H1, I1, rx, n, ex, hn, hz, q1⟩ => ?_)
  subst ex
  obtain ⟨t, rfl⟩ := rx
  have fin : ∀ (t' : Tok) (k : Nat), Joins (model X.prog X.w) X.A X.xe (evalEach [.Constant (.str z) j p2, .FormattedValue b (-1) none p3] X.env) (Str.empty ++ n) (fun out s₁ => out.length ≤ sizeLine ∧ EP X pins σ Q (.str out s₁.toks) { s₁ with toks := s₁.toks + 1 }) { s1 with toks := k } := by
    intro t' k
    rw [PySem.W.KT.empty_app]
    refine Calls.Constant_str ⟨z, _, rfl, by rw [sg_len, sg_app, List.length_append, ← sg_len, ← sg_len, sizeLine_eq]; omega, ?_⟩
    refine wpAny_FormattedValue_plain (thn (hb pins _ σ H1 _ (I1.tok _) q1) fun u s2 ⟨y, H2, I2, ry, i, ey, hl, hi, q2⟩ => ?_)
    subst ey
    obtain ⟨t2, rfl⟩ := ry
    refine wpAny_formatField_int hl ⟨numT i, _, rfl, ?_, ?_, ?_⟩
    · rw [sg_len, sg_app, sg_app, List.length_append, List.length_append, ← sg_len, ← sg_len, ← sg_len, sizeLine_eq]; omega
    · rw [sg_len, sg_app, sg_app, List.length_append, List.length_append, ← sg_len, ← sg_len, ← sg_len, sizeLine_eq]; omega
    · exact ⟨.str _, H2, I2.tok _, ⟨_, rfl⟩, q2⟩
  have l1 : (Str.empty ++ n).length ≤ sizeLine := by rw [PySem.W.KT.empty_app, sizeLine_eq]; omega
  exact wpAny_formatField_str ⟨n, t, rfl, l1, fin t s1.toks⟩ ⟨n, s1.toks, rfl, l1, fin s1.toks _⟩ (by rw [sizeLine_eq]; omega)
end
end L2

set_option Elab.async false
set_option linter.all false
set_option maxRecDepth 100000
set_option maxHeartbeats 4000000
namespace K91
open PySem L2 PyProof.Rows
/-! ### what is written -/
def pairT (p : Str × Int) : Str := p.1 ++ "=" ++ numT p.2
def itemT : Item → Str
  | .one t => numT t
  | .row ts => "[" ++ Txt.join " " (ts.map numT) ++ "]"
  | .named n t => pairT (n, t)
  | .book ps => "{" ++ Txt.join " " (ps.map pairT) ++ "}"
def callT (c : List Item) : Str := Txt.join ", " (c.map itemT)
def thOk (t : Int) : Prop := t.natAbs < 10 ^ 60
def prOk (p : Str × Int) : Prop := nameB p.1 = true ∧ thOk p.2
def itOk (it : Item) : Prop := (∀ t ∈ itT it, thOk t) ∧ (∀ p ∈ itP it, prOk p) ∧ (itT it).length ≤ 30 ∧ (itP it).length ≤ 30
theorem num_len {t : Int} (h : thOk t) : 1 ≤ (numT t).length ∧ (numT t).length ≤ 61 := by
  have n := num_is t h
  have a := n.l1
  have b := n.l60
  rw [sg_len]
  rcases n.txt with ⟨_, e⟩ | ⟨_, e⟩ <;> rw [e]
  · exact ⟨a, by omega⟩
  · simp only [List.length_cons]; exact ⟨by omega, by omega⟩
theorem num_log {t : Int} (h : thOk t) : t.natAbs.log2 < 1920 := by
  have : t.natAbs < 2 ^ 1920 := Nat.lt_trans h (by decide +kernel)
  by_cases h0 : t.natAbs = 0
  · rw [h0]; decide +kernel
  · exact (Nat.log2_lt h0).mpr this
theorem pair_len {p : Str × Int} (h : prOk p) : 1 ≤ (pairT p).length ∧ (pairT p).length ≤ 70 := by
  have n := num_len h.2
  have m := (nameB_iff.mp h.1).2.1
  unfold pairT
  rw [app_len, app_len, show ("=" : Str).length = 1 from rfl]
  omega
theorem sum_le {xs : List Str} {B : Nat} (h : ∀ x ∈ xs, x.length ≤ B) : (xs.map (·.length)).sum ≤ xs.length * B := by
  induction xs with
  | nil => simp
  | cons x r ih =>
    have := h x List.mem_cons_self
    have := ih fun y hy => h y (List.mem_cons_of_mem _ hy)
    simp only [List.map_cons, List.sum_cons, List.length_cons, Nat.succ_mul]
    omega
theorem jn_len {sep : Str} {xs : List Str} {B : Nat} (h : ∀ x ∈ xs, x.length ≤ B) : (Txt.join sep xs).length ≤ xs.length * B + xs.length * sep.length := by
  have := PySem.StrLaws.join_length_le sep xs
  rw [show Txt.join sep xs = Str.join sep xs from PySem.StrLaws.glued_eq_join sep xs]
  have := sum_le h
  omega
theorem row_len {ts : List Int} (h : ∀ t ∈ ts, thOk t) (hl : ts.length ≤ 30) : (Txt.join " " (ts.map numT)).length ≤ 2000 := by
  have := jn_len (sep := " ") (xs := ts.map numT) (B := 61) (fun x hx => by obtain ⟨t, ht, rfl⟩ := List.mem_map.mp hx; exact (num_len (h t ht)).2)
  rw [List.length_map, show (" " : Str).length = 1 from rfl] at this
  omega
theorem book_len {ps : List (Str × Int)} (h : ∀ p ∈ ps, prOk p) (hl : ps.length ≤ 30) : (Txt.join " " (ps.map pairT)).length ≤ 2200 := by
  have := jn_len (sep := " ") (xs := ps.map pairT) (B := 70) (fun x hx => by obtain ⟨t, ht, rfl⟩ := List.mem_map.mp hx; exact (pair_len (h t ht)).2)
  rw [List.length_map, show (" " : Str).length = 1 from rfl] at this
  omega
theorem item_len {it : Item} (h : itOk it) : 1 ≤ (itemT it).length ∧ (itemT it).length ≤ 2300 := by
  obtain ⟨h1, h2, h3, h4⟩ := h
  cases it with
  | one t => have := num_len (h1 t List.mem_cons_self); exact ⟨this.1, by show (numT t).length ≤ 2300; omega⟩
  | row ts =>
    have := row_len (ts := ts) h1 h3
    rw [show itemT (.row ts) = "[" ++ Txt.join " " (ts.map numT) ++ "]" from rfl, app_len, app_len, show ("[" : Str).length = 1 from rfl, show ("]" : Str).length = 1 from rfl]
    omega
  | named n t => have := pair_len (h2 (n, t) List.mem_cons_self); exact ⟨this.1, by show (pairT (n, t)).length ≤ 2300; omega⟩
  | book ps =>
    have := book_len (ps := ps) h2 h4
    rw [show itemT (.book ps) = "{" ++ Txt.join " " (ps.map pairT) ++ "}" from rfl, app_len, app_len, show ("{" : Str).length = 1 from rfl, show ("}" : Str).length = 1 from rfl]
    omega
/-- a list of texts, one for each thing -/
theorem lc_strs {α : Type} {K : PySem.W.Frag} {a : Addr} {xs : List V} {caps : List (Option Nat)} {g : TG} {tt : TT} {te : TE} {σ : L2.St} {H1 : Hp} {Q : VK} {D : Addr} (ts : List α) (R : V → α → Prop) (tx : α → V) (hD : H1 D = none) (hn : ts.length ≤ 500)
    (hS : SqL K H1 a xs) (hp : Paired R xs ts)
    (hs : ∀ x t H' (C : VK) (S : Hp → Prop), Same H1 H' → R x t → t ∈ ts → (∀ H4, Same H' H4 → C (tx t) H4) → g x (capS caps σ) H' fun σ2 H2 => tt σ2 H2 fun ok H3 => (ok = true → te σ2 H3 C) ∧ (ok = false → S H3))
    (hd : ∀ H', Same H1 H' → H' D = some (.lst (ts.map tx)) → Q (.ref D) H') : LCr (Itl K a) caps g tt te σ H1 Q D := by
  have lx : xs.length = ts.length := hp.length
  refine lc_list (K := K) (xs := xs) (fun i ys H' => ys = (ts.take i).map tx ∧ Same H1 H' ∧ H' D = some (.lst ys)) ⟨rfl, same_new hD _, upd_same⟩ (fun i ys H' ⟨_, sH, _⟩ => sH.seq hS) ?_ ?_
  · rintro i x ys H' hi hx ⟨rfl, sH, hDy⟩
    obtain ⟨t, ht, r⟩ := Paired.get hp hx
    refine hs x t H' _ _ sH r (List.mem_of_getElem? ht) fun H4 s4 => ?_
    refine lcN.mk hi (le1000 (by omega)) (s4 _ _ hDy) (by rw [List.length_map, List.length_take]; omega) ⟨?_, same_upd (sH.trans s4) hD _, upd_same⟩
    rw [take_snocL ht, List.map_append]
    rfl
  · rintro ys H' ⟨rfl, sH, hDy⟩
    rw [lx, List.take_length] at hDy
    exact hd H' sH hDy
theorem paired_self {α β : Type} {R : β → α → Prop} {f : α → β} : ∀ {ts : List α}, (∀ t, R (f t) t) → Paired R (ts.map f) ts
  | [], _ => .nil
  | t :: ts, h => .cons (h t) (paired_self h)
theorem nums_sum {ts : List Int} (h : ∀ t ∈ ts, thOk t) (hl : ts.length ≤ 30) : ((ts.map numT).map (·.length)).sum + (ts.map numT).length ≤ 1048576 := by
  have := sum_le (xs := ts.map numT) (B := 61) (fun x hx => by obtain ⟨t, ht, rfl⟩ := List.mem_map.mp hx; exact (num_len (h t ht)).2)
  rw [List.length_map] at this ⊢
  omega
theorem prs_sum {ts : List (Str × Int)} (h : ∀ t ∈ ts, prOk t) (hl : ts.length ≤ 30) : ((ts.map pairT).map (·.length)).sum + (ts.map pairT).length ≤ 1048576 := by
  have := sum_le (xs := ts.map pairT) (B := 70) (fun x hx => by obtain ⟨t, ht, rfl⟩ := List.mem_map.mp hx; exact (pair_len (h t ht)).2)
  rw [List.length_map] at this ⊢
  omega
theorem its_sum {ts : List Item} (h : ∀ t ∈ ts, itOk t) (hl : ts.length ≤ 30) : ((ts.map itemT).map (·.length)).sum + (ts.map itemT).length ≤ 1048576 := by
  have := sum_le (xs := ts.map itemT) (B := 2300) (fun x hx => by obtain ⟨t, ht, rfl⟩ := List.mem_map.mp hx; exact (item_len (h t ht)).2)
  rw [List.length_map] at this ⊢
  omega
theorem paired_unmap {α β γ : Type} {R : α → γ → Prop} {f : β → γ} : ∀ {xs : List α} {ys : List β}, Paired R xs (ys.map f) → Paired (fun x y => R x (f y)) xs ys
  | _, [], h => by cases h; exact .nil
  | _, y :: ys, h => by cases h with | cons a b => exact .cons a (paired_unmap b)
theorem pairs_tup {K : PySem.W.Frag} {H : Hp} {xs : List V} {ps : List (Str × Int)} (h : Paired (Says K T' H 1) xs (ps.map pairD)) : Paired (fun x p => ∃ b, x = .ref b ∧ SqT K H b [.str p.1, .int p.2]) xs ps :=
  Paired.imp' (fun x p z => by
    obtain ⟨b, ws, rfl, hS, r⟩ := says_tup z
    cases r with
    | cons h1 r => cases r with
      | cons h2 r => cases r; rw [says_str h1, says_int h2] at hS; exact ⟨b, rfl, hS⟩) (paired_unmap h)
def spShT : Sp := fun vs H Q _ => ∃ (a : Addr) (ts : List Int), vs = [.ref a] ∧ H a = some (.lst (ts.map V.int)) ∧ (∀ t ∈ ts, thOk t) ∧ ts.length ≤ 30 ∧ ∀ H', Same H H' → Q (.str ("[" ++ Txt.join " " (ts.map numT) ++ "]")) H'
def spShPr : Sp := fun vs H Q _ => ∃ (n : Str) (t : Int), vs = [.str n, .int t] ∧ prOk (n, t) ∧ Q (.str (pairT (n, t))) H
def spShPs (K : PySem.W.Frag) : Sp := fun vs H Q _ => ∃ (a : Addr) (xs : List V) (ps : List (Str × Int)), vs = [.ref a] ∧ H a = some (.lst xs) ∧ Paired (Says K T' H 1) xs (ps.map pairD) ∧ (∀ p ∈ ps, prOk p) ∧ ps.length ≤ 30 ∧ ∀ H', Same H H' → Q (.str ("{" ++ Txt.join " " (ps.map pairT) ++ "}")) H'
def spShI (K : PySem.W.Frag) : Sp := fun vs H Q _ => ∃ (x : V) (it : Item), vs = [x] ∧ Says K T' H 3 x (itemD it) ∧ itOk it ∧ ∀ H', Same H H' → Q (.str (itemT it)) H'
def spShC (K : PySem.W.Frag) : Sp := fun vs H Q _ => ∃ (a : Addr) (c : List Item), vs = [.ref a] ∧ CallAt K H a c ∧ (∀ it ∈ c, itOk it) ∧ c.length ≤ 30 ∧ ∀ H', Same H H' → Q (.str (callT c)) H'
structure TxtS (mg : Str → Option Value) : Prop where
  str : mg "str" = none
section
variable {P : Program} {w : World} {K : PySem.W.Frag} {mg : Str → Option Value} {base : Heap} {f : Addr} {fd : FuncData}
theorem scShT : FnScope ["things"] ["things"] (defScope sShT) := ⟨rfl, rfl, rfl, by decide +kernel, rfl, by decide +kernel, by decide +kernel⟩
theorem ndTh : ([Str.ofString "thing"] : List Str).Nodup := by decide +kernel
theorem ok_shT (F : Fun K "show_things" "show_things" sShT f fd) (T : TxtS mg) : FnOk P w K mg base CX0 1 f fd ["things"] spShT := by
  refine F.ok scShT (fun vs H Q E h => ?_) (fun cdv A outer s H vs Q E hr h => ?_)
  · obtain ⟨a, ts, rfl, _⟩ := h
    rfl
  obtain ⟨a, ts, rfl, ha, ht, hl, q⟩ := h
  refine ⟨_, pss_one (ps_ret (pe_op op_add_str (pe_op op_add_str pe_str (pe_bm PySem.F.plainAttrs_str PySem.F.slot_str_join PySem.F.type_str_join mt_join pe_str (ac (pe_lc [] ["thing"] [none] rfl ⟨rfl, rfl, rfl, rfl⟩ (pi_list (pv 0)) (gown_name 0) rfl rfl rfl
      (fun pins fp s H C => ⟨pg_name (i := 0) ndTh rfl (Or.inl rfl) (.inr rfl), pif_nil, cTy call_strI T.str PyProof.Rows.boot_str (ac (pv 0) pa_nil)⟩)) pa_nil))) pe_str)), ?_⟩
  have rl := row_len ht hl
  refine ⟨rfl, _, rfl, a, rfl, ⟨_, SqL.of ha⟩, fun D hD => ?_⟩
  refine lc_strs ts (fun x t => x = .int t) (fun t => .str (numT t)) hD (by omega) (SqL.of ha) (paired_self fun _ => rfl) ?_ ?_
  · rintro x t H' C S sH rfl hm hC
    exact ⟨fun _ => ⟨_, rfl, t, rfl, num_log (ht t hm), hC H' (Same.refl _)⟩, fun z => absurd z (by decide)⟩
  intro H' sH hDy
  rw [show ts.map (fun t => V.str (numT t)) = (ts.map numT).map V.str by rw [List.map_map]; rfl] at hDy
  refine ⟨" ", D, ts.map numT, rfl, rfl, hDy, by decide, nums_sum ht hl, ?_⟩
  exact ⟨_, _, rfl, rfl, by rw [show ("[" : Str).length = 1 from rfl, sizeLine_eq]; omega, _, _, rfl, rfl, by rw [app_len, show ("[" : Str).length = 1 from rfl, show ("]" : Str).length = 1 from rfl, sizeLine_eq]; omega, q H' sH⟩
theorem scShPr : FnScope ["name", "thing"] ["name", "thing"] (defScope sShPr) := ⟨rfl, rfl, rfl, by decide +kernel, rfl, by decide +kernel, by decide +kernel⟩
theorem ok_shPr (F : Fun K "show_pair" "show_pair" sShPr f fd) : FnOk P w K mg base CX0 1 f fd ["name", "thing"] spShPr := by
  refine F.ok scShPr (fun vs H Q E h => ?_) (fun cdv A outer s H vs Q E hr h => ?_)
  · obtain ⟨n, t, rfl, _⟩ := h
    rfl
  obtain ⟨n, t, rfl, hp, q⟩ := h
  have nl := num_len hp.2
  have m := (nameB_iff.mp hp.1).2.1
  refine ⟨_, pss_one (ps_ret (pe_fpair (pv 0) (pv 1))), ?_⟩
  exact ⟨_, rfl, n, rfl, by show n.length ≤ 100; have : n.length ≤ 8 := m; omega, by decide, _, rfl, t, rfl, num_log hp.2, by have : (numT t).length ≤ 61 := nl.2; omega, q⟩
theorem scShPs : FnScope ["pairs"] ["pairs"] (defScope sShPs) := ⟨rfl, rfl, rfl, by decide +kernel, rfl, by decide +kernel, by decide +kernel⟩
theorem ndNT : ([Str.ofString "name", Str.ofString "thing"] : List Str).Nodup := by decide +kernel
theorem ok_shPs {f1 : Addr} {e1 : FuncData} (F : Fun K "show_pairs" "show_pairs" sShPs f fd) (c1 : Callee P w K mg base 1 "show_pair" f1 e1 ["name", "thing"] spShPr) : FnOk P w K mg base CX0 2 f fd ["pairs"] (spShPs K) := by
  refine F.ok scShPs (fun vs H Q E h => ?_) (fun cdv A outer s H vs Q E hr h => ?_)
  · obtain ⟨a, xs, ps, rfl, _⟩ := h
    rfl
  obtain ⟨a, xs, ps, rfl, ha, hx, hp, hl, q⟩ := h
  have hr1 : Room 1 _ := hr.mono (by decide)
  refine ⟨_, pss_one (ps_ret (pe_op op_add_str (pe_op op_add_str pe_str (pe_bm PySem.F.plainAttrs_str PySem.F.slot_str_join PySem.F.type_str_join mt_join pe_str (ac (pe_lc [] ["name", "thing"] [none, none] rfl ⟨rfl, rfl, rfl, rfl⟩ (pi_list (pv 0)) (gown_tup2 (K := K) (n := 2) 0 1) rfl rfl rfl
      (fun pins fp s H C => ⟨pg_tup rfl (pgs_cons (pg_name (i := 0) ndNT rfl (Or.inl rfl) (.inr rfl)) (pgs_cons (pg_name (i := 1) ndNT rfl (Or.inl rfl) (.inr rfl)) pgs_nil)), pif_nil, cF c1 hr1 (ac (pv 0) (ac (pv 1) pa_nil))⟩)) pa_nil))) pe_str)), ?_⟩
  have rl := book_len hp hl
  refine ⟨rfl, _, rfl, a, rfl, ⟨_, SqL.of ha⟩, fun D hD => ?_⟩
  refine lc_strs ps (fun x p => ∃ b, x = .ref b ∧ SqT K H b [.str p.1, .int p.2]) (fun p => .str (pairT p)) hD (by omega) (SqL.of ha) (pairs_tup hx) ?_ ?_
  · rintro x p H' C S sH ⟨b, rfl, hb⟩ hm hC
    refine ⟨b, _, rfl, Same.sqT sH hb, rfl, _, _, rfl, _, _, rfl, rfl, fun _ => ?_, fun z => absurd z (by decide)⟩
    exact ⟨_, rfl, _, rfl, p.1, p.2, rfl, hp p hm, hC H' (Same.refl _)⟩
  intro H' sH hDy
  rw [show ps.map (fun t => V.str (pairT t)) = (ps.map pairT).map V.str by rw [List.map_map]; rfl] at hDy
  refine ⟨" ", D, ps.map pairT, rfl, rfl, hDy, by decide, prs_sum hp hl, ?_⟩
  exact ⟨_, _, rfl, rfl, by rw [show ("{" : Str).length = 1 from rfl, sizeLine_eq]; omega, _, _, rfl, rfl, by rw [app_len, show ("{" : Str).length = 1 from rfl, show ("}" : Str).length = 1 from rfl, sizeLine_eq]; omega, q H' sH⟩
theorem scShI : FnScope ["item", "word"] ["item"] (defScope sShI) := ⟨rfl, rfl, rfl, by decide +kernel, rfl, by decide +kernel, by decide +kernel⟩
theorem ok_shI {f1 f2 f3 : Addr} {e1 e2 e3 : FuncData} (F : Fun K "show_item" "show_item" sShI f fd) (T : TxtS mg) (c1 : Callee P w K mg base 1 "show_pair" f1 e1 ["name", "thing"] spShPr) (c2 : Callee P w K mg base 2 "show_pairs" f2 e2 ["pairs"] (spShPs K)) (c3 : Callee P w K mg base 1 "show_things" f3 e3 ["things"] spShT) :
    FnOk P w K mg base CX0 3 f fd ["item"] (spShI K) := by
  refine F.ok scShI (fun vs H Q E h => ?_) (fun cdv A outer s H vs Q E hr h => ?_)
  · obtain ⟨x, it, rfl, _⟩ := h
    rfl
  obtain ⟨x, it, rfl, hx, hi, q⟩ := h
  have hr1 : Room 1 _ := hr.mono (by decide)
  have hr2 : Room 2 _ := hr.mono (by decide)
  obtain ⟨h1, h2, h3, h4⟩ := hi
  refine ⟨_, pss_cons (ps_set (i := 1) scShI.nd rfl (Or.inl rfl) (pe_ix ix_tup (pv 0) pe_int (fun _ _ => rfl)))
    (pss_cons (ps_if (pt_cmpR op_eq (pv 1) pe_str (nomark _)) (pss_one (ps_ret (cTy call_strI T.str PyProof.Rows.boot_str (ac (pe_ix ix_tup (pv 0) pe_int (fun _ _ => rfl)) pa_nil)))) pss_nil)
    (pss_cons (ps_if (pt_cmpR op_eq (pv 1) pe_str (nomark _)) (pss_one (ps_ret (cF c3 hr1 (ac (pe_ix ix_tup (pv 0) pe_int (fun _ _ => rfl)) pa_nil)))) pss_nil)
    (pss_cons (ps_if (pt_cmpR op_eq (pv 1) pe_str (nomark _)) (pss_one (ps_ret (cF c1 hr1 (ac (pe_ix ix_tup (pv 0) pe_int (fun _ _ => rfl)) (ac (pe_ix ix_tup (pv 0) pe_int (fun _ _ => rfl)) pa_nil))))) pss_nil)
    (pss_one (ps_ret (cF c2 hr2 (ac (pe_ix ix_tup (pv 0) pe_int (fun _ _ => rfl)) pa_nil))))))), ?_⟩
  cases it with
  | one t =>
    obtain ⟨b, rfl, hb⟩ := item_one hx
    refine ⟨_, rfl, b, _, _, .str "one", rfl, rfl, hb, rfl, ?_⟩
    refine ⟨_, rfl, rfl, _, rfl, ?_⟩
    refine dT rfl ?_
    exact ⟨_, rfl, b, _, _, .int t, rfl, rfl, hb, rfl, t, rfl, num_log (h1 t List.mem_cons_self), q H (Same.refl _)⟩
  | row ts =>
    obtain ⟨b, l, rfl, hb, _, hl⟩ := item_row hx
    refine ⟨_, rfl, b, _, _, .str "row", rfl, rfl, hb, rfl, ?_⟩
    refine ⟨_, rfl, rfl, _, rfl, ?_⟩
    refine dF ne1 ?_
    refine ⟨_, rfl, rfl, _, rfl, ?_⟩
    refine dT rfl ?_
    exact ⟨_, rfl, b, _, _, .ref l, rfl, rfl, hb, rfl, l, ts, rfl, hl, h1, h3, q⟩
  | named n t =>
    obtain ⟨b, rfl, hb⟩ := item_named hx
    refine ⟨_, rfl, b, _, _, .str "named", rfl, rfl, hb, rfl, ?_⟩
    refine ⟨_, rfl, rfl, _, rfl, ?_⟩
    refine dF ne2 ?_
    refine ⟨_, rfl, rfl, _, rfl, ?_⟩
    refine dF ne4 ?_
    refine ⟨_, rfl, rfl, _, rfl, ?_⟩
    refine dT rfl ?_
    exact ⟨_, rfl, b, _, _, .str n, rfl, rfl, hb, rfl, _, rfl, b, _, _, .int t, rfl, rfl, hb, rfl, n, t, rfl, h2 (n, t) List.mem_cons_self, q H (Same.refl _)⟩
  | book ps =>
    obtain ⟨b, l, ys, rfl, hb, _, hl, hy⟩ := item_book hx
    refine ⟨_, rfl, b, _, _, .str "book", rfl, rfl, hb, rfl, ?_⟩
    refine ⟨_, rfl, rfl, _, rfl, ?_⟩
    refine dF ne3 ?_
    refine ⟨_, rfl, rfl, _, rfl, ?_⟩
    refine dF ne5 ?_
    refine ⟨_, rfl, rfl, _, rfl, ?_⟩
    refine dF ne6 ?_
    exact ⟨_, rfl, b, _, _, .ref l, rfl, rfl, hb, rfl, l, ys, ps, rfl, hl, hy, h2, h4, q⟩
theorem scShC : FnScope ["call"] ["call"] (defScope sShC) := ⟨rfl, rfl, rfl, by decide +kernel, rfl, by decide +kernel, by decide +kernel⟩
theorem ndIt : ([Str.ofString "item"] : List Str).Nodup := by decide +kernel
theorem ok_shC {f1 : Addr} {e1 : FuncData} (F : Fun K "show_call" "show_call" sShC f fd) (c1 : Callee P w K mg base 3 "show_item" f1 e1 ["item"] (spShI K)) : FnOk P w K mg base CX0 4 f fd ["call"] (spShC K) := by
  refine F.ok scShC (fun vs H Q E h => ?_) (fun cdv A outer s H vs Q E hr h => ?_)
  · obtain ⟨a, c, rfl, _⟩ := h
    rfl
  obtain ⟨a, c, rfl, ⟨xs, hS, hx⟩, hi, hl, q⟩ := h
  have hr1 : Room 3 _ := hr.mono (by decide)
  refine ⟨_, pss_one (ps_ret (pe_bm PySem.F.plainAttrs_str PySem.F.slot_str_join PySem.F.type_str_join mt_join pe_str (ac (pe_lc [] ["item"] [none] rfl ⟨rfl, rfl, rfl, rfl⟩ (pi_list (pv 0)) (gown_name 0) rfl rfl rfl
      (fun pins fp s H C => ⟨pg_name (i := 0) ndIt rfl (Or.inl rfl) (.inr rfl), pif_nil, cF c1 hr1 (ac (pv 0) pa_nil)⟩)) pa_nil))), ?_⟩
  refine ⟨rfl, _, rfl, a, rfl, ⟨_, hS⟩, fun D hD => ?_⟩
  refine lc_strs c (fun x it => Says K T' H 3 x (itemD it)) (fun it => .str (itemT it)) hD (by omega) hS (paired_unmap hx) ?_ ?_
  · rintro x it H' C S sH hx' hm hC
    exact ⟨fun _ => ⟨_, rfl, x, it, rfl, hx'.same sH, hi it hm, hC⟩, fun z => absurd z (by decide)⟩
  intro H' sH hDy
  rw [show c.map (fun t => V.str (itemT t)) = (c.map itemT).map V.str by rw [List.map_map]; rfl] at hDy
  exact ⟨", ", D, c.map itemT, rfl, rfl, hDy, by decide, its_sum hi hl, q H' sH⟩
end
end K91

set_option Elab.async false
set_option linter.all false
set_option maxRecDepth 100000
set_option maxHeartbeats 4000000
namespace K91
open PySem L2 PyProof.Rows
section
variable {P : Program} {w : World} {K : PySem.W.Frag} {mg : Str → Option Value} {base : Heap} {f : Addr} {fd : FuncData}
theorem scIText : FnScope ["_law_item"] ["_law_item"] (defScope sIText) := ⟨rfl, rfl, rfl, by decide +kernel, rfl, by decide +kernel, by decide +kernel⟩
theorem ndLTh : ([Str.ofString "_law_thing_here"] : List Str).Nodup := by decide +kernel
theorem ndLNT : ([Str.ofString "_law_name", Str.ofString "_law_thing_here"] : List Str).Nodup := by decide +kernel
theorem ne4' : ¬ (V.str "row" = V.str "named") := by decide +kernel
theorem ok_iText (F : Fun K "_law_item_text" "_law_item_text" sIText f fd) (T : TxtS mg) : FnOk P w K mg base CX0 1 f fd ["_law_item"] (spShI K) := by
  refine F.ok scIText (fun vs H Q E h => ?_) (fun cdv A outer s H vs Q E hr h => ?_)
  · obtain ⟨x, it, rfl, _⟩ := h
    rfl
  obtain ⟨x, it, rfl, hx, hi, q⟩ := h
  obtain ⟨h1, h2, h3, h4⟩ := hi
  refine ⟨_, pss_cons (ps_if (pt_cmpR op_eq (pe_ix ix_tup (pv 0) pe_int (fun _ _ => rfl)) pe_str (nomark _)) (pss_one (ps_ret (cTy call_strI T.str PyProof.Rows.boot_str (ac (pe_ix ix_tup (pv 0) pe_int (fun _ _ => rfl)) pa_nil)))) pss_nil)
    (pss_cons (ps_if (pt_cmpR op_eq (pe_ix ix_tup (pv 0) pe_int (fun _ _ => rfl)) pe_str (nomark _)) (pss_one (ps_ret (pe_op op_add_str (pe_op op_add_str (pe_ix ix_tup (pv 0) pe_int (fun _ _ => rfl)) pe_str) (cTy call_strI T.str PyProof.Rows.boot_str (ac (pe_ix ix_tup (pv 0) pe_int (fun _ _ => rfl)) pa_nil))))) pss_nil)
    (pss_cons (ps_if (pt_cmpR op_eq (pe_ix ix_tup (pv 0) pe_int (fun _ _ => rfl)) pe_str (nomark _)) (pss_one (ps_ret (pe_op op_add_str (pe_op op_add_str pe_str (pe_bm PySem.F.plainAttrs_str PySem.F.slot_str_join PySem.F.type_str_join mt_join pe_str (ac (pe_lc [] ["_law_thing_here"] [none] rfl ⟨rfl, rfl, rfl, rfl⟩ (pi_list (pe_ix ix_tup (pv 0) pe_int (fun _ _ => rfl))) (gown_name 0) rfl rfl rfl
      (fun pins fp s H C => ⟨pg_name (i := 0) ndLTh rfl (Or.inl rfl) (.inr rfl), pif_nil, cTy call_strI T.str PyProof.Rows.boot_str (ac (pv 0) pa_nil)⟩)) pa_nil))) pe_str))) pss_nil)
    (pss_one (ps_ret (pe_op op_add_str (pe_op op_add_str pe_str (pe_bm PySem.F.plainAttrs_str PySem.F.slot_str_join PySem.F.type_str_join mt_join pe_str (ac (pe_lc [] ["_law_name", "_law_thing_here"] [none, none] rfl ⟨rfl, rfl, rfl, rfl⟩ (pi_list (pe_ix ix_tup (pv 0) pe_int (fun _ _ => rfl))) (gown_tup2 (K := K) (n := 2) 0 1) rfl rfl rfl
      (fun pins fp s H C => ⟨pg_tup rfl (pgs_cons (pg_name (i := 0) ndLNT rfl (Or.inl rfl) (.inr rfl)) (pgs_cons (pg_name (i := 1) ndLNT rfl (Or.inl rfl) (.inr rfl)) pgs_nil)), pif_nil, pe_op op_add_str (pe_op op_add_str (pv 0) pe_str) (cTy call_strI T.str PyProof.Rows.boot_str (ac (pv 1) pa_nil))⟩)) pa_nil))) pe_str))))), ?_⟩
  cases it with
  | one t =>
    obtain ⟨b, rfl, hb⟩ := item_one hx
    refine ⟨_, rfl, b, _, _, .str "one", rfl, rfl, hb, rfl, rfl, _, rfl, ?_⟩
    refine dT rfl ?_
    exact ⟨_, rfl, b, _, _, .int t, rfl, rfl, hb, rfl, t, rfl, num_log (h1 t List.mem_cons_self), q H (Same.refl _)⟩
  | named n t =>
    obtain ⟨b, rfl, hb⟩ := item_named hx
    have hp := h2 (n, t) List.mem_cons_self
    have nl := pair_len hp
    rw [show pairT (n, t) = n ++ "=" ++ numT t from rfl, app_len, app_len, show ("=" : Str).length = 1 from rfl] at nl
    refine ⟨_, rfl, b, _, _, .str "named", rfl, rfl, hb, rfl, rfl, _, rfl, ?_⟩
    refine dF ne2 ?_
    refine ⟨_, rfl, b, _, _, .str "named", rfl, rfl, hb, rfl, rfl, _, rfl, ?_⟩
    refine dT rfl ?_
    refine ⟨_, rfl, b, _, _, .str n, rfl, rfl, hb, rfl, _, _, rfl, rfl, by rw [show ("=" : Str).length = 1 from rfl, sizeLine_eq]; omega, _, rfl, b, _, _, .int t, rfl, rfl, hb, rfl, t, rfl, num_log hp.2, _, _, rfl, rfl, ?_, q H (Same.refl _)⟩
    rw [app_len, show ("=" : Str).length = 1 from rfl, sizeLine_eq]
    have : (Str.ofString (toString t)).length ≤ 70 := by have := nl.2; show (numT t).length ≤ 70; omega
    omega
  | row ts =>
    obtain ⟨b, l, rfl, hb, _, hl⟩ := item_row hx
    have rl := row_len (ts := ts) h1 h3
    refine ⟨_, rfl, b, _, _, .str "row", rfl, rfl, hb, rfl, rfl, _, rfl, ?_⟩
    refine dF ne1 ?_
    refine ⟨_, rfl, b, _, _, .str "row", rfl, rfl, hb, rfl, rfl, _, rfl, ?_⟩
    refine dF ne4' ?_
    refine ⟨_, rfl, b, _, _, .str "row", rfl, rfl, hb, rfl, rfl, _, rfl, ?_⟩
    refine dT rfl ?_
    refine ⟨rfl, _, rfl, b, _, _, .ref l, rfl, rfl, hb, rfl, l, rfl, ⟨_, SqL.of hl⟩, fun D hD => ?_⟩
    refine lc_strs ts (fun x t => x = .int t) (fun t => .str (numT t)) hD (by have : ts.length ≤ 30 := h3; omega) (SqL.of hl) (paired_self fun _ => rfl) ?_ ?_
    · rintro x t H' C S sH rfl hm hC
      exact ⟨fun _ => ⟨_, rfl, t, rfl, num_log (h1 t hm), hC H' (Same.refl _)⟩, fun z => absurd z (by decide)⟩
    intro H' sH hDy
    rw [show ts.map (fun t => V.str (numT t)) = (ts.map numT).map V.str by rw [List.map_map]; rfl] at hDy
    refine ⟨" ", D, ts.map numT, rfl, rfl, hDy, by decide, nums_sum (ts := ts) h1 h3, ?_⟩
    exact ⟨_, _, rfl, rfl, by rw [show ("[" : Str).length = 1 from rfl, sizeLine_eq]; omega, _, _, rfl, rfl, by rw [app_len, show ("[" : Str).length = 1 from rfl, show ("]" : Str).length = 1 from rfl, sizeLine_eq]; omega, q H' sH⟩
  | book ps =>
    obtain ⟨b, l, ys, rfl, hb, _, hl, hy⟩ := item_book hx
    have rl := book_len (ps := ps) h2 h4
    refine ⟨_, rfl, b, _, _, .str "book", rfl, rfl, hb, rfl, rfl, _, rfl, ?_⟩
    refine dF ne3 ?_
    refine ⟨_, rfl, b, _, _, .str "book", rfl, rfl, hb, rfl, rfl, _, rfl, ?_⟩
    refine dF ne6 ?_
    refine ⟨_, rfl, b, _, _, .str "book", rfl, rfl, hb, rfl, rfl, _, rfl, ?_⟩
    refine dF ne5 ?_
    refine ⟨rfl, _, rfl, b, _, _, .ref l, rfl, rfl, hb, rfl, l, rfl, ⟨_, SqL.of hl⟩, fun D hD => ?_⟩
    refine lc_strs ps (fun x p => ∃ b, x = .ref b ∧ SqT K H b [.str p.1, .int p.2]) (fun p => .str (pairT p)) hD (by have : ps.length ≤ 30 := h4; omega) (SqL.of hl) (pairs_tup hy) ?_ ?_
    · rintro x p H' C S sH ⟨b, rfl, hb⟩ hm hC
      have hp := h2 p hm
      have nl := pair_len hp
      rw [show pairT p = p.1 ++ "=" ++ numT p.2 from rfl, app_len, app_len, show ("=" : Str).length = 1 from rfl] at nl
      refine ⟨b, _, rfl, Same.sqT sH hb, rfl, _, _, rfl, _, _, rfl, rfl, fun _ => ?_, fun z => absurd z (by decide)⟩
      refine ⟨_, rfl, _, _, rfl, rfl, by rw [show ("=" : Str).length = 1 from rfl, sizeLine_eq]; omega, _, rfl, p.2, rfl, num_log hp.2, _, _, rfl, rfl, ?_, hC H' (Same.refl _)⟩
      rw [app_len, show ("=" : Str).length = 1 from rfl, sizeLine_eq]
      have : (Str.ofString (toString p.2)).length ≤ 70 := by have := nl.2; show (numT p.2).length ≤ 70; omega
      omega
    intro H' sH hDy
    rw [show ps.map (fun t => V.str (pairT t)) = (ps.map pairT).map V.str by rw [List.map_map]; rfl] at hDy
    refine ⟨" ", D, ps.map pairT, rfl, rfl, hDy, by decide, prs_sum (ts := ps) h2 h4, ?_⟩
    exact ⟨_, _, rfl, rfl, by rw [show ("{" : Str).length = 1 from rfl, sizeLine_eq]; omega, _, _, rfl, rfl, by rw [app_len, show ("{" : Str).length = 1 from rfl, show ("}" : Str).length = 1 from rfl, sizeLine_eq]; omega, q H' sH⟩
theorem scCText : FnScope ["_law_items_here"] ["_law_items_here"] (defScope sCText) := ⟨rfl, rfl, rfl, by decide +kernel, rfl, by decide +kernel, by decide +kernel⟩
theorem ndLIt : ([Str.ofString "_law_item"] : List Str).Nodup := by decide +kernel
theorem ok_cText {f1 : Addr} {e1 : FuncData} (F : Fun K "_law_call_text" "_law_call_text" sCText f fd) (c1 : Callee P w K mg base 1 "_law_item_text" f1 e1 ["_law_item"] (spShI K)) : FnOk P w K mg base CX0 2 f fd ["_law_items_here"] (spShC K) := by
  refine F.ok scCText (fun vs H Q E h => ?_) (fun cdv A outer s H vs Q E hr h => ?_)
  · obtain ⟨a, c, rfl, _⟩ := h
    rfl
  obtain ⟨a, c, rfl, ⟨xs, hS, hx⟩, hi, hl, q⟩ := h
  have hr1 : Room 1 _ := hr.mono (by decide)
  refine ⟨_, pss_one (ps_ret (pe_bm PySem.F.plainAttrs_str PySem.F.slot_str_join PySem.F.type_str_join mt_join pe_str (ac (pe_lc [] ["_law_item"] [none] rfl ⟨rfl, rfl, rfl, rfl⟩ (pi_list (pv 0)) (gown_name 0) rfl rfl rfl
      (fun pins fp s H C => ⟨pg_name (i := 0) ndLIt rfl (Or.inl rfl) (.inr rfl), pif_nil, cF c1 hr1 (ac (pv 0) pa_nil)⟩)) pa_nil))), ?_⟩
  refine ⟨rfl, _, rfl, a, rfl, ⟨_, hS⟩, fun D hD => ?_⟩
  refine lc_strs c (fun x it => Says K T' H 3 x (itemD it)) (fun it => .str (itemT it)) hD (by omega) hS (paired_unmap hx) ?_ ?_
  · rintro x it H' C S sH hx' hm hC
    exact ⟨fun _ => ⟨_, rfl, x, it, rfl, hx'.same sH, hi it hm, hC⟩, fun z => absurd z (by decide)⟩
  intro H' sH hDy
  rw [show c.map (fun t => V.str (itemT t)) = (c.map itemT).map V.str by rw [List.map_map]; rfl] at hDy
  exact ⟨", ", D, c.map itemT, rfl, rfl, hDy, by decide, its_sum hi hl, q H' sH⟩
end
end K91

set_option Elab.async false
set_option linter.all false
set_option maxRecDepth 100000
set_option maxHeartbeats 4000000
namespace K91
open PySem L2 PyProof.Rows
/-! ### forms as texts -/
def endS (k : Nat) : Str := match k with
  | 0 => "!" | 1 => "" | 2 => ".." | 3 => ":" | _ => "::"
def tk (k : Nat) : Bool := k == 0 || k == 1 || k == 3
def wrS (r : Rw) : Str := r.z ++ endS r.k
def parT (r : Rw) : Str := if (tk r.k && r.b) = true then wrS r ++ "?" else wrS r
def barT (z : Str) : Str := "-" ++ z
def formT (rows : List Rw) (bars : List Str) : Str := Txt.join ", " (rows.map parT ++ bars.map barT)
def endL : List (Key × V) := [(.inr "seat", .str "!"), (.inr "both", .str ""), (.inr "tail", .str ".."), (.inr "tag", .str ":"), (.inr "bag", .str "::")]
def endV (x : Str) : Option V := ([(("seat" : Str), V.str "!"), ("both", .str ""), ("tail", .str ".."), ("tag", .str ":"), ("bag", .str "::")] : List (Str × V)).lookup x
theorem endV_kw : ∀ k : Nat, k < 5 → endV (kw k) = some (.str (endS k)) := by decide +kernel
theorem endL_kw : ∀ k : Nat, k < 5 → some (V.str (endS k)) = valV (mergeK [] endL) (.inr (kw k)) := by decide +kernel
theorem in_tk : ∀ k : Nat, k < 5 → inV (.str (kw k)) otL = tk k := by decide +kernel
theorem fr_tk : ∀ k : Nat, k < 5 → ∀ b, tk k = true → fr k b = b := by decide
theorem end_len : ∀ k : Nat, (endS k).length ≤ 2 := by
  intro k
  unfold endS
  split <;> decide
theorem wr_len {r : Rw} (h : r.ok) : 1 ≤ (wrS r).length ∧ (wrS r).length ≤ 10 := by
  have a := nameB_iff.mp h.2
  have b := end_len r.k
  unfold wrS
  rw [app_len]
  omega
theorem par_len {r : Rw} (h : r.ok) : 1 ≤ (parT r).length ∧ (parT r).length ≤ 11 := by
  have a := wr_len h
  unfold parT
  split
  · rw [app_len, show ("?" : Str).length = 1 from rfl]; omega
  · omega
theorem bar_len {z : Str} (h : nameB z = true) : 1 ≤ (barT z).length ∧ (barT z).length ≤ 9 := by
  have a := nameB_iff.mp h
  unfold barT
  rw [app_len, show ("-" : Str).length = 1 from rfl]
  omega
theorem form_sum {rows : List Rw} {bars : List Str} (h : ∀ r ∈ rows, r.ok) (hb : ∀ z ∈ bars, nameB z = true) (l1 : rows.length ≤ 500) (l2 : bars.length ≤ 500) : ((rows.map parT ++ bars.map barT).map (·.length)).sum + (rows.map parT ++ bars.map barT).length ≤ 1048576 := by
  have := sum_le (xs := rows.map parT ++ bars.map barT) (B := 11) (fun x hx => by
    rcases List.mem_append.mp hx with hx | hx
    · obtain ⟨r, hr, rfl⟩ := List.mem_map.mp hx; exact (par_len (h r hr)).2
    · obtain ⟨z, hz, rfl⟩ := List.mem_map.mp hx; have := (bar_len (hb z hz)).2; omega)
  simp only [List.length_append, List.length_map] at this ⊢
  omega
def spShP (c : C5) : Sp := fun vs H Q _ => ∃ (p : Addr) (r : Rw), vs = [.ref p] ∧ r.ok ∧ PAt c H p r ∧ Q (.str (parT r)) H
def spShF (c : C5) (CF : Addr) : Sp := fun vs H Q _ => ∃ (f : Addr) (rows : List Rw) (bars : List Str), vs = [.ref f] ∧ FormOk c CF H f rows bars ∧ (∀ z ∈ bars, nameB z = true) ∧ ∀ H', Same H H' → Q (.str (formT rows bars)) H'
def spFTx : Sp := fun vs H Q _ => ∃ (a b : Addr) (us : List Addr) (rows : List Rw) (bars : List Str), vs = [.ref a, .ref b] ∧ H a = some (.lst (us.map V.ref)) ∧ Paired (TAt H) us rows ∧ (∀ r ∈ rows, r.ok) ∧ rows.length ≤ 500 ∧ H b = some (.lst (bars.map V.str)) ∧ (∀ z ∈ bars, nameB z = true) ∧ bars.length ≤ 500 ∧ ∀ H', Same H H' → Q (.str (formT rows bars)) H'
structure TxtE (w : World) (K : PySem.W.Frag) (mg : Str → Option Value) (EA : Addr) : Prop where
  me : mg "ENDS" = some (.ref EA)
  et : KTab w K EA endV
section
variable {P : Program} {w : World} {K : PySem.W.Frag} {mg : Str → Option Value} {base : Heap} {f EA CF : Addr} {fd : FuncData} {c : C5} {m : MA}
theorem scShP : FnScope ["parameter", "written"] ["parameter"] (defScope sShP) := ⟨rfl, rfl, rfl, by decide +kernel, rfl, by decide +kernel, by decide +kernel⟩
theorem ok_shP {g1 g2 : FuncData} (F : Fun K "show_parameter" "show_parameter" sShP f fd) (T : TxtE w K mg EA) (PP : Pcs K m c) (GT : FnOk P w K mg base CX0 1 m.fT g1 ["self"] (spIn K m otL)) (bT : Binds K g1 ["self"] []) (GF : FnOk P w K mg base CX0 1 m.fF g2 ["self"] (spFree K m)) (bF : Binds K g2 ["self"] []) :
    FnOk P w K mg base CX0 2 f fd ["parameter"] (spShP c) := by
  refine F.ok scShP (fun vs H Q E h => ?_) (fun cdv A outer s H vs Q E hr h => ?_)
  · obtain ⟨p, r, rfl, _⟩ := h
    rfl
  obtain ⟨p, r, rfl, hr', ⟨dx, hp⟩, q⟩ := h
  have hr1 : Room 1 _ := hr.mono (by decide)
  have hT : ∀ C, Cs5 c C → Cls K C ∧ Meth K C "takes_one" m.fT := fun C ⟨k, hk, e⟩ => by rw [e]; exact ⟨(PP k hk).cl, (PP k hk).mT⟩
  have hF : ∀ C, Cs5 c C → Cls K C ∧ Meth K C "free" m.fF := fun C ⟨k, hk, e⟩ => by rw [e]; exact ⟨(PP k hk).cl, (PP k hk).mF⟩
  have C := PP r.k hr'.1
  have n1 : (pr r).lookup ("takes_one" : Str) = none := pf_no (by decide +kernel) (by decide +kernel) (by decide +kernel)
  have n2 : (pr r).lookup ("free" : Str) = none := pf_no (by decide +kernel) (by decide +kernel) (by decide +kernel)
  have wl := wr_len hr'
  have el := end_len r.k
  have zl := (nameB_iff.mp hr'.2).2.1
  refine ⟨_, pss_cons (ps_set (i := 1) scShP.nd rfl (Or.inl rfl) (pe_op op_add_str (pe_fld (pv 0) rfl) (pe_kget T.et T.me (pe_fld (pv 0) rfl))))
    (pss_one (ps_ret (pe_ifExp (PW.pt (pw_and (pt_val (pe_methP (pv 0) hT GT hr1 bT pass0)) (pw_and1 (pt_val (pe_methP (pv 0) hF GF hr1 bF pass0))))) (pe_op op_add_str (pv 1) pe_str) (pv 1)))), ?_⟩
  refine ⟨_, rfl, p, _, dx, _, _, rfl, hp, C.cl, C.nN, pf_name, _, rfl, p, _, dx, _, _, rfl, hp, C.cl, C.nW, pf_word, _, _, rfl, endV_kw r.k hr'.1, _, _, rfl, rfl, by rw [sizeLine_eq]; omega, ?_⟩
  refine ⟨_, rfl, p, _, dx, _, rfl, ⟨r.k, hr'.1, rfl⟩, hp, n1, p, dx, _, kw r.k, _, _, rfl, C, hp, _, rfl, ?_⟩
  rw [in_tk r.k hr'.1]
  unfold parT at q
  cases e : tk r.k
  · rw [e] at q
    exact iteF ⟨_, rfl, q⟩
  · rw [e] at q
    refine iteT ⟨_, rfl, p, _, dx, _, rfl, ⟨r.k, hr'.1, rfl⟩, hp, n2, p, dx, _, kw r.k, _, _, rfl, C, hp, _, rfl, ?_⟩
    rw [fr_tk r.k hr'.1 r.b e]
    cases e2 : r.b
    · rw [e2] at q
      exact iteF ⟨_, rfl, q⟩
    · rw [e2] at q
      refine iteT ⟨_, rfl, _, _, rfl, rfl, ?_, q⟩
      have : (r.z ++ endS r.k).length ≤ 10 := wl.2
      rw [show ("?" : Str).length = 1 from rfl, sizeLine_eq]
      omega
end
end K91

set_option Elab.async false
set_option linter.all false
set_option maxRecDepth 100000
set_option maxHeartbeats 4000000
namespace K91
open PySem L2 PyProof.Rows
theorem rv0 : ∀ {r : Rw}, r.k < 5 → atI (rv r) 0 = some (.str (kw r.k)) := by
  rintro ⟨k, z, b⟩ h
  rcases lt5 h with rfl | rfl | rfl | rfl | rfl <;> rfl
theorem rv1 : ∀ {r : Rw}, r.k < 5 → atI (rv r) 1 = some (.str r.z) := by
  rintro ⟨k, z, b⟩ h
  rcases lt5 h with rfl | rfl | rfl | rfl | rfl <;> rfl
theorem rv2 : ∀ {r : Rw}, r.k < 5 → tk r.k = true → atI (rv r) 2 = some (.bl r.b) := by
  rintro ⟨k, z, b⟩ h t
  rcases lt5 h with rfl | rfl | rfl | rfl | rfl <;> first | rfl | cases t
theorem rv_len : ∀ {r : Rw}, r.k < 5 → ((rv r).length : Int) = if tk r.k = true then 3 else 2 := by
  rintro ⟨k, z, b⟩ h
  rcases lt5 h with rfl | rfl | rfl | rfl | rfl <;> rfl
theorem bars_paired (bars : List Str) : Paired (fun x z => x = V.str z) (bars.map V.str) bars := paired_self fun _ => rfl
theorem refs_paired {R : Addr → Rw → Prop} : ∀ {ps : List Addr} {rows : List Rw}, Paired R ps rows → Paired (fun x r => ∃ u, x = V.ref u ∧ R u r) (ps.map V.ref) rows
  | _, _, .nil => .nil
  | _, _, .cons h t => .cons ⟨_, rfl, h⟩ (refs_paired t)
section
variable {P : Program} {w : World} {K : PySem.W.Frag} {mg : Str → Option Value} {base : Heap} {f EA CF : Addr} {fd : FuncData} {c : C5} {m : MA}
theorem scShF : FnScope ["form"] ["form"] (defScope sShF) := ⟨rfl, rfl, rfl, by decide +kernel, rfl, by decide +kernel, by decide +kernel⟩
theorem ndOne9 : ([Str.ofString "one"] : List Str).Nodup := by decide +kernel
theorem ndNm : ([Str.ofString "name"] : List Str).Nodup := by decide +kernel
theorem ok_shF {f1 g1 g2 : Addr} {e1 d1 d2 : FuncData} (F : Fun K "show_form" "show_form" sShF f fd) (FK : FC K CF) (c1 : Callee P w K mg base 2 "show_parameter" f1 e1 ["parameter"] (spShP c))
    (mP : Meth K CF "parameters" g1) (GP : FnOk P w K mg base CX0 1 g1 d1 ["self"] (spPars c CF)) (bP : Binds K d1 ["self"] []) (mB : Meth K CF "bars" g2) (GB : FnOk P w K mg base CX0 1 g2 d2 ["self"] (spBars c CF)) (bB : Binds K d2 ["self"] []) :
    FnOk P w K mg base CX0 3 f fd ["form"] (spShF c CF) := by
  refine F.ok scShF (fun vs H Q E h => ?_) (fun cdv A outer s H vs Q E hr h => ?_)
  · obtain ⟨p, rows, bars, rfl, _⟩ := h
    rfl
  obtain ⟨p, rows, bars, rfl, hF, hb, q⟩ := h
  have hr1 : Room 1 _ := hr.mono (by decide)
  have hr2 : Room 2 _ := hr.mono (by decide)
  have hF' := hF.at_
  obtain ⟨dx, fs, lr, lb, ld, ps, h1, h2, h3, h4, h5, h6⟩ := hF.at_
  have n1 : fs.lookup ("parameters" : Str) = none := h2.no _ (by decide +kernel)
  have n2 : fs.lookup ("bars" : Str) = none := h2.no _ (by decide +kernel)
  refine ⟨_, pss_one (ps_ret (pe_bm PySem.F.plainAttrs_str PySem.F.slot_str_join PySem.F.type_str_join mt_join pe_str (ac (pe_op op_cat
    (pe_lc [] ["one"] [none] rfl ⟨rfl, rfl, rfl, rfl⟩ (pi_list (pe_meth0 (pv 0) FK.cl mP GP hr1 bP .nil pass0)) (gown_name 0) rfl rfl rfl
      (fun pins fp s H C => ⟨pg_name (i := 0) ndOne9 rfl (Or.inl rfl) (.inr rfl), pif_nil, cF c1 hr2 (ac (pv 0) pa_nil)⟩))
    (pe_lc [] ["name"] [none] rfl ⟨rfl, rfl, rfl, rfl⟩ (pi_list (pe_meth0 (pv 0) FK.cl mB GB hr1 bB .nil pass0)) (gown_name 0) rfl rfl rfl
      (fun pins fp s H C => ⟨pg_name (i := 0) ndNm rfl (Or.inl rfl) (.inr rfl), pif_nil, pe_op op_add_str pe_str (pv 0)⟩))) pa_nil))), ?_⟩
  refine ⟨rfl, _, rfl, p, dx, fs, rfl, h1, n1, p, rows, bars, rfl, hF', fun l qs H1 s1 hl0 hl hq => ?_⟩
  refine ⟨l, rfl, ⟨_, SqL.of hl⟩, fun D hD => ?_⟩
  refine lc_strs rows (fun x r => ∃ u, x = .ref u ∧ PAt c H1 u r) (fun r => .str (parT r)) hD (by have := hF.lr; omega) (SqL.of hl) (refs_paired hq) ?_ ?_
  · rintro x r H' C S sH ⟨u, rfl, hu⟩ hm hC
    exact ⟨fun _ => ⟨_, rfl, u, r, rfl, hF.ok r hm, hu.same sH, hC H' (Same.refl _)⟩, fun z => absurd z (by decide)⟩
  intro H2 s2 hD2
  have s02 := s1.trans s2
  refine ⟨_, rfl, p, dx, fs, rfl, s02 _ _ h1, n2, p, rows, bars, rfl, ⟨dx, fs, lr, lb, ld, ps, s02 _ _ h1, h2, s02 _ _ h3, pats_same s02 h4, s02 _ _ h5, s02 _ _ h6⟩, fun l2 H3 s3 hl20 hl2 => ?_⟩
  refine ⟨l2, rfl, ⟨_, SqL.of hl2⟩, fun D2 hD' => ?_⟩
  refine lc_strs bars (fun x z => x = V.str z) (fun z => .str (barT z)) hD' (by have := hF.lb; omega) (SqL.of hl2) (bars_paired bars) ?_ ?_
  · rintro x z H' C S sH rfl hm hC
    have := (nameB_iff.mp (hb z hm)).2.1
    exact ⟨fun _ => ⟨_, rfl, _, _, rfl, rfl, by rw [show ("-" : Str).length = 1 from rfl, sizeLine_eq]; omega, hC H' (Same.refl _)⟩, fun z => absurd z (by decide)⟩
  intro H4 s4 hD4
  have l1 := hF.lr
  have l2' := hF.lb
  refine ⟨D, D2, _, _, rfl, rfl, (s3.trans s4) _ _ hD2, hD4, by simp only [List.length_map]; rw [sizeLine_eq]; omega, fun r hrn => ?_⟩
  refine ⟨", ", r, rows.map parT ++ bars.map barT, rfl, rfl, ?_, by decide, form_sum hF.ok hb l1 l2', q _ ((s02.trans (s3.trans s4)).trans (same_new hrn _))⟩
  rw [upd_same, List.map_append, List.map_map, List.map_map]
  rfl
theorem scFText : FnScope ["_law_specs_here", "_law_shut", "_law_texts", "_law_one", "_law_text"] ["_law_specs_here", "_law_shut"] (defScope sFText) := ⟨rfl, rfl, rfl, by decide +kernel, rfl, by decide +kernel, by decide +kernel⟩
theorem ndLNm : ([Str.ofString "_law_name"] : List Str).Nodup := by decide +kernel
theorem ok_fText (F : Fun K "_law_form_text" "_law_form_text" sFText f fd) (hlen : mg "len" = none) : FnOk P w K mg base CX0 1 f fd ["_law_specs_here", "_law_shut"] spFTx := by
  refine F.ok scFText (fun vs H Q E h => ?_) (fun cdv A outer s H vs Q E hr h => ?_)
  · obtain ⟨a, b, us, rows, bars, rfl, _⟩ := h
    rfl
  obtain ⟨a, b, us, rows, bars, rfl, ha, hu, hok, l1, hb, hbn, l2, q⟩ := h
  have hu1 := hu_of hr
  refine ⟨_, pss_cons (ps_set (i := 2) scFText.nd rfl (Or.inl rfl) (pe_lst pa_nil))
    (pss_cons (ps_for PassesOwn.never rfl (pi_list (pv 0)) (pg_name (i := 3) scFText.nd rfl (Or.inl rfl))
      (pss_cons (ps_set (i := 4) scFText.nd rfl (Or.inl rfl) (pe_op op_add_str (pe_ix ix_tup (pv 3) pe_int (fun _ _ => rfl)) (pe_dget hu1 (pe_disp (pps_cons pe_str pe_str (pps_cons pe_str pe_str (pps_cons pe_str pe_str (pps_cons pe_str pe_str (pps_cons pe_str pe_str pps_nil))))) rfl rfl (by simp) (by decide)) (pe_ix ix_tup (pv 3) pe_int (fun _ _ => rfl)) (fun _ _ => rfl))))
      (pss_cons (ps_if (PW.pt (pw_and (pt_cmpR op_eq (cB call_len_seq hlen PySem.boot_len (ac (pv 3) pa_nil)) pe_int (nomark _)) (pw_and1 (pt_val (pe_ix ix_tup (pv 3) pe_int (fun _ _ => rfl)))))) (pss_one (ps_set (i := 4) scFText.nd rfl (Or.inl rfl) (pe_op op_add_str (pv 4) pe_str))) pss_nil)
      (pss_one (ps_expr (pe_bm PySem.F.plainAttrs_list PySem.F.slot_list_append PySem.F.type_list_append mt_append (pv 2) (ac (pv 4) pa_nil)))))))
    (pss_one (ps_ret (pe_bm PySem.F.plainAttrs_str PySem.F.slot_str_join PySem.F.type_str_join mt_join pe_str (ac (pe_op op_cat (pv 2)
      (pe_lc [] ["_law_name"] [none] rfl ⟨rfl, rfl, rfl, rfl⟩ (pi_list (pv 1)) (gown_name 0) rfl rfl rfl
        (fun pins fp s H C => ⟨pg_name (i := 0) ndLNm rfl (Or.inl rfl) (.inr rfl), pif_nil, pe_op op_add_str pe_str (pv 0)⟩))) pa_nil))))), ?_⟩
  refine ⟨(by show 0 ≤ sizeLine; decide), fun l hl => ?_⟩
  have s0 := same_new hl (.lst [])
  have lu : us.length = rows.length := hu.length
  refine ⟨_, rfl, a, rfl, ⟨_, SqL.of (s0 _ _ ha)⟩, for_list (K := K) (a := a) (xs := us.map V.ref) (fun i σ H2 => ∃ v3 v4, σ = [some (.ref a), some (.ref b), some (.ref l), v3, v4] ∧ Same H H2 ∧ H2 l = some (.lst (((rows.take i).map parT).map V.str)))
    ⟨_, _, rfl, s0, upd_same⟩ (fun i σ H2 _ ⟨_, _, _, s2, _⟩ => SqL.of (s2 _ _ ha)) ?_ ?_⟩
  · rintro i y σ H2 hi ⟨v3, v4, rfl, s2, g⟩
    obtain ⟨u, hu', rfl⟩ := refs_at hi
    obtain ⟨r, hr', tr⟩ := paired_at hu hu'
    have rok := hok r (List.mem_of_getElem? hr')
    have hil : i < rows.length := (List.getElem?_eq_some_iff.mp hr').1
    have wl := wr_len rok
    have el := end_len r.k
    have zl := (nameB_iff.mp rok.2).2.1
    have tr2 := s2 _ _ tr
    refine ⟨_, rfl, u, _, _, .str r.z, rfl, rfl, SqT.of tr2, rv1 rok.1, ?_⟩
    intro d hd
    refine ⟨upd_same, endL, rfl, (by show 5 ≤ 15; decide), ?_⟩
    have t1 : Same H2 (upd (upd H2 d (.dK [])) d (.dK (mergeK [] endL))) := by rw [upd_upd]; exact same_new hd _
    have e1' : upd (upd H2 d (.dK [])) d (.dK (mergeK [] endL)) d = some (.dK (mergeK [] endL)) := upd_same
    generalize upd (upd H2 d (.dK [])) d (.dK (mergeK [] endL)) = H3 at t1 e1' ⊢
    refine ⟨_, rfl, u, _, 0, .str (kw r.k), rfl, rfl, SqT.of (t1 _ _ tr2), rv0 rok.1, d, .str (endS r.k), rfl, .inl ⟨_, .inr (kw r.k), .inl e1', rfl, endL_kw r.k rok.1⟩, _, _, rfl, rfl, by rw [sizeLine_eq]; omega, ?_⟩
    dsimp only [gName]
    have tr3 := t1 _ _ tr2
    have g3 := t1 _ _ g
    refine ⟨_, rfl, u, rv r, rfl, .inr (SqT.of tr3), rfl, _, rfl, ?_⟩
    have dl : decide (V.int ((rv r).length : Nat) = V.int 3) = tk r.k := by
      have := rv_len rok.1
      cases e : tk r.k
      · rw [e, if_neg (by decide)] at this
        exact decide_eq_false fun z => by injection z with z; omega
      · rw [e, if_pos rfl] at this
        exact decide_eq_true (by rw [this])
    have fin : ∀ z' : Str, z' = parT r → Same H (upd H3 l (.lst (((rows.take i).map parT).map V.str ++ [V.str z']))) ∧ upd H3 l (.lst (((rows.take i).map parT).map V.str ++ [V.str z'])) l = some (.lst (((rows.take (i + 1)).map parT).map V.str)) := fun z' e => by
      refine ⟨same_upd (s2.trans t1) hl _, ?_⟩
      rw [upd_same, take_snocL hr', List.map_append, List.map_append, e]
      rfl
    have ll : (((rows.take i).map parT).map V.str).length < sizeLine := by simp only [List.length_map, List.length_take]; rw [sizeLine_eq]; omega
    have ep : parT r = if (tk r.k && r.b) = true then wrS r ++ "?" else wrS r := rfl
    dsimp only
    cases e : tk r.k
    · rw [e] at dl ep
      refine iteC dl ?_
      refine iteF ?_
      have := fin _ ep.symm
      refine ⟨_, rfl, .inl ⟨rfl, _, SqL.of g3⟩, _, rfl, l, _, _, rfl, rfl, g3, ll, _, _, rfl, this⟩
    · rw [e] at dl ep
      refine iteB dl ?_
      refine ⟨_, rfl, u, _, _, .bl r.b, rfl, rfl, SqT.of tr3, rv2 rok.1 e, _, rfl, ?_⟩
      cases e2 : r.b
      · rw [e2] at ep
        refine iteF ?_
        have := fin _ ep.symm
        refine ⟨_, rfl, .inl ⟨rfl, _, SqL.of g3⟩, _, rfl, l, _, _, rfl, rfl, g3, ll, _, _, rfl, this⟩
      · rw [e2] at ep
        refine iteT ?_
        have := fin _ ep.symm
        refine ⟨_, rfl, _, _, rfl, rfl, by have : (r.z ++ endS r.k).length ≤ 10 := wl.2; rw [show ("?" : Str).length = 1 from rfl, sizeLine_eq]; omega, ?_⟩
        refine ⟨_, rfl, .inl ⟨rfl, _, SqL.of g3⟩, _, rfl, l, _, _, rfl, rfl, g3, ll, _, _, rfl, this⟩
  · rintro σ H2 ⟨v3, v4, rfl, s2, g⟩
    rw [List.length_map, lu, List.take_length] at g
    have l1' : ((rows.map parT).map V.str).length ≤ 500 := by simp only [List.length_map]; omega
    refine ⟨rfl, _, rfl, _, rfl, b, rfl, ⟨_, SqL.of (s2 _ _ hb)⟩, fun D2 hD' => ?_⟩
    refine lc_strs bars (fun x z => x = V.str z) (fun z => .str (barT z)) hD' (by omega) (SqL.of (s2 _ _ hb)) (bars_paired bars) ?_ ?_
    · rintro x z H' C S sH rfl hm hC
      have := (nameB_iff.mp (hbn z hm)).2.1
      exact ⟨fun _ => ⟨_, rfl, _, _, rfl, rfl, by rw [show ("-" : Str).length = 1 from rfl, sizeLine_eq]; omega, hC H' (Same.refl _)⟩, fun z => absurd z (by decide)⟩
    intro H4 s4 hD4
    refine ⟨l, D2, _, _, rfl, rfl, s4 _ _ g, hD4, by simp only [List.length_map]; rw [sizeLine_eq]; omega, fun r hrn => ?_⟩
    refine ⟨", ", r, rows.map parT ++ bars.map barT, rfl, rfl, ?_, by decide, form_sum hok hbn l1 l2, q _ ((s2.trans s4).trans (same_new hrn _))⟩
    rw [upd_same, List.map_append, List.map_map, List.map_map]
    rfl
end
end K91

set_option Elab.async false
set_option linter.all false
set_option maxRecDepth 100000
set_option maxHeartbeats 4000000
namespace K91
open PySem L2 PyProof.Rows
/-! ### first and last signs, slices -/
theorem starts_one {z y : Str} {c : Nat} (hy : sg y = [c]) : Txt.startswith z y = decide ((sg z).head? = some c) := by
  have l1 : y.length = 1 := by rw [sg_len, hy]; rfl
  unfold Txt.startswith
  rw [PySem.StrLaws.subAt_eq, l1, sg_len, show z.cps.toList = sg z from rfl, show y.cps.toList = [c] from hy]
  cases e : sg z with
  | nil => rfl
  | cons d r =>
    rw [List.drop_zero, List.head?_cons]
    show (decide (0 + 1 ≤ (d :: r).length) && [d] == [c]) = _
    rw [decide_eq_true (by simp), Bool.true_and]
    by_cases h : d = c
    · subst h; simp
    · rw [decide_eq_false (by simpa using h)]
      simpa using h
theorem ends_one {z y : Str} {c d : Nat} {r : List Nat} (hy : sg y = [c]) (hz : sg z = r ++ [d]) : Txt.endswith z y = decide (d = c) := by
  have l1 : y.length = 1 := by rw [sg_len, hy]; rfl
  unfold Txt.endswith
  rw [PySem.StrLaws.subAt_eq, l1, sg_len, hz, show z.cps.toList = sg z from rfl, hz, show y.cps.toList = [c] from hy]
  rw [show (r ++ [d]).length - 1 = r.length by simp, List.drop_left]
  show (decide (0 + 1 ≤ (r ++ [d]).length) && [d] == [c]) = _
  rw [decide_eq_true (by simp), Bool.true_and]
  by_cases h : d = c
  · subst h; simp
  · rw [decide_eq_false h]
    simpa using h
theorem slice_last (z : Str) (l : Option Int) (h : 1 ≤ z.length) : Txt.slice z l (some (-1)) = Txt.slice z l (some ((z.length : Int) - 1)) := by
  have e : PySem.Builtin.Str.strSliceIndices l (some (-1)) 1 z.length = PySem.Builtin.Str.strSliceIndices l (some ((z.length : Int) - 1)) 1 z.length := by
    unfold PySem.Builtin.Str.strSliceIndices
    dsimp only
    rw [if_pos (show (-1 : Int) < 0 by decide), if_neg (show ¬ ((z.length : Int) - 1 < 0) by omega), show (-1 : Int) + (z.length : Int) = (z.length : Int) - 1 by omega]
  unfold Txt.slice
  rw [e]
theorem slice_in {z : Str} {a b : Nat} {r : List Nat} (hz : sg z = a :: (r ++ [b])) : sg (Txt.slice z (some 1) (some (-1))) = r := by
  have hl : z.length = r.length + 2 := by rw [sg_len, hz]; simp
  rw [slice_last z _ (by omega)]
  have := eq_of_beq (slice_closes (x := z) (i := 1) (j := (z.length : Int) - 1) ⟨by decide, by omega, by rw [show z.cps.toList = sg z from rfl, ← sg_len]; omega⟩)
  rw [this]
  show ((z.cps.toList.drop (1 : Int).toNat).take ((z.length : Int) - 1 - 1).toNat) = r
  rw [show z.cps.toList = sg z from rfl, hz, show ((z.length : Int) - 1 - 1).toNat = r.length by omega]
  show (r ++ [b]).take r.length = r
  rw [List.take_left]
theorem slice_to {z : Str} {b : Nat} {r : List Nat} (hz : sg z = r ++ [b]) : sg (Txt.slice z none (some (-1))) = r := by
  have hl : z.length = r.length + 1 := by rw [sg_len, hz]; simp
  rw [slice_last z _ (by omega)]
  have := eq_of_beq (slice_closes_to (x := z) (j := (z.length : Int) - 1) ⟨by omega, by rw [show z.cps.toList = sg z from rfl, ← sg_len]; omega⟩)
  rw [this]
  show ((z.cps.toList.drop (0 : Int).toNat).take ((z.length : Int) - 1 - 0).toNat) = r
  rw [show z.cps.toList = sg z from rfl, hz, show ((z.length : Int) - 1 - 0).toNat = r.length by omega]
  show (r ++ [b]).take r.length = r
  rw [List.take_left]
theorem slice_from {z : Str} {r s : List Nat} (hz : sg z = r ++ s) : sg (Txt.slice z (some (r.length : Nat)) none) = s := by
  have hl : z.length = r.length + s.length := by rw [sg_len, hz]; simp
  rw [slice_from_eq (x := z) (i := (r.length : Nat)) (b := z.length) (by omega) (by omega) rfl]
  show ((z.cps.toList.drop ((r.length : Nat) : Int).toNat).take ((z.length : Int) - (r.length : Nat)).toNat) = s
  rw [show z.cps.toList = sg z from rfl, hz, show ((z.length : Int) - (r.length : Nat)).toNat = s.length by omega]
  show ((r ++ s).drop r.length).take s.length = s
  rw [List.drop_left, List.take_length]
def figs : Str := "0123456789"
theorem figs_in {c : Nat} (h : 48 ≤ c ∧ c ≤ 57) : (!(PySem.Builtin.Str.occurrences figs ⟨#[c]⟩ 0 figs.length 1).isEmpty) = true := by
  have : ∀ k : Nat, k < 10 → (!(PySem.Builtin.Str.occurrences figs ⟨#[48 + k]⟩ 0 figs.length 1).isEmpty) = true := by decide +kernel
  have := this (c - 48) (by omega)
  rwa [show 48 + (c - 48) = c by omega] at this
/-- all of a list of tests over the signs of a text -/
theorem lc_signs {caps : List (Option Nat)} {g : TG} {tt : TT} {te : TE} {σ : L2.St} {H1 : Hp} {Q : VK} {D : Addr} (z : Str) (hz : z.length ≤ 1000) (hD : H1 D = none)
    (hs : ∀ c H' (C : VK) (S : Hp → Prop), c ∈ sg z → C (.bl true) H' → g (.str ⟨#[c]⟩) (capS caps σ) H' fun σ2 H2 => tt σ2 H2 fun ok H3 => (ok = true → te σ2 H3 C) ∧ (ok = false → S H3))
    (hd : ∀ H', Same H1 H' → H' D = some (.lst ((sg z).map fun _ => V.bl true)) → Q (.ref D) H') : LCr (Its z) caps g tt te σ H1 Q D := by
  refine ⟨fun i m ys H' => i ≤ z.cps.size ∧ m = z.cps.size - i ∧ ys = ((sg z).take i).map (fun _ => V.bl true) ∧ H' = upd H1 D (.lst ys), ⟨_, Nat.zero_le _, rfl, rfl, rfl⟩, ?_⟩
  rintro i m ys H' ⟨hi, rfl, rfl, rfl⟩
  by_cases he : i = z.cps.size
  · subst he
    refine .inl ⟨Nat.le_refl _, ?_⟩
    refine hd _ (same_new hD _) ?_
    rw [upd_same, List.take_of_length_le (by simp [sg])]
  · refine .inr ⟨by show i < z.cps.size; omega, ?_⟩
    rintro x H' ⟨rfl, c, hc, rfl⟩
    have hc' : (sg z)[i]? = some c := by simpa [sg] using hc
    refine hs c _ _ _ (List.mem_of_getElem? hc') ?_
    refine ⟨upd_same, ?_, z.cps.size - (i + 1), by omega, by omega, rfl, ?_, ?_⟩
    · rw [List.length_map, List.length_take]
      have : z.cps.size ≤ 1000 := hz
      exact small1000 (by omega)
    · rw [List.take_add_one, hc', List.map_append]
      rfl
    · rw [upd_upd]
theorem at0 (d : Nat) (r : List Nat) : atI (d :: r) 0 = some d := atI_nat (j := 0) rfl
def spRdN : Sp := fun vs H Q _ => ∃ t : Int, vs = [.str (numT t)] ∧ thOk t ∧ ∀ H', Same H H' → Q (.int t) H'
structure TxtN (mg : Str → Option Value) : Prop where
  len : mg "len" = none
  all : mg "all" = none
  int : mg "int" = none
  mf : ∃ t, mg "MOST_FIGURES" = some (.int 60 t)
  fg : ∃ t, mg "FIGURES" = some (.str figs t)
section
variable {P : Program} {w : World} {K : PySem.W.Frag} {mg : Str → Option Value} {base : Heap} {f : Addr} {fd : FuncData}
theorem scRdN : FnScope ["text", "figures"] ["text"] (defScope sRdN) := ⟨rfl, rfl, rfl, by decide +kernel, rfl, by decide +kernel, by decide +kernel⟩
theorem ok_rdN (F : Fun K "read_number" "read_number" sRdN f fd) (T : TxtN mg) : FnOk P w K mg base CX0 1 f fd ["text"] spRdN := by
  refine F.ok scRdN (fun vs H Q E h => ?_) (fun cdv A outer s H vs Q E hr h => ?_)
  · obtain ⟨t, rfl, _⟩ := h
    rfl
  obtain ⟨t, rfl, ht, q⟩ := h
  obtain ⟨t1, mf⟩ := T.mf
  obtain ⟨t2, fg⟩ := T.fg
  have N := num_is t ht
  generalize (Nat.toDigits 10 t.natAbs).map Char.toNat = ds at N
  have nl := num_len ht
  refine ⟨_, pss_cons (ps_set (i := 1) scRdN.nd rfl (Or.inl rfl) (pe_ifExp (pt_val (pe_bm PySem.F.plainAttrs_str PySem.F.slot_str_startswith PySem.F.type_str_startswith mt_starts (pv 0) (ac pe_str pa_nil))) (pe_slice sl_str (pv 0) (po_some pe_int) po_none) (pv 0)))
    (pss_cons (ps_if (PW.pt (pw_or (pt_not (pt_chain op_le op_le pe_int (cB call_len_str T.len PySem.boot_len (ac (pv 1) pa_nil)) (pe_glob (v := .int 60) rfl mf ⟨_, rfl⟩)))
        (pw_or1 (pt_not (pt_val (cB (call_allB rfl) T.all boot_all (ac (pe_lc [] ["sign"] [none] rfl ⟨rfl, rfl, rfl, rfl⟩ (pi_str (pv 1)) (gown_name 0) rfl rfl rfl
      (fun pins fp s H C => ⟨pg_name (i := 0) nd1 rfl (Or.inl rfl) (.inr rfl), pif_nil, pe_cmpR op_in_str (pv 0) (pe_glob (v := .str figs) rfl fg ⟨_, rfl⟩) (by with_unfolding_all rfl)⟩)) pa_nil))))))) (pss_one ps_dead) pss_nil)
    (pss_cons (ps_if (PW.pt (pw_and (pt_cmpR op_eq (pe_ix ix_str (pv 1) pe_int (fun _ _ => rfl)) pe_str (nomark _)) (pw_and1 (pt_cmpR op_ne (pv 0) pe_str (nomark _))))) (pss_one ps_dead) pss_nil)
    (pss_one (ps_ret (cTy call_intT T.int PyProof.Rows.boot_int (ac (pv 0) pa_nil)))))), ?_⟩
  have hs := starts_one (z := numT t) (y := "-") (c := 45) rfl
  have l1 := N.l1
  have l60 := N.l60
  refine seq_via (fun σ' H' => ∃ fz : Str, σ' = [some (.str (numT t)), some (.str fz)] ∧ sg fz = ds ∧ H' = H) ?_ ?_
  · rintro σ' H' ⟨fz, rfl, ef, rfl⟩
    have lf : fz.length = ds.length := by rw [sg_len, ef]
    refine ⟨_, rfl, fz, rfl, by rw [sizeLine_eq]; omega, _, _, rfl, rfl, _, rfl, ?_⟩
    refine dT (show (1 : Int) ≤ (fz.length : Int) by omega) ?_
    refine ⟨_, _, rfl, rfl, _, rfl, ?_⟩
    rw [decide_eq_true (show (fz.length : Int) ≤ 60 by omega)]
    refine iteF ?_
    refine ⟨_, rfl, fz, rfl, fun D hD => ?_⟩
    refine lc_signs fz (by omega) hD ?_ ?_
    · intro c H' C S hc hC
      refine ⟨fun _ => ⟨_, rfl, _, _, rfl, rfl, ?_⟩, fun e => Bool.noConfusion e⟩
      rw [figs_in (N.dig c (ef ▸ hc))]
      exact hC
    intro H2 s2 hD2
    refine ⟨D, (sg fz).map fun _ => true, rfl, SqL.of (by rw [hD2, List.map_map]; rfl), _, rfl, ?_⟩
    rw [show ((sg fz).map fun _ => true).all id = true by simp]
    refine iteF ?_
    obtain ⟨d, r, ed⟩ : ∃ d r, ds = d :: r := by
      cases ds with
      | nil => exact absurd l1 (by decide)
      | cons d r => exact ⟨d, r, rfl⟩
    refine ⟨_, rfl, fz, 0, d, rfl, rfl, by rw [sizeLine_eq]; omega, by rw [show fz.cps.toList = sg fz from rfl, ef, ed]; exact at0 d r, rfl, _, rfl, ?_⟩
    have fin : t = 0 → numT t = "0" := fun e => by rw [e]; decide +kernel
    have last : ∀ H3, H3 = H2 → Q (.int t) H3 := fun H3 e => e ▸ q H2 s2
    by_cases hd : d = 48
    · have t0 := N.hd (by rw [ed, hd]; rfl)
      refine dT (by rw [hd]; rfl) ?_
      refine ⟨_, rfl, rfl, _, rfl, ?_⟩
      rw [show decide (V.str (numT t) = V.str (Str.ofString "0")) = true from decide_eq_true (by rw [fin t0])]
      refine iteF ?_
      exact ⟨_, rfl, numT t, t, rfl, N.read, by omega, q H2 s2⟩
    · refine dF (fun z => hd ?_) ?_
      · injection z with z
        have := congrArg sg z
        have : [d] = [48] := this
        injection this
      exact ⟨_, rfl, numT t, t, rfl, N.read, by omega, q H2 s2⟩
  · intro key
    refine ⟨_, rfl, rfl, numT t, "-", rfl, rfl, _, rfl, ?_⟩
    rcases N.txt with ⟨h0, e⟩ | ⟨h0, e⟩
    · have : Txt.startswith (numT t) "-" = false := by
        rw [hs, e]
        refine decide_eq_false fun z => ?_
        have := N.dig 45 (List.mem_of_mem_head? z)
        omega
      refine iteC this ?_
      exact ⟨_, rfl, key _ _ ⟨numT t, rfl, e, rfl⟩⟩
    · have : Txt.startswith (numT t) "-" = true := by
        rw [hs, e]; rfl
      refine iteB this ?_
      refine ⟨_, rfl, _, rfl, numT t, rfl, by rw [sizeLine_eq]; omega, key _ _ ⟨_, rfl, ?_, rfl⟩⟩
      exact slice_from (r := [45]) e
end
end K91

set_option Elab.async false
set_option linter.all false
set_option maxRecDepth 100000
set_option maxHeartbeats 4000000
namespace K91
open PySem L2 PyProof.Rows
theorem num_sg {t : Int} (h : thOk t) : ∀ c ∈ sg (numT t), c = 45 ∨ (48 ≤ c ∧ c ≤ 57) := by
  have N := num_is t h
  intro c hc
  rcases N.txt with ⟨_, e⟩ | ⟨_, e⟩
  · rw [e] at hc; exact .inr (N.dig c hc)
  · rw [e] at hc
    rcases List.mem_cons.mp hc with rfl | hc
    · exact .inl rfl
    · exact .inr (N.dig c hc)
theorem nm_sg {z : Str} (h : nameB z = true) : ∀ c ∈ sg z, 97 ≤ c ∧ c ≤ 122 := (nameB_iff.mp h).2.2
theorem pair_sg {p : Str × Int} (h : prOk p) : ∀ c ∈ sg (pairT p), c = 45 ∨ (48 ≤ c ∧ c ≤ 57) ∨ c = 61 ∨ (97 ≤ c ∧ c ≤ 122) := by
  intro c hc
  unfold pairT at hc
  rw [sg_app, sg_app] at hc
  rcases List.mem_append.mp hc with hc | hc
  · rcases List.mem_append.mp hc with hc | hc
    · exact .inr (.inr (.inr (nm_sg h.1 c hc)))
    · have : c ∈ [61] := hc
      simp at this
      exact .inr (.inr (.inl this))
  · rcases num_sg h.2 c hc with h | h
    · exact .inl h
    · exact .inr (.inl h)
def spRdPr : Sp := fun vs H Q _ => ∃ p : Str × Int, vs = [.str (pairT p)] ∧ prOk p ∧ ∀ (r : Addr) (H' : Hp), Same H H' → H r = none → H' r = some (.tup [.str p.1, .int p.2]) → Q (.ref r) H'
def spWW : Sp := fun vs H Q _ => ∃ (z : Str) (a b : Nat) (ws : List Str), vs = [.str z] ∧ sg z = a :: (sg (Txt.join " " ws) ++ [b]) ∧ (∀ w ∈ ws, 1 ≤ w.length ∧ 32 ∉ sg w) ∧ z.length ≤ 100000 ∧ ws.length ≤ 1000 ∧ ∀ (l : Addr) (H' : Hp), Same H H' → H l = none → H' l = some (.lst (ws.map V.str)) → Q (.ref l) H'
def spPcs : Sp := fun vs H Q _ => ∃ (ws : List Str), vs = [.str (Txt.join ", " ws)] ∧ (∀ w ∈ ws, 1 ≤ w.length ∧ 44 ∉ sg w) ∧ (Txt.join ", " ws).length ≤ 1000000 ∧ ws.length ≤ 1000 ∧ ∀ (l : Addr) (H' : Hp), Same H H' → H l = none → H' l = some (.lst (ws.map V.str)) → Q (.ref l) H'
theorem join_ne {sep : Str} {ws : List Str} (h : ∀ w ∈ ws, 1 ≤ w.length) (h0 : ws ≠ []) : 1 ≤ (Txt.join sep ws).length := by
  rw [sg_len, sg_join]
  cases ws with
  | nil => exact absurd rfl h0
  | cons a r =>
    have := h a List.mem_cons_self
    rw [sg_len] at this
    cases r with
    | nil => exact this
    | cons b r => simp only [List.map_cons, jL, List.length_append]; omega
section
variable {P : Program} {w : World} {K : PySem.W.Frag} {mg : Str → Option Value} {base : Heap} {f : Addr} {fd : FuncData}
theorem scRdPr : FnScope ["text", "name", "sign", "number"] ["text"] (defScope sRdPr) := ⟨rfl, rfl, rfl, by decide +kernel, rfl, by decide +kernel, by decide +kernel⟩
theorem ok_rdPr {f1 f2 : Addr} {e1 e2 : FuncData} (F : Fun K "read_pair" "read_pair" sRdPr f fd) (c1 : Callee P w K mg base 1 "is_name" f1 e1 ["thing"] (spIs K)) (c2 : Callee P w K mg base 1 "read_number" f2 e2 ["text"] spRdN) : FnOk P w K mg base CX0 2 f fd ["text"] spRdPr := by
  refine F.ok scRdPr (fun vs H Q E h => ?_) (fun cdv A outer s H vs Q E hr h => ?_)
  · obtain ⟨p, rfl, _⟩ := h
    rfl
  obtain ⟨p, rfl, hp, q⟩ := h
  have hr1 : Room 1 _ := hr.mono (by decide)
  have pl := pair_len hp
  refine ⟨_, pss_cons (ps_asg (pe_bm PySem.F.plainAttrs_str PySem.F.slot_str_partition PySem.F.type_str_partition mt_part (pv 0) (ac pe_str pa_nil)) (pg_tup rfl (pgs_cons (pg_name (i := 1) scRdPr.nd rfl (Or.inl rfl)) (pgs_cons (pg_name (i := 2) scRdPr.nd rfl (Or.inl rfl)) (pgs_cons (pg_name (i := 3) scRdPr.nd rfl (Or.inl rfl)) pgs_nil)))))
    (pss_cons (ps_if (pt_not (pt_val (cF c1 hr1 (ac (pv 1) pa_nil)))) (pss_one ps_dead) pss_nil)
    (pss_one (ps_ret (pe_tup (ac (pv 1) (ac (cF c2 hr1 (ac (pv 3) pa_nil)) pa_nil)))))), ?_⟩
  have ep : Txt.partition (pairT p) "=" = (p.1, ("=" : Str), numT p.2) := part_of (c0 := 61) rfl (fun h => by have := nm_sg hp.1 _ h; omega) (fun h => by have := num_sg hp.2 _ h; omega)
  refine ⟨_, rfl, rfl, pairT p, "=", rfl, rfl, rfl, by rw [sizeLine_eq]; omega, fun r hrn => ?_⟩
  rw [ep]
  have s1 := same_new hrn (.tup [.str p.1, .str "=", .str (numT p.2)])
  refine ⟨r, _, rfl, SqT.of upd_same, rfl, _, _, rfl, _, _, rfl, _, _, rfl, rfl, ?_⟩
  refine ⟨_, rfl, _, rfl, .inl ⟨p.1, rfl, nameB_ok hp.1⟩, fun H2 s2 => ⟨_, rfl, ?_⟩⟩
  rw [show nmV (.str p.1) = true from hp.1]
  refine iteF ?_
  refine ⟨_, rfl, _, rfl, p.2, rfl, hp.2, fun H3 s3 => ?_⟩
  refine ⟨(by show 2 ≤ sizeLine; decide), fun r2 hr2 => ?_⟩
  have s03 := s1.trans (s2.trans s3)
  exact q r2 _ (s03.trans (same_new hr2 _)) (s03.free hr2) upd_same
theorem scWW : FnScope ["text", "inner"] ["text"] (defScope sWW) := ⟨rfl, rfl, rfl, by decide +kernel, rfl, by decide +kernel, by decide +kernel⟩
theorem ok_ww (F : Fun K "words_within" "words_within" sWW f fd) : FnOk P w K mg base CX0 1 f fd ["text"] spWW := by
  refine F.ok scWW (fun vs H Q E h => ?_) (fun cdv A outer s H vs Q E hr h => ?_)
  · obtain ⟨z, a, b, ws, rfl, _⟩ := h
    rfl
  obtain ⟨z, a, b, ws, rfl, ez, hw, lz, lw, q⟩ := h
  refine ⟨_, pss_cons (ps_set (i := 1) scWW.nd rfl (Or.inl rfl) (pe_slice sl_str (pv 0) (po_some pe_int) (po_some (pe_un un_neg pe_int))))
    (pss_one (ps_ret (pe_ifExp (pt_truth (pv 1) (fun _ => rfl)) (pe_bm PySem.F.plainAttrs_str PySem.F.slot_str_split PySem.F.type_str_split mt_split (pv 1) (ac pe_str pa_nil)) (pe_lst pa_nil)))), ?_⟩
  have ei : Txt.slice z (some 1) (some (-1)) = Txt.join " " ws := sg_ext (slice_in ez)
  have li : (Txt.join " " ws).length ≤ z.length := by rw [sg_len z, ez, sg_len]; simp; omega
  refine ⟨_, rfl, _, rfl, _, rfl, _, rfl, z, rfl, by rw [sizeLine_eq]; omega, ?_⟩
  dsimp only [gName]
  rw [show Txt.slice z (some 1) (some (-1)) = Txt.join " " ws from ei]
  refine ⟨_, rfl, _, ⟨by rw [sizeLine_eq]; omega, rfl⟩, ?_⟩
  cases ws with
  | nil =>
    refine iteF ?_
    exact ⟨(by show 0 ≤ sizeLine; decide), fun l hl => q l _ (same_new hl _) hl upd_same⟩
  | cons w0 ws =>
    have hn := join_ne (sep := " ") (fun x hx => (hw x hx).1) (List.cons_ne_nil w0 ws)
    obtain ⟨e1, e2⟩ := split_join (s := Txt.join " " (w0 :: ws)) (sub := " ") (c0 := 32) (rest := []) rfl (by simp) rfl (fun x hx => (hw x hx).2) (List.cons_ne_nil _ _)
    refine iteB (by simp; omega) ?_
    refine ⟨_, rfl, rfl, Txt.join " " (w0 :: ws), " ", rfl, rfl, rfl, by rw [sizeLine_eq]; omega, by rw [e1, sizeLine_eq]; omega, fun l hl => ?_⟩
    rw [e2]
    exact q l _ (same_new hl _) hl upd_same
theorem scPcs : FnScope ["text"] ["text"] (defScope sPcs) := ⟨rfl, rfl, rfl, by decide +kernel, rfl, by decide +kernel, by decide +kernel⟩
theorem ok_pcs (F : Fun K "pieces" "pieces" sPcs f fd) (T : Txt1 K mg) : FnOk P w K mg base CX0 1 f fd ["text"] spPcs := by
  refine F.ok scPcs (fun vs H Q E h => ?_) (fun cdv A outer s H vs Q E hr h => ?_)
  · obtain ⟨ws, rfl, _⟩ := h
    rfl
  obtain ⟨ws, rfl, hw, lz, lw, q⟩ := h
  refine ⟨_, pss_cons (ps_if (pt_not (pt_val (cB call_isinst T.isi boot_isinstance (ac (pv 0) (ac (pe_bltn (v := .ty "str") rfl T.str PyProof.Rows.boot_str rfl) pa_nil))))) (pss_one ps_dead) pss_nil)
    (pss_one (ps_ret (pe_ifExp (pt_truth (pv 0) (fun _ => rfl)) (pe_bm PySem.F.plainAttrs_str PySem.F.slot_str_split PySem.F.type_str_split mt_split (pv 0) (ac pe_str pa_nil)) (pe_lst pa_nil)))), ?_⟩
  refine ⟨_, rfl, _, _, _, _, rfl, .str _, T.kStr, _, rfl, ?_⟩
  refine iteF ?_
  refine ⟨_, rfl, _, ⟨by rw [sizeLine_eq]; omega, rfl⟩, ?_⟩
  cases ws with
  | nil =>
    refine iteF ?_
    exact ⟨(by show 0 ≤ sizeLine; decide), fun l hl => q l _ (same_new hl _) hl upd_same⟩
  | cons w0 ws =>
    have hn := join_ne (sep := ", ") (fun x hx => (hw x hx).1) (List.cons_ne_nil w0 ws)
    obtain ⟨e1, e2⟩ := split_join (s := Txt.join ", " (w0 :: ws)) (sub := ", ") (c0 := 44) (rest := [32]) rfl (by simp) rfl (fun x hx => (hw x hx).2) (List.cons_ne_nil _ _)
    refine iteB (by simp; omega) ?_
    refine ⟨_, rfl, rfl, Txt.join ", " (w0 :: ws), ", ", rfl, rfl, rfl, by rw [sizeLine_eq]; omega, by rw [e1, sizeLine_eq]; omega, fun l hl => ?_⟩
    rw [e2]
    exact q l _ (same_new hl _) hl upd_same
end
end K91

set_option Elab.async false
set_option linter.all false
set_option maxRecDepth 100000
set_option maxHeartbeats 4000000
namespace K91
open PySem L2 PyProof.Rows
theorem lc_objs {α : Type} {K : PySem.W.Frag} {a : Addr} {xs : List V} {caps : List (Option Nat)} {g : TG} {tt : TT} {te : TE} {σ : L2.St} {H1 : Hp} {Q : VK} {D : Addr} (ts : List α) (R : V → α → Prop) (Out : Hp → V → α → Prop)
    (st1 : ∀ {H H' v t}, Same H H' → Out H v t → Out H' v t) (st2 : ∀ {H v t ys ys'}, H D = some (.lst ys) → Out H v t → Out (upd H D (.lst ys')) v t) (hD : H1 D = none) (hn : ts.length ≤ 500)
    (hS : SqL K H1 a xs) (hp : Paired R xs ts)
    (hs : ∀ x t H' (C : VK) (S : Hp → Prop), Same H1 H' → R x t → t ∈ ts → H' D ≠ none → (∀ v H4, Same H' H4 → Out H4 v t → C v H4) → g x (capS caps σ) H' fun σ2 H2 => tt σ2 H2 fun ok H3 => (ok = true → te σ2 H3 C) ∧ (ok = false → S H3))
    (hd : ∀ vs H', Same H1 H' → H' D = some (.lst vs) → Paired (Out H') vs ts → Q (.ref D) H') : LCr (Itl K a) caps g tt te σ H1 Q D := by
  have lx : xs.length = ts.length := hp.length
  refine lc_list (K := K) (xs := xs) (fun i ys H' => Paired (Out H') ys (ts.take i) ∧ Same H1 H' ∧ H' D = some (.lst ys)) ⟨.nil, same_new hD _, upd_same⟩ (fun i ys H' ⟨_, sH, _⟩ => sH.seq hS) ?_ ?_
  · rintro i x ys H' hi hx ⟨hy, sH, hDy⟩
    obtain ⟨t, ht, r⟩ := Paired.get hp hx
    refine hs x t H' _ _ sH r (List.mem_of_getElem? ht) (by rw [hDy]; intro z; cases z) fun v H4 s4 ho => ?_
    refine lcN.mk hi (le1000 (by omega)) (s4 _ _ hDy) (by rw [hy.length, List.length_take]; omega) ⟨?_, same_upd (sH.trans s4) hD _, upd_same⟩
    rw [take_snocL ht]
    exact paired_app (Paired.imp' (fun _ _ z => st2 (s4 _ _ hDy) (st1 s4 z)) hy) (.cons (st2 (s4 _ _ hDy) ho) .nil)
  · rintro ys H' ⟨hy, sH, hDy⟩
    rw [lx, List.take_length] at hy
    exact hd ys H' sH hDy hy
/-- an item of new things -/
def NewI (K : PySem.W.Frag) (H0 H : Hp) (x : V) (it : Item) : Prop := Says K (fun b => H0 b = none) H 3 x (itemD it)
def spRdI (K : PySem.W.Frag) : Sp := fun vs H Q _ => ∃ it : Item, vs = [.str (itemT it)] ∧ itOk it ∧ ∀ (x : V) (H' : Hp), Same H H' → NewI K H H' x it → Q x H'
theorem row_sg (ts : List Int) : sg (itemT (.row ts)) = 91 :: (sg (Txt.join " " (ts.map numT)) ++ [93]) := by
  show sg ("[" ++ Txt.join " " (ts.map numT) ++ "]") = _
  rw [sg_app, sg_app]
  rfl
theorem book_sg (ts : List (Str × Int)) : sg (itemT (.book ts)) = 123 :: (sg (Txt.join " " (ts.map pairT)) ++ [125]) := by
  show sg ("{" ++ Txt.join " " (ts.map pairT) ++ "}") = _
  rw [sg_app, sg_app]
  rfl
theorem starts_no {z y : Str} {c : Nat} (hy : sg y = [c]) (h : c ∉ sg z) : Txt.startswith z y = false := by
  rw [starts_one hy]
  exact decide_eq_false fun e => h (List.mem_of_mem_head? e)
theorem eq_in (z : Str) : (!(PySem.Builtin.Str.occurrences z ("=" : Str) 0 z.length 1).isEmpty) = decide (61 ∈ sg z) := by
  have := empty_one z 61
  rw [show ("=" : Str) = ⟨#[61]⟩ from rfl, this, Bool.not_not]
theorem pairs_says {K : PySem.W.Frag} {ok : Addr → Prop} {H : Hp} {n : Nat} : ∀ {xs : List V} {ps : List (Str × Int)}, Paired (fun v (p : Str × Int) => ∃ b, v = .ref b ∧ H b = some (.tup [.str p.1, .int p.2])) xs ps → Paired (Says K ok H (n + 1)) xs (ps.map pairD)
  | _, _, .nil => .nil
  | _, _, .cons ⟨b, e, h⟩ t => .cons (by rw [e]; exact .tup (SqT.of h) (.cons .str (.cons .int .nil))) (pairs_says t)
theorem paired_map {α β γ : Type} {R : α → γ → Prop} {f : β → γ} : ∀ {xs : List α} {ys : List β}, Paired (fun x y => R x (f y)) xs ys → Paired R xs (ys.map f)
  | _, _, .nil => .nil
  | _, _, .cons a b => .cons a (paired_map b)
section
variable {P : Program} {w : World} {K : PySem.W.Frag} {mg : Str → Option Value} {base : Heap} {f : Addr} {fd : FuncData}
theorem scRdI : FnScope ["text", "name", "thing"] ["text"] (defScope sRdI) := ⟨rfl, rfl, rfl, by decide +kernel, rfl, by decide +kernel, by decide +kernel⟩
theorem ndWd : ([Str.ofString "word"] : List Str).Nodup := by decide +kernel
theorem ok_rdI {f1 f2 f3 : Addr} {e1 e2 e3 : FuncData} (F : Fun K "read_item" "read_item" sRdI f fd) (c1 : Callee P w K mg base 1 "words_within" f1 e1 ["text"] spWW) (c2 : Callee P w K mg base 1 "read_number" f2 e2 ["text"] spRdN) (c3 : Callee P w K mg base 2 "read_pair" f3 e3 ["text"] spRdPr) :
    FnOk P w K mg base CX0 3 f fd ["text"] (spRdI K) := by
  refine F.ok scRdI (fun vs H Q E h => ?_) (fun cdv A outer s H vs Q E hr h => ?_)
  · obtain ⟨it, rfl, _⟩ := h
    rfl
  obtain ⟨it, rfl, hi, q⟩ := h
  have hr1 : Room 1 _ := hr.mono (by decide)
  have hr2 : Room 2 _ := hr.mono (by decide)
  have il := item_len hi
  obtain ⟨h1, h2, h3, h4⟩ := hi
  refine ⟨_, pss_cons (ps_if (PW.pt (pw_and (pt_val (pe_bm PySem.F.plainAttrs_str PySem.F.slot_str_startswith PySem.F.type_str_startswith mt_starts (pv 0) (ac pe_str pa_nil))) (pw_and1 (pt_val (pe_bm PySem.F.plainAttrs_str PySem.F.slot_str_endswith PySem.F.type_str_endswith mt_ends (pv 0) (ac pe_str pa_nil))))))
      (pss_one (ps_ret (pe_tup (ac pe_str (ac (pe_lc [] ["word"] [none] rfl ⟨rfl, rfl, rfl, rfl⟩ (pi_list (cF c1 hr1 (ac (pv 0) pa_nil))) (gown_name 0) rfl rfl rfl
        (fun pins fp s H C => ⟨pg_name (i := 0) ndWd rfl (Or.inl rfl) (.inr rfl), pif_nil, cF c2 hr1 (ac (pv 0) pa_nil)⟩)) pa_nil))))) pss_nil)
    (pss_cons (ps_if (PW.pt (pw_and (pt_val (pe_bm PySem.F.plainAttrs_str PySem.F.slot_str_startswith PySem.F.type_str_startswith mt_starts (pv 0) (ac pe_str pa_nil))) (pw_and1 (pt_val (pe_bm PySem.F.plainAttrs_str PySem.F.slot_str_endswith PySem.F.type_str_endswith mt_ends (pv 0) (ac pe_str pa_nil))))))
      (pss_one (ps_ret (pe_tup (ac pe_str (ac (pe_lc [] ["word"] [none] rfl ⟨rfl, rfl, rfl, rfl⟩ (pi_list (cF c1 hr1 (ac (pv 0) pa_nil))) (gown_name 0) rfl rfl rfl
        (fun pins fp s H C => ⟨pg_name (i := 0) ndWd rfl (Or.inl rfl) (.inr rfl), pif_nil, cF c3 hr2 (ac (pv 0) pa_nil)⟩)) pa_nil))))) pss_nil)
    (pss_cons (ps_if (pt_cmpR op_in_str pe_str (pv 0) (by with_unfolding_all rfl)) (pss_cons (ps_asg (cF c3 hr2 (ac (pv 0) pa_nil)) (pg_tup rfl (pgs_cons (pg_name (i := 1) scRdI.nd rfl (Or.inl rfl)) (pgs_cons (pg_name (i := 2) scRdI.nd rfl (Or.inl rfl)) pgs_nil))))
      (pss_one (ps_ret (pe_tup (ac pe_str (ac (pv 1) (ac (pv 2) pa_nil))))))) pss_nil)
    (pss_one (ps_ret (pe_tup (ac pe_str (ac (cF c2 hr1 (ac (pv 0) pa_nil)) pa_nil))))))), ?_⟩
  cases it with
  | one t =>
    have ht := h1 t List.mem_cons_self
    have ns := num_sg ht
    refine ⟨_, rfl, rfl, numT t, _, rfl, rfl, _, rfl, ?_⟩
    refine iteC (starts_no (c := 91) rfl fun h => by have := ns _ h; omega) (iteF ?_)
    refine ⟨_, rfl, rfl, numT t, _, rfl, rfl, _, rfl, ?_⟩
    refine iteC (starts_no (c := 123) rfl fun h => by have := ns _ h; omega) (iteF ?_)
    refine ⟨_, rfl, _, _, rfl, rfl, _, rfl, ?_⟩
    refine iteC ((eq_in _).trans (decide_eq_false fun h => by have := ns _ h; omega)) ?_
    refine ⟨_, rfl, t, rfl, ht, fun H2 s2 => ⟨(by show 2 ≤ sizeLine; decide), fun r hrn => ?_⟩⟩
    exact q _ _ (s2.trans (same_new hrn _)) (.tup (SqT.of upd_same) (.cons .str (.cons .int .nil)))
  | named n t =>
    have hp := h2 (n, t) List.mem_cons_self
    have ns := pair_sg hp
    refine ⟨_, rfl, rfl, pairT (n, t), _, rfl, rfl, _, rfl, ?_⟩
    refine iteC (starts_no (c := 91) rfl fun h => by have := ns _ h; omega) (iteF ?_)
    refine ⟨_, rfl, rfl, pairT (n, t), _, rfl, rfl, _, rfl, ?_⟩
    refine iteC (starts_no (c := 123) rfl fun h => by have := ns _ h; omega) (iteF ?_)
    refine ⟨_, rfl, _, _, rfl, rfl, _, rfl, ?_⟩
    refine iteB ((eq_in _).trans (decide_eq_true (by show 61 ∈ sg (n ++ "=" ++ numT t); rw [sg_app, sg_app]; exact List.mem_append_left _ (List.mem_append_right _ (List.mem_cons_self ..))))) ?_
    refine ⟨_, rfl, (n, t), rfl, hp, fun r H2 s2 hrn hr2' => ?_⟩
    refine ⟨r, _, rfl, SqT.of hr2', rfl, _, _, rfl, _, _, rfl, rfl, ?_⟩
    refine ⟨_, rfl, _, rfl, (by show 3 ≤ sizeLine; decide), fun r2 hr2n => ?_⟩
    exact q _ _ (s2.trans (same_new hr2n _)) (.tup (SqT.of upd_same) (.cons .str (.cons .str (.cons .int .nil))))
  | row ts =>
    have es := row_sg ts
    refine ⟨_, rfl, rfl, itemT (.row ts), _, rfl, rfl, _, rfl, ?_⟩
    refine iteB (by rw [starts_one (c := 91) rfl, es]; rfl) ?_
    refine ⟨_, rfl, rfl, itemT (.row ts), _, rfl, rfl, _, rfl, ?_⟩
    refine iteB (by rw [ends_one (c := 93) (r := 91 :: sg (Txt.join " " (ts.map numT))) rfl es]; rfl) ?_
    refine ⟨_, rfl, itemT (.row ts), 91, 93, ts.map numT, rfl, es, ?_, by omega, by rw [List.length_map]; have : ts.length ≤ 30 := h3; omega, fun l H2 s2 hl0 hl => ?_⟩
    · intro w hw
      obtain ⟨t, ht, rfl⟩ := List.mem_map.mp hw
      exact ⟨(num_len (h1 t ht)).1, fun h => by have := num_sg (h1 t ht) _ h; omega⟩
    refine ⟨l, rfl, ⟨_, SqL.of hl⟩, fun D hD => ?_⟩
    refine lc_strs ts (fun x t => x = .str (numT t)) (fun t => .int t) hD (by have : ts.length ≤ 30 := h3; omega) (SqL.of hl) (by rw [List.map_map]; exact paired_self fun _ => rfl) ?_ ?_
    · rintro x t H' C S sH rfl hm hC
      exact ⟨fun _ => ⟨_, rfl, t, rfl, h1 t hm, hC⟩, fun z => absurd z (by decide)⟩
    intro H3 s3 hD3
    refine ⟨(by show 2 ≤ sizeLine; decide), fun r hrn => ?_⟩
    have s23 := s2.trans s3
    exact q _ _ (s23.trans (same_new hrn _)) (.tup (SqT.of upd_same) (.cons .str (.cons (.lst (s2.free hD) ((same_new hrn _) _ _ hD3) (ints_says _)) .nil)))
  | book ps =>
    have es := book_sg ps
    refine ⟨_, rfl, rfl, itemT (.book ps), _, rfl, rfl, _, rfl, ?_⟩
    refine iteC (by rw [starts_one (c := 91) rfl, es]; rfl) (iteF ?_)
    refine ⟨_, rfl, rfl, itemT (.book ps), _, rfl, rfl, _, rfl, ?_⟩
    refine iteB (by rw [starts_one (c := 123) rfl, es]; rfl) ?_
    refine ⟨_, rfl, rfl, itemT (.book ps), _, rfl, rfl, _, rfl, ?_⟩
    refine iteB (by rw [ends_one (c := 125) (r := 123 :: sg (Txt.join " " (ps.map pairT))) rfl es]; rfl) ?_
    refine ⟨_, rfl, itemT (.book ps), 123, 125, ps.map pairT, rfl, es, ?_, by omega, by rw [List.length_map]; have : ps.length ≤ 30 := h4; omega, fun l H2 s2 hl0 hl => ?_⟩
    · intro w hw
      obtain ⟨t, ht, rfl⟩ := List.mem_map.mp hw
      exact ⟨(pair_len (h2 t ht)).1, fun h => by have := pair_sg (h2 t ht) _ h; omega⟩
    refine ⟨l, rfl, ⟨_, SqL.of hl⟩, fun D hD => ?_⟩
    refine lc_objs ps (fun x p => x = .str (pairT p)) (fun H v p => ∃ b, v = .ref b ∧ H b = some (.tup [.str p.1, .int p.2])) (fun s ⟨b, e, h⟩ => ⟨b, e, s _ _ h⟩)
      (fun hl ⟨b, e, h⟩ => ⟨b, e, by rw [upd_ne (fun z => by rw [z, hl] at h; cases h)]; exact h⟩) hD (by have : ps.length ≤ 30 := h4; omega) (SqL.of hl) (by rw [List.map_map]; exact paired_self fun _ => rfl) ?_ ?_
    · rintro x p H' C S sH rfl hm _ hC
      exact ⟨fun _ => ⟨_, rfl, p, rfl, h2 p hm, fun r H4 s4 hrn hr4 => hC _ _ s4 ⟨r, rfl, hr4⟩⟩, fun z => absurd z (by decide)⟩
    intro vs H3 s3 hD3 hvs
    refine ⟨(by show 2 ≤ sizeLine; decide), fun r hrn => ?_⟩
    have s23 := s2.trans s3
    refine q _ _ (s23.trans (same_new hrn _)) (.tup (SqT.of upd_same) (.cons .str (.cons (.lst (s2.free hD) ((same_new hrn _) _ _ hD3) ?_) .nil)))
    exact pairs_says (Paired.imp' (fun _ _ ⟨b, e, h⟩ => ⟨b, e, (same_new hrn _) _ _ h⟩) hvs)
def spRdC (K : PySem.W.Frag) : Sp := fun vs H Q _ => ∃ c : List Item, vs = [.str (callT c)] ∧ (∀ it ∈ c, itOk it) ∧ c.length ≤ 30 ∧ (laidT c).length ≤ 60 ∧ (laidP c).length ≤ 60 ∧ ∀ (a : Addr) (xs : List V) (H' : Hp), Same H H' → H a = none → H' a = some (.lst xs) → Paired (Says K (fun b => H b = none ∧ b ≠ a) H' 3) xs (c.map itemD) → Q (.ref a) H'
def spRGr (K : PySem.W.Frag) : Sp := fun vs H Q _ => ∃ (a : Addr) (c : List Item), vs = [.ref a] ∧ CallAt K H a c ∧ (∀ it ∈ c, itOk it) ∧ c.length ≤ 30 ∧ (laidT c).length ≤ 60 ∧ (laidP c).length ≤ 60 ∧ ∀ H', Same H H' → Q .non H'
theorem item_sg {it : Item} (h : itOk it) : 44 ∉ sg (itemT it) := by
  have jn : ∀ ws : List Str, (∀ w ∈ ws, 44 ∉ sg w) → 44 ∉ sg (Txt.join " " ws) := by
    intro ws hw
    rw [sg_join]
    induction ws with
    | nil => simp [jL]
    | cons a r ih =>
      have ha := hw a List.mem_cons_self
      have := ih fun w hw' => hw w (List.mem_cons_of_mem _ hw')
      cases r with
      | nil => exact ha
      | cons b r =>
        simp only [List.map_cons, jL] at this ⊢
        intro hm
        rcases List.mem_append.mp hm with hm | hm
        · rcases List.mem_append.mp hm with hm | hm
          · exact ha hm
          · have : 44 ∈ [32] := hm
            simp at this
        · exact this hm
  obtain ⟨h1, h2, h3, h4⟩ := h
  cases it with
  | one t => exact fun h => by have := num_sg (h1 t List.mem_cons_self) _ h; omega
  | named n t => exact fun h => by have := pair_sg (h2 (n, t) List.mem_cons_self) _ h; omega
  | row ts =>
    rw [row_sg]
    have := jn (ts.map numT) (fun w hw => by obtain ⟨t, ht, rfl⟩ := List.mem_map.mp hw; exact fun h => by have := num_sg (h1 t ht) _ h; omega)
    intro hm
    rcases List.mem_cons.mp hm with hm | hm
    · omega
    · rcases List.mem_append.mp hm with hm | hm
      · exact this hm
      · simp at hm
  | book ps =>
    rw [book_sg]
    have := jn (ps.map pairT) (fun w hw => by obtain ⟨t, ht, rfl⟩ := List.mem_map.mp hw; exact fun h => by have := pair_sg (h2 t ht) _ h; omega)
    intro hm
    rcases List.mem_cons.mp hm with hm | hm
    · omega
    · rcases List.mem_append.mp hm with hm | hm
      · exact this hm
      · simp at hm
theorem scRdC : FnScope ["text", "call"] ["text"] (defScope sRdC) := ⟨rfl, rfl, rfl, by decide +kernel, rfl, by decide +kernel, by decide +kernel⟩
theorem ndPc : ([Str.ofString "piece"] : List Str).Nodup := by decide +kernel
theorem ok_rdC {f1 f2 f3 : Addr} {e1 e2 e3 : FuncData} (F : Fun K "read_call" "read_call" sRdC f fd) (c1 : Callee P w K mg base 1 "pieces" f1 e1 ["text"] spPcs) (c2 : Callee P w K mg base 3 "read_item" f2 e2 ["text"] (spRdI K)) (c3 : Callee P w K mg base 2 "refuse_too_great" f3 e3 ["call"] (spRGr K)) :
    FnOk P w K mg base CX0 4 f fd ["text"] (spRdC K) := by
  refine F.ok scRdC (fun vs H Q E h => ?_) (fun cdv A outer s H vs Q E hr h => ?_)
  · obtain ⟨c, rfl, _⟩ := h
    rfl
  obtain ⟨c, rfl, hi, hl, hT, hP, q⟩ := h
  have hr1 : Room 1 _ := hr.mono (by decide)
  have hr2 : Room 2 _ := hr.mono (by decide)
  have hr3 : Room 3 _ := hr.mono (by decide)
  refine ⟨_, pss_cons (ps_lc (i := 1) [] ["piece"] [none] scRdC.nd rfl (Or.inl rfl) rfl ⟨rfl, rfl, rfl, rfl⟩ (pi_list (cF c1 hr1 (ac (pv 0) pa_nil))) (gown_name 0) rfl rfl rfl
        (fun pins fp s H C => ⟨pg_name (i := 0) ndPc rfl (Or.inl rfl) (.inr rfl), pif_nil, cF c2 hr3 (ac (pv 0) pa_nil)⟩))
    (pss_cons (ps_expr (cF c3 hr2 (ac (pv 1) pa_nil)))
    (pss_one (ps_ret (pv 1)))), ?_⟩
  have cl : (Txt.join ", " (c.map itemT)).length ≤ 1000000 := by
    have := jn_len (sep := ", ") (xs := c.map itemT) (B := 2300) (fun x hx => by obtain ⟨t, ht, rfl⟩ := List.mem_map.mp hx; exact (item_len (hi t ht)).2)
    rw [List.length_map, show (", " : Str).length = 2 from rfl] at this
    omega
  refine ⟨_, rfl, c.map itemT, rfl, ?_, cl, by rw [List.length_map]; omega, fun l H1 s1 hl0 hl1 => ?_⟩
  · intro w hw
    obtain ⟨t, ht, rfl⟩ := List.mem_map.mp hw
    exact ⟨(item_len (hi t ht)).1, item_sg (hi t ht)⟩
  refine ⟨l, rfl, ⟨_, SqL.of hl1⟩, fun D hD => ?_⟩
  have nD : H D = none := s1.free hD
  refine lc_objs c (fun x it => x = .str (itemT it)) (fun H2 v it => Says K (fun b => H b = none ∧ b ≠ D) H2 3 v (itemD it)) (fun s h => h.same s)
    (fun hl h => says_upd (.inr ⟨_, hl⟩) (fun b hb _ => ⟨hb, hb.2⟩) h) hD (by omega) (SqL.of hl1) (by rw [List.map_map]; exact paired_self fun _ => rfl) ?_ ?_
  · rintro x it H' C S sH rfl hm hnD hC
    refine ⟨fun _ => ⟨_, rfl, it, rfl, hi it hm, fun v H4 s4 hv => hC _ _ s4 ?_⟩, fun z => absurd z (by decide)⟩
    exact hv.frame (fun _ _ z => z) fun b _ hb z => ⟨⟨(s1.trans sH).free hb, fun e => hnD (e ▸ hb)⟩, z⟩
  intro vs H2 s2 hD2 hvs
  have hvs' : Paired (Says K (fun b => H b = none ∧ b ≠ D) H2 3) vs (c.map itemD) := paired_map hvs
  refine ⟨_, rfl, D, c, rfl, ⟨vs, SqL.of hD2, Paired.imp' (fun _ _ z => z.frame (fun _ _ z => z) fun b _ hb z => ⟨trivial, z⟩) hvs'⟩, hi, hl, hT, hP, fun H3 s3 => ?_⟩
  exact ⟨_, rfl, q D vs H3 (s1.trans (s2.trans s3)) nD (s3 _ _ hD2) (Paired.imp' (fun _ _ z => z.same s3) hvs')⟩
end
end K91

set_option Elab.async false
set_option linter.all false
set_option maxRecDepth 100000
set_option maxHeartbeats 4000000
namespace K91
open PySem L2 PyProof.Rows
structure TxtG (mg : Str → Option Value) : Prop where
  len : mg "len" = none
  mi : ∃ t, mg "MOST_ITEMS" = some (.int 30 t)
  mn : ∃ t, mg "MOST_IN_AN_ITEM" = some (.int 30 t)
  mo : ∃ t, mg "MOST_OF_A_KIND" = some (.int 60 t)
def rbL : List V := [.str "row", .str "book"]
theorem item_get {K : PySem.W.Frag} {ok : Addr → Prop} {H : Hp} {xs : List V} {c : List Item} {i : Nat} {x : V} (h : Paired (Says K ok H 3) xs (c.map itemD)) (hx : xs[i]? = some x) : ∃ it, c[i]? = some it ∧ Says K ok H 3 x (itemD it) := by
  obtain ⟨d, hd, hy⟩ := Paired.get h hx
  rw [List.getElem?_map] at hd
  cases e : c[i]? with
  | none => rw [e] at hd; cases hd
  | some it => rw [e] at hd; exact ⟨it, rfl, (Option.some.inj hd) ▸ hy⟩
section
variable {P : Program} {w : World} {K : PySem.W.Frag} {mg : Str → Option Value} {base : Heap} {f : Addr} {fd : FuncData}
theorem scRGr : FnScope ["call", "item", "things", "pairs"] ["call"] (defScope sRGr) := ⟨rfl, rfl, rfl, by decide +kernel, rfl, by decide +kernel, by decide +kernel⟩
theorem ok_rGr {f1 : Addr} {e1 : FuncData} (F : Fun K "refuse_too_great" "refuse_too_great" sRGr f fd) (T : TxtG mg) (c1 : Callee P w K mg base 1 "laid" f1 e1 ["call"] (spLaid K)) : FnOk P w K mg base CX0 2 f fd ["call"] (spRGr K) := by
  refine F.ok scRGr (fun vs H Q E h => ?_) (fun cdv A outer s H vs Q E hr h => ?_)
  · obtain ⟨a, c, rfl, _⟩ := h
    rfl
  obtain ⟨a, c, rfl, ⟨xs, hS, hx⟩, hi, hl, hT, hP, q⟩ := h
  have hr1 : Room 1 _ := hr.mono (by decide)
  obtain ⟨t1, mi⟩ := T.mi
  obtain ⟨t2, mn⟩ := T.mn
  obtain ⟨t3, mk⟩ := T.mo
  have lx : xs.length = c.length := by rw [hx.length, List.length_map]
  refine ⟨_, pss_cons (ps_if (pt_cmpR op_gt (cB call_len_seq T.len PySem.boot_len (ac (pv 0) pa_nil)) (pe_glob (v := .int 30) rfl mi ⟨_, rfl⟩) (nomark _)) (pss_one ps_dead) pss_nil)
    (pss_cons (ps_for PassesOwn.never rfl (pi_list (pv 0)) (pg_name (i := 1) scRGr.nd rfl (Or.inl rfl))
      (pss_one (ps_if (PW.pt (pw_and (pt_cmpR op_in_seq (pe_ix ix_tup (pv 1) pe_int (fun _ _ => rfl)) (pe_tup (ac pe_str (ac pe_str pa_nil))) (by with_unfolding_all rfl))
        (pw_and1 (pt_cmpR op_gt (cB call_len_seq T.len PySem.boot_len (ac (pe_ix ix_tup (pv 1) pe_int (fun _ _ => rfl)) pa_nil)) (pe_glob (v := .int 30) rfl mn ⟨_, rfl⟩) (nomark _))))) (pss_one ps_dead) pss_nil)))
    (pss_cons (ps_asg (cF c1 hr1 (ac (pv 0) pa_nil)) (pg_tup rfl (pgs_cons (pg_name (i := 2) scRGr.nd rfl (Or.inl rfl)) (pgs_cons (pg_name (i := 3) scRGr.nd rfl (Or.inl rfl)) pgs_nil))))
    (pss_one (ps_if (PW.pt (pw_or (pt_cmpR op_gt (cB call_len_seq T.len PySem.boot_len (ac (pv 2) pa_nil)) (pe_glob (v := .int 60) rfl mk ⟨_, rfl⟩) (nomark _)) (pw_or1 (pt_cmpR op_gt (cB call_len_seq T.len PySem.boot_len (ac (pv 3) pa_nil)) (pe_glob (v := .int 60) rfl mk ⟨_, rfl⟩) (nomark _))))) (pss_one ps_dead) pss_nil)))), ?_⟩
  refine ⟨_, rfl, a, xs, rfl, .inl hS, _, _, rfl, rfl, _, rfl, ?_⟩
  refine dF (show ¬ ((xs.length : Int) > 30) by omega) ?_
  refine ⟨_, rfl, a, rfl, ⟨_, hS⟩, for_list (K := K) (a := a) (xs := xs) (fun i σ H2 => ∃ v1 v2 v3, σ = [some (.ref a), v1, v2, v3] ∧ Same H H2)
    ⟨_, _, _, rfl, Same.refl _⟩ (fun i σ H2 _ ⟨_, _, _, _, s2⟩ => s2.seq hS) ?_ ?_⟩
  · rintro i y σ H2 hy ⟨v1, v2, v3, rfl, s2⟩
    obtain ⟨it, hit, hsy⟩ := item_get hx hy
    have hio := hi it (List.mem_of_getElem? hit)
    have hsy := hsy.same s2
    cases it with
    | one t =>
      obtain ⟨b, rfl, hb⟩ := item_one hsy
      refine ⟨_, rfl, b, _, _, .str "one", rfl, rfl, hb, rfl, (by show 2 ≤ sizeLine; decide), fun r hrn => ⟨r, rbL, rfl, .inr (SqT.of upd_same), rfl, (by decide), _, rfl, ?_⟩⟩
      refine iteC (by decide +kernel) (iteF ?_)
      exact ⟨_, _, _, rfl, s2.trans (same_new hrn _)⟩
    | named n t =>
      obtain ⟨b, rfl, hb⟩ := item_named hsy
      refine ⟨_, rfl, b, _, _, .str "named", rfl, rfl, hb, rfl, (by show 2 ≤ sizeLine; decide), fun r hrn => ⟨r, rbL, rfl, .inr (SqT.of upd_same), rfl, (by decide), _, rfl, ?_⟩⟩
      refine iteC (by decide +kernel) (iteF ?_)
      exact ⟨_, _, _, rfl, s2.trans (same_new hrn _)⟩
    | row ts =>
      obtain ⟨b, l, rfl, hb, _, hl'⟩ := item_row hsy
      have l30 : ts.length ≤ 30 := hio.2.2.1
      refine ⟨_, rfl, b, _, _, .str "row", rfl, rfl, hb, rfl, (by show 2 ≤ sizeLine; decide), fun r hrn => ⟨r, rbL, rfl, .inr (SqT.of upd_same), rfl, (by decide), _, rfl, ?_⟩⟩
      refine iteB (by decide +kernel) ?_
      have s3 := same_new hrn (.tup rbL)
      refine ⟨_, rfl, b, _, _, .ref l, rfl, rfl, Same.sqT s3 hb, rfl, l, _, rfl, .inl (SqL.of (s3 _ _ hl')), _, _, rfl, rfl, _, rfl, ?_⟩
      refine dF (show ¬ (((ts.map V.int).length : Int) > 30) by rw [List.length_map]; omega) ?_
      exact ⟨_, _, _, rfl, s2.trans s3⟩
    | book ps =>
      obtain ⟨b, l, ys, rfl, hb, _, hl', hys⟩ := item_book hsy
      have l30 : ys.length ≤ 30 := by rw [hys.length, List.length_map]; exact hio.2.2.2
      refine ⟨_, rfl, b, _, _, .str "book", rfl, rfl, hb, rfl, (by show 2 ≤ sizeLine; decide), fun r hrn => ⟨r, rbL, rfl, .inr (SqT.of upd_same), rfl, (by decide), _, rfl, ?_⟩⟩
      refine iteB (by decide +kernel) ?_
      have s3 := same_new hrn (.tup rbL)
      refine ⟨_, rfl, b, _, _, .ref l, rfl, rfl, Same.sqT s3 hb, rfl, l, _, rfl, .inl (SqL.of (s3 _ _ hl')), _, _, rfl, rfl, _, rfl, ?_⟩
      refine dF (show ¬ ((ys.length : Int) > 30) by omega) ?_
      exact ⟨_, _, _, rfl, s2.trans s3⟩
  · rintro σ H2 ⟨v1, v2, v3, rfl, s2⟩
    refine ⟨_, rfl, a, c, xs, rfl, s2.seq hS, Paired.imp' (fun _ _ z => z.same s2) hx, by omega, by omega, fun p H3 s3 ⟨l1, l2, ys, n1, n2, n12, np, hp, hl1, hl2, hys⟩ => ?_⟩
    have ly : ys.length = (laidP c).length := by rw [hys.length, List.length_map]
    refine ⟨p, _, rfl, SqT.of hp, rfl, _, _, rfl, _, _, rfl, rfl, ?_⟩
    refine ⟨_, rfl, l1, _, rfl, .inl (SqL.of hl1), _, _, rfl, rfl, _, rfl, ?_⟩
    refine dF (show ¬ ((((laidT c).map V.int).length : Int) > 60) by rw [List.length_map]; omega) ?_
    refine ⟨_, rfl, l2, _, rfl, .inl (SqL.of hl2), _, _, rfl, rfl, _, rfl, ?_⟩
    refine dF (show ¬ ((ys.length : Int) > 60) by omega) ?_
    exact q _ (s2.trans s3)
end
end K91

set_option Elab.async false
set_option linter.all false
set_option maxRecDepth 100000
set_option maxHeartbeats 4000000
namespace L2
open PySem PySem.Spec PyProof.Rows
/-! ### text.rstrip(signs) -/
theorem rstrip_of {x y a b : Str} (hx : x = a ++ b) (ha : ∀ c ∈ sg a, c ∉ sg y) (hb : ∀ c ∈ sg b, c ∈ sg y) : Txt.rstripChars x y = a := by
  have go : ∀ c, y.cps.contains c = decide (c ∈ sg y) := fun c => by simp [sg]
  obtain ⟨_, h0, h1, h2⟩ := hi_facts y.cps.contains x 0 (Nat.zero_le _)
  have es : sg x = sg a ++ sg b := by rw [hx, sg_app]
  have lx : x.length = (sg a).length + (sg b).length := by rw [sg_len, es, List.length_append]
  have gd : ∀ k, x.cps.getD k 0 = (sg x).getD k 0 := fun k => (getD_list x k).symm
  unfold Txt.rstripChars
  rw [stripBy_eq]
  show PySem.Builtin.Str.strSub x 0 (stripHi y.cps.contains true x 0) = a
  generalize stripHi y.cps.contains true x 0 = hi at h0 h1 h2
  have e : hi = (sg a).length := by
    rcases Nat.lt_trichotomy hi (sg a).length with h | h | h
    · have := h1 hi (Nat.le_refl _) (by omega)
      rw [gd, es, go, decide_eq_true_eq, List.getD_eq_getElem?_getD, List.getElem?_append_left h, List.getElem?_eq_getElem h] at this
      exact absurd this (ha _ (List.getElem_mem h))
    · exact h
    · rcases h2 with h2 | h2
      · omega
      · rw [gd, es, go, decide_eq_false_iff_not, List.getD_eq_getElem?_getD, List.getElem?_append_right (by omega), List.getElem?_eq_getElem (by omega)] at h2
        exact absurd (hb _ (List.getElem_mem (by omega))) h2
  refine sg_ext ?_
  rw [show sg (PySem.Builtin.Str.strSub x 0 hi) = _ from PySem.StrLaws.strSub_toList _ _ _, show x.cps.toList = sg a ++ sg b from es, e]
  simp
/-! ### D.get(e), D a written dict of the text with texts as keys; the key is there -/
section
variable {X : Cx}
theorem pe_kgetm {e : Expr} {d : Str} {p apos cpos : Pos} {a : Addr} {f : Str → Option V} {te : TE} (T : KTab X.w X.K a f) (hm : X.mg d = some (.ref a)) (hsy : (a == sysModules) = false) (he : PE X e te) (m : M1 X (.Name d p) "get" apos e cpos) (hg : Gl X d := by rfl) (hdb : (d == ("__debug__" : Str)) = false := by decide) :
    PE X (.Call (.Attribute (.Name d p) "get" apos) [e] [] cpos) (fun σ H Q => te σ H fun y H1 => ∃ x v, y = .str x ∧ f x = some v ∧ Q v H1) := by
  refine ⟨?_⟩
  intro pins s σ H Q I h
  obtain ⟨es, n, hl, hk⟩ := T.obj
  have hmap := PySem.W.mapOf_K (prog := X.prog) (w := X.w) I.kIn hl hk
  refine wpAny_Call_method m.base m.few m.line PySem.F.plainAttrs_dict PySem.F.slot_dict_get PySem.F.type_dict_get (ld_glob I hg hm ?_ hdb)
  refine ⟨hmap.typeIs, fun b eb => ⟨_, I.kIn _ _ (by cases eb; exact hl), rfl⟩, ?_⟩
  rw [m.trees]
  refine Calls.callWith_builtin rfl (Calls.evalArgs_plain (Calls.spliced_cons (thn (he pins s σ H _ I h) fun iv s2 ⟨y, H2, I2, ry, x, v, ey, ef, q2⟩ => Calls.spliced_nil ?_)))
  subst ey
  obtain ⟨t, rfl⟩ := ry
  obtain ⟨u, eu, ru⟩ := T.vals x v ef
  have hmap2 := PySem.W.mapOf_K (prog := X.prog) (w := X.w) I2.kIn hl hk
  refine call_meetsIn PySem.F.slot_dict_get hmap2.typeIs PySem.F.entry_dict_get (PySem.F.args_dict_get_2 _ _) (meets_dict_get (strKind X.prog X.w) a (strKind_is X.prog X.w x t) hsy) ⟨_, hmap2, ?_⟩
  have ef2 : PySem.findBy Value.isStrOf es x = some u := PySem.W.find_K hl eu
  refine ⟨v, H2, I2.tok _, ?_, q2⟩
  rw [ef2]
  exact ru
end
end L2

set_option Elab.async false
set_option linter.all false
set_option maxRecDepth 100000
set_option maxHeartbeats 4000000
namespace K91
open PySem L2 PyProof.Rows
theorem ps_1 {X : Cx} {pins : List (Addr × Obj)} {σ : L2.St} {st : Stmt} {t : TS} (h : PS X st t) : PS1 X pins σ st t := ⟨fun s H D I q => h pins s σ H D I q⟩
def soV (x : Str) : Option V := ([(("!" : Str), V.str "seat"), ("", .str "both"), ("..", .str "tail"), (":", .str "tag"), ("::", .str "bag")] : List (Str × V)).lookup x
theorem soV_kw : ∀ k : Nat, k < 5 → soV (endS k) = some (.str (kw k)) := by decide +kernel
def sgn : Str := "!.:"
def lfL : List V := [.str "tail", .str "bag"]
theorem end_sg : ∀ k : Nat, ∀ c ∈ sg (endS k), c ∈ sg sgn := by
  intro k
  unfold endS
  split <;> decide +kernel
theorem in_lf : ∀ k : Nat, k < 5 → inV (.str (kw k)) lfL = !tk k := by decide +kernel
theorem rv_two : ∀ {r : Rw}, r.k < 5 → tk r.k = false → rv r = [.str (kw r.k), .str r.z] := by
  rintro ⟨k, z, b⟩ h t
  rcases lt5 h with rfl | rfl | rfl | rfl | rfl <;> first | rfl | cases t
theorem rv_three : ∀ {r : Rw}, r.k < 5 → tk r.k = true → rv r = [.str (kw r.k), .str r.z, .bl r.b] := by
  rintro ⟨k, z, b⟩ h t
  rcases lt5 h with rfl | rfl | rfl | rfl | rfl <;> first | rfl | cases t
structure TxtR (w : World) (K : PySem.W.Frag) (mg : Str → Option Value) (SA LA CE : Addr) : Prop where
  len : mg "len" = none
  sg_ : ∃ t, mg "SIGNS_OF_ENDS" = some (.str sgn t)
  ms : mg "SORTS" = some (.ref SA)
  st : KTab w K SA soV
  sy : (SA == sysModules) = false
  ml : mg "OF_ALL_LEFT_OVER" = some (.ref LA)
  hl : ∀ H, SqT K H LA lfL
  ce : mg "CallError" = some (.ref CE)
def spRdP (c : C5) : Sp := fun vs H Q _ => ∃ (r : Rw) (fb : Bool), vs = [.str (wrS r), .bl fb] ∧ r.ok ∧ fb = (tk r.k && r.b) ∧ ∀ (o : Addr) (H' : Hp), Same H H' → PAt c H' o r → Q (.ref o) H'
def spFO (c : C5) (CF : Addr) : Sp := fun vs H Q _ => ∃ (a b : Addr) (ps : List Addr) (rows : List Rw) (bars : List Str), vs = [.ref a, .ref b] ∧ H a = some (.lst (ps.map V.ref)) ∧ Paired (PAt c H) ps rows ∧ H b = some (.lst (bars.map V.str)) ∧ Valid rows bars ∧ ∀ (x : Addr) (H' : Hp), Same H H' → FormOk c CF H' x rows bars → Q (.ref x) H'
section
variable {P : Program} {w : World} {K : PySem.W.Frag} {mg : Str → Option Value} {base : Heap} {f SA LA CE CF : Addr} {fd : FuncData} {c : C5}
theorem scRdP : FnScope ["text", "free", "name", "word"] ["text", "free"] (defScope sRdP) := ⟨rfl, rfl, rfl, by decide +kernel, rfl, by decide +kernel, by decide +kernel⟩
theorem ok_rdP {f1 f2 : Addr} {e1 e2 : FuncData} (F : Fun K "read_parameter" "read_parameter" sRdP f fd) (T : TxtR w K mg SA LA CE) (c1 : Callee P w K mg base 1 "is_name" f1 e1 ["thing"] (spIs K)) (c2 : Callee P w K mg base 5 "parameter_of" f2 e2 ["told"] (spPof K c)) :
    FnOk P w K mg base CX0 6 f fd ["text", "free"] (spRdP c) := by
  refine F.ok scRdP (fun vs H Q E h => ?_) (fun cdv A outer s H vs Q E hr h => ?_)
  · obtain ⟨r, fb, rfl, _⟩ := h
    rfl
  obtain ⟨r, fb, rfl, rok, efb, q⟩ := h
  have hr1 : Room 1 _ := hr.mono (by decide)
  have hr5 : Room 5 _ := hr.mono (by decide)
  obtain ⟨t1, sg1⟩ := T.sg_
  have wl := wr_len rok
  have nz := nm_sg rok.2
  refine ⟨_, pss_cons (ps_set (i := 2) scRdP.nd rfl (Or.inl rfl) (pe_bm PySem.F.plainAttrs_str PySem.F.slot_str_rstrip PySem.F.type_str_rstrip mt_rstripC (pv 0) (ac (pe_glob (v := .str sgn) rfl sg1 ⟨_, rfl⟩) pa_nil)))
    (pss_cons (ps_set (i := 3) scRdP.nd rfl (Or.inl rfl) (pe_kgetm T.st T.ms T.sy (pe_slice sl_str (pv 0) (po_some (cB call_len_str T.len PySem.boot_len (ac (pv 2) pa_nil))) po_none) ⟨rfl, rfl, rfl, rfl⟩))
    (pss_cons (ps_if (PW.pt (pw_or (pt_cmp (pc_isN (pv 3))) (pw_or1 (pt_not (pt_val (cF c1 hr1 (ac (pv 2) pa_nil))))))) (pss_one ps_dead) pss_nil)
    (pss_cons (ps_if (pt_cmpR op_notIn_seq (pv 3) (pe_glob (v := .ref LA) rfl T.ml rfl) (by with_unfolding_all rfl)) (pss_one (ps_ret (cF c2 hr5 (ac (pe_tup (ac (pv 3) (ac (pv 2) (ac (pv 1) pa_nil)))) pa_nil)))) pss_nil)
    (pss_cons (ps_if (pt_val (pv 1)) (pss_one ps_dead) pss_nil)
    (pss_one (ps_ret (cF c2 hr5 (ac (pe_tup (ac (pv 3) (ac (pv 2) pa_nil))) pa_nil)))))))), ?_⟩
  have er : Txt.rstripChars (wrS r) sgn = r.z := rstrip_of (b := endS r.k) rfl (fun c hc h => by
    have := nz c hc
    have h' : c ∈ [33, 46, 58] := h
    simp at h'
    omega) (end_sg r.k)
  have ew : sg (wrS r) = sg r.z ++ sg (endS r.k) := sg_app _ _
  have es : Txt.slice (wrS r) (some ((r.z.length : Nat) : Int)) none = endS r.k := sg_ext (by rw [sg_len]; exact slice_from ew)
  have zl := (nameB_iff.mp rok.2).2.1
  refine ⟨_, rfl, rfl, wrS r, sgn, rfl, rfl, by rw [sizeLine_eq]; omega, ?_⟩
  rw [er]
  refine ⟨_, rfl, _, rfl, r.z, rfl, by rw [sizeLine_eq]; omega, _, rfl, wrS r, rfl, by rw [sizeLine_eq]; omega, _, .str (kw r.k), rfl, by rw [es]; exact soV_kw r.k rok.1, ?_⟩
  dsimp only [gName]
  refine ⟨_, rfl, _, rfl, ?_⟩
  refine iteF ?_
  refine ⟨_, rfl, _, rfl, .inl ⟨r.z, rfl, nameB_ok rok.2⟩, fun H1 s1 => ⟨_, rfl, ?_⟩⟩
  rw [show nmV (.str r.z) = true from rok.2]
  refine iteF ?_
  refine ⟨_, rfl, LA, lfL, rfl, .inr (T.hl H1), rfl, by decide, _, rfl, ?_⟩
  rw [show (if true = true then !inV (V.str (kw r.k)) lfL else inV (V.str (kw r.k)) lfL) = tk r.k by rw [if_pos rfl, in_lf r.k rok.1, Bool.not_not]]
  have fin : ∀ (u : Addr) (H2 : Hp), Same H1 H2 → H2 u = some (.tup (rv r)) → spPof K c [.ref u] H2 Q E0 := fun u H2 s2 hu =>
    ⟨u, r.k, .str r.z, r.b, rfl, rok.1, hu, .inl ⟨r.z, rfl, nameB_ok rok.2⟩, rok.2, fun o dx H3 s3 ho => q o H3 (s1.trans (s2.trans s3)) ⟨dx, ho⟩⟩
  cases e : tk r.k
  · rw [e, Bool.false_and] at efb
    refine iteF ?_
    refine ⟨_, rfl, _, rfl, ?_⟩
    rw [efb]
    refine iteF ?_
    refine ⟨_, rfl, _, rfl, (by show 2 ≤ sizeLine; decide), fun u hu => fin u _ (same_new hu _) ?_⟩
    rw [upd_same, rv_two rok.1 e]
  · rw [e, Bool.true_and] at efb
    refine iteT ?_
    refine ⟨_, rfl, _, rfl, _, rfl, (by show 3 ≤ sizeLine; decide), fun u hu => fin u _ (same_new hu _) ?_⟩
    rw [upd_same, efb, rv_three rok.1 e]
theorem scFO : FnScope ["parameters", "bars"] ["parameters", "bars"] (defScope sFO) := ⟨rfl, rfl, rfl, by decide +kernel, rfl, by decide +kernel, by decide +kernel⟩
theorem ok_fo {gF : Addr} {eF : FuncData} (F : Fun K "form_of" "form_of" sFO f fd) (T : TxtR w K mg SA LA CE) (mCF : mg "Form" = some (.ref CF)) (MF : Mk K CF gF) (GF : FnOk P w K mg base CX0 3 gF eF ["self", "parameters", "bars"] (spFI c CF)) (bF : Binds K eF ["self", "parameters", "bars"] []) :
    FnOk P w K mg base CX0 5 f fd ["parameters", "bars"] (spFO c CF) := by
  refine F.ok scFO (fun vs H Q E h => ?_) (fun cdv A outer s H vs Q E hr h => ?_)
  · obtain ⟨a, b, ps, rows, bars, rfl, _⟩ := h
    rfl
  obtain ⟨a, b, ps, rows, bars, rfl, ha, hp, hb, V, q⟩ := h
  have hr4 : Room 4 _ := hr.mono (by decide)
  refine ⟨_, pss_one (ps_tryS rfl rfl (ph_no rfl T.ce (fun ea => pss_one ps_dead) ph_nil)
    (fun pins σ xe E hp => ps_1 (ps_ret (pe_make MF GF hr4 rfl mCF bF .nil pass0 (ac (pv 0) (ac (pv 1) pa_nil)))))), ?_⟩
  refine ⟨_, rfl, _, rfl, ?_⟩
  intro x dx hx hdx hne
  have smk : Same H (upd (upd H dx (.own x)) x (.ins CF dx [])) := same_make0 hx hdx
  have hx1 : upd (upd H dx (.own x)) x (.ins CF dx []) x = some (.ins CF dx []) := upd_same
  generalize upd (upd H dx (.own x)) x (.ins CF dx []) = H1 at smk hx1 ⊢
  refine ⟨x, a, dx, .ref b, ps, rows, bars, rfl, hx1, smk _ _ ha, pats_same smk hp, .inr ⟨b, rfl, smk _ _ hb⟩, V, fun H2 sx F6 L6 => ?_⟩
  refine ⟨rfl, ?_⟩
  have s2 : Same H H2 := fun b' u e => sx b' u (smk _ _ e) (ne_of_none e hx)
  exact q x H2 s2 ⟨let ⟨dx, fs, lr, lb, ld, ps, h1, h2, h3, h4, h5, h6, _, _⟩ := F6; ⟨dx, fs, lr, lb, ld, ps, h1, h2, h3, h4, h5, h6⟩, by have := V.l24; omega, by have := V.l60; omega, V.ok⟩
end
end K91

set_option Elab.async false
set_option linter.all false
set_option maxRecDepth 100000
set_option maxHeartbeats 4000000
namespace K91
open PySem L2 PyProof.Rows
theorem wr_sg {r : Rw} (h : r.ok) : ∀ c ∈ sg (wrS r), (97 ≤ c ∧ c ≤ 122) ∨ c = 33 ∨ c = 46 ∨ c = 58 := by
  intro c hc
  unfold wrS at hc
  rw [sg_app] at hc
  rcases List.mem_append.mp hc with hc | hc
  · exact .inl (nm_sg h.2 c hc)
  · have h' : c ∈ [33, 46, 58] := end_sg r.k c hc
    simp at h'
    omega
theorem par_sg {r : Rw} (h : r.ok) : ∀ c ∈ sg (parT r), (97 ≤ c ∧ c ≤ 122) ∨ c = 33 ∨ c = 46 ∨ c = 58 ∨ c = 63 := by
  intro c hc
  unfold parT at hc
  split at hc
  · rw [sg_app] at hc
    rcases List.mem_append.mp hc with hc | hc
    · have := wr_sg h c hc; omega
    · have h' : c ∈ [63] := hc
      simp at h'
      omega
  · have := wr_sg h c hc; omega
theorem bar_sg {z : Str} (h : nameB z = true) : sg (barT z) = 45 :: sg z := by
  unfold barT
  rw [sg_app]
  rfl
theorem par_end {r : Rw} (h : r.ok) : Txt.endswith (parT r) "?" = (tk r.k && r.b) := by
  have ne : sg (wrS r) ≠ [] := fun e => by have := (wr_len h).1; rw [sg_len, e] at this; exact absurd this (by decide)
  cases e : (tk r.k && r.b)
  · have ep : parT r = wrS r := by unfold parT; rw [e]; rfl
    rw [ep, ends_one (c := 63) (r := (sg (wrS r)).dropLast) (d := (sg (wrS r)).getLast ne) rfl (List.dropLast_concat_getLast ne).symm]
    refine decide_eq_false fun z => ?_
    have := wr_sg h _ (List.getLast_mem ne)
    omega
  · have ep : parT r = wrS r ++ "?" := by unfold parT; rw [e]; rfl
    rw [ep, ends_one (c := 63) (r := sg (wrS r)) (d := 63) rfl (sg_app _ _)]
    rfl
def spRdF (c : C5) (CF : Addr) : Sp := fun vs H Q _ => ∃ (rows : List Rw) (bars : List Str), vs = [.str (formT rows bars)] ∧ Valid rows bars ∧ ∀ (x : Addr) (H' : Hp), Same H H' → FormOk c CF H' x rows bars → Q (.ref x) H'
section
variable {P : Program} {w : World} {K : PySem.W.Frag} {mg : Str → Option Value} {base : Heap} {f CF : Addr} {fd : FuncData} {c : C5}
theorem scRdF : FnScope ["text", "parameters", "bars", "piece", "free"] ["text"] (defScope sRdF) := ⟨rfl, rfl, rfl, by decide +kernel, rfl, by decide +kernel, by decide +kernel⟩
theorem ok_rdF {f1 f2 f3 : Addr} {e1 e2 e3 : FuncData} (F : Fun K "read_form" "read_form" sRdF f fd) (c1 : Callee P w K mg base 1 "pieces" f1 e1 ["text"] spPcs) (c2 : Callee P w K mg base 6 "read_parameter" f2 e2 ["text", "free"] (spRdP c)) (c3 : Callee P w K mg base 5 "form_of" f3 e3 ["parameters", "bars"] (spFO c CF)) :
    FnOk P w K mg base CX0 7 f fd ["text"] (spRdF c CF) := by
  refine F.ok scRdF (fun vs H Q E h => ?_) (fun cdv A outer s H vs Q E hr h => ?_)
  · obtain ⟨rows, bars, rfl, _⟩ := h
    rfl
  obtain ⟨rows, bars, rfl, Va, q⟩ := h
  have hr1 : Room 1 _ := hr.mono (by decide)
  have hr5 : Room 5 _ := hr.mono (by decide)
  have hr6 : Room 6 _ := hr.mono (by decide)
  have l24 := Va.l24
  have l60 := Va.l60
  refine ⟨_, pss_cons (ps_set (i := 1) scRdF.nd rfl (Or.inl rfl) (pe_lst pa_nil)) (pss_cons (ps_set (i := 2) scRdF.nd rfl (Or.inl rfl) (pe_lst pa_nil))
    (pss_cons (ps_for PassesOwn.never rfl (pi_list (cF c1 hr1 (ac (pv 0) pa_nil))) (pg_name (i := 3) scRdF.nd rfl (Or.inl rfl))
      (pss_one (ps_if (pt_val (pe_bm PySem.F.plainAttrs_str PySem.F.slot_str_startswith PySem.F.type_str_startswith mt_starts (pv 3) (ac pe_str pa_nil)))
        (pss_one (ps_expr (pe_bm PySem.F.plainAttrs_list PySem.F.slot_list_append PySem.F.type_list_append mt_append (pv 2) (ac (pe_slice sl_str (pv 3) (po_some pe_int) po_none) pa_nil))))
        (pss_one (ps_if (pt_truth (pv 2) (fun _ => rfl)) (pss_one ps_dead)
          (pss_cons (ps_set (i := 4) scRdF.nd rfl (Or.inl rfl) (pe_bm PySem.F.plainAttrs_str PySem.F.slot_str_endswith PySem.F.type_str_endswith mt_ends (pv 3) (ac pe_str pa_nil)))
          (pss_one (ps_expr (pe_bm PySem.F.plainAttrs_list PySem.F.slot_list_append PySem.F.type_list_append mt_append (pv 1) (ac (cF c2 hr6 (ac (pe_ifExp (pt_val (pv 4)) (pe_slice sl_str (pv 3) po_none (po_some (pe_un un_neg pe_int))) (pv 3)) (ac (pv 4) pa_nil))) pa_nil)))))))))) 
    (pss_one (ps_ret (cF c3 hr5 (ac (pv 1) (ac (pv 2) pa_nil))))))), ?_⟩
  refine ⟨(by show 0 ≤ sizeLine; decide), fun l1 h1 => ?_⟩
  refine ⟨(by show 0 ≤ sizeLine; decide), fun l2 h2 => ?_⟩
  have n12 : l1 ≠ l2 := ne_of_none upd_same h2
  have f2 : H l2 = none := (same_new h1 _).free h2
  have s0 : Same H (upd (upd H l1 (.lst [])) l2 (.lst [])) := (same_new h1 _).trans (same_new h2 _)
  have g1 : upd (upd H l1 (.lst [])) l2 (.lst []) l1 = some (.lst []) := by rw [upd_ne n12, upd_same]
  have g2 : upd (upd H l1 (.lst [])) l2 (.lst []) l2 = some (.lst []) := upd_same
  show tSeq _ _ _ _ (upd (upd H l1 (.lst [])) l2 (.lst []))
  generalize upd (upd H l1 (.lst [])) l2 (.lst []) = H0 at s0 g1 g2 ⊢
  have wl : (Txt.join ", " (rows.map parT ++ bars.map barT)).length ≤ 1000000 := by
    have := jn_len (sep := ", ") (xs := rows.map parT ++ bars.map barT) (B := 11) (fun x hx => by
      rcases List.mem_append.mp hx with hx | hx
      · obtain ⟨r, hr, rfl⟩ := List.mem_map.mp hx; exact (par_len (Va.ok r hr)).2
      · obtain ⟨z, hz, rfl⟩ := List.mem_map.mp hx; have := (bar_len (Va.bn z hz)).2; omega)
    simp only [List.length_append, List.length_map, show (", " : Str).length = 2 from rfl] at this
    omega
  refine ⟨_, rfl, rows.map parT ++ bars.map barT, rfl, ?_, wl, by simp only [List.length_append, List.length_map]; omega, fun l H1 s1 hl0 hl => ?_⟩
  · intro x hx
    rcases List.mem_append.mp hx with hx | hx
    · obtain ⟨r, hr, rfl⟩ := List.mem_map.mp hx
      exact ⟨(par_len (Va.ok r hr)).1, fun h => by have := par_sg (Va.ok r hr) _ h; omega⟩
    · obtain ⟨z, hz, rfl⟩ := List.mem_map.mp hx
      exact ⟨(bar_len (Va.bn z hz)).1, fun h => by
        rw [bar_sg (Va.bn z hz)] at h
        rcases List.mem_cons.mp h with h | h
        · omega
        · have := nm_sg (Va.bn z hz) _ h; omega⟩
  have nl1 : l1 ≠ l := fun e => by rw [e, hl0] at g1; cases g1
  have nl2 : l2 ≠ l := fun e => by rw [e, hl0] at g2; cases g2
  have s01 := s0.trans s1
  refine ⟨l, rfl, ⟨_, SqL.of hl⟩, for_list (K := K) (a := l) (xs := (rows.map parT ++ bars.map barT).map V.str) (fun i σ H2 => ∃ v3 v4 ps, σ = [some (.str (formT rows bars)), some (.ref l1), some (.ref l2), v3, v4] ∧ Same H H2 ∧ H2 l = some (.lst ((rows.map parT ++ bars.map barT).map V.str)) ∧ H2 l1 = some (.lst (ps.map V.ref)) ∧ Paired (PAt c H2) ps (rows.take i) ∧ H2 l2 = some (.lst ((bars.take (i - rows.length)).map V.str)))
    ⟨_, _, [], rfl, s01, hl, s1 _ _ g1, .nil, by rw [Nat.zero_sub]; exact s1 _ _ g2⟩ (fun i σ H2 _ ⟨_, _, _, _, _, h, _⟩ => SqL.of h) ?_ ?_⟩
  · rintro i y σ H2 hi ⟨v3, v4, ps, rfl, s2, e0, e1, hp, e2⟩
    rw [List.getElem?_map] at hi
    have lp : ps.length ≤ 24 := by rw [hp.length, List.length_take]; omega
    by_cases hlt : i < rows.length
    · obtain ⟨r, hr'⟩ : ∃ r, rows[i]? = some r := ⟨_, List.getElem?_eq_getElem hlt⟩
      rw [List.getElem?_append_left (by rw [List.length_map]; exact hlt), List.getElem?_map, hr'] at hi
      obtain rfl : V.str (parT r) = y := by simpa using hi
      have rok := Va.ok r (List.mem_of_getElem? hr')
      have pl := par_len rok
      rw [show i - rows.length = 0 by omega] at e2
      refine ⟨_, rfl, rfl, parT r, _, rfl, rfl, _, rfl, ?_⟩
      refine iteC (starts_no (c := 45) rfl fun h => by have := par_sg rok _ h; omega) ?_
      refine ⟨_, rfl, false, .inl ⟨_, SqL.of e2, rfl⟩, ?_⟩
      refine iteF ?_
      refine ⟨_, rfl, rfl, parT r, _, rfl, rfl, ?_⟩
      rw [par_end rok]
      dsimp only [gName]
      have fin : ∀ (o : Addr) (H3 : Hp), Same H2 H3 → PAt c H3 o r → ∃ v3 v4 ps', [some (V.str (formT rows bars)), some (.ref l1), some (.ref l2), some (V.str (parT r)), some (.bl (tk r.k && r.b))] = [some (V.str (formT rows bars)), some (.ref l1), some (.ref l2), v3, v4] ∧ Same H (upd H3 l1 (.lst (ps.map V.ref ++ [.ref o]))) ∧ upd H3 l1 (.lst (ps.map V.ref ++ [.ref o])) l = some (.lst ((rows.map parT ++ bars.map barT).map V.str)) ∧ upd H3 l1 (.lst (ps.map V.ref ++ [.ref o])) l1 = some (.lst (ps'.map V.ref)) ∧ Paired (PAt c (upd H3 l1 (.lst (ps.map V.ref ++ [.ref o])))) ps' (rows.take (i + 1)) ∧ upd H3 l1 (.lst (ps.map V.ref ++ [.ref o])) l2 = some (.lst ((bars.take (i + 1 - rows.length)).map V.str)) := by
        intro o H3 s3 ho
        refine ⟨_, _, ps ++ [o], rfl, same_upd (s2.trans s3) h1 _, by rw [upd_ne nl1.symm]; exact s3 _ _ e0, by rw [upd_same, List.map_append]; rfl, ?_, by rw [upd_ne n12.symm, show i + 1 - rows.length = 0 by omega]; exact s3 _ _ e2⟩
        rw [take_snocL hr']
        exact Paired.snoc (Paired.imp' (fun _ _ z => PAt.upd (z.same s3) (s3 _ _ e1)) hp) (PAt.upd ho (s3 _ _ e1))
      refine ⟨_, rfl, .inl ⟨rfl, _, SqL.of e1⟩, ?_⟩
      cases e : (tk r.k && r.b)
      · have ep : parT r = wrS r := by unfold parT; rw [e]; rfl
        rw [e] at fin
        refine ⟨_, rfl, _, rfl, ?_⟩
        refine iteF ?_
        refine ⟨_, rfl, _, rfl, r, false, by rw [ep]; rfl, rok, e.symm, fun o H3 s3 ho => ?_⟩
        exact ⟨l1, _, _, rfl, rfl, s3 _ _ e1, by rw [List.length_map, sizeLine_eq]; omega, fin o H3 s3 ho⟩
      · have ep : parT r = wrS r ++ "?" := by unfold parT; rw [e]; rfl
        rw [e] at fin
        refine ⟨_, rfl, _, rfl, ?_⟩
        refine iteT ?_
        refine ⟨_, rfl, _, rfl, _, rfl, parT r, rfl, by rw [sizeLine_eq]; omega, _, rfl, r, true, ?_, rok, e.symm, fun o H3 s3 ho => ?_⟩
        · have : Txt.slice (parT r) none (some (-1)) = wrS r := sg_ext (slice_to (b := 63) (by rw [ep, sg_app]; rfl))
          rw [show Txt.slice (parT r) none (some (-1)) = wrS r from this]
          rfl
        exact ⟨l1, _, _, rfl, rfl, s3 _ _ e1, by rw [List.length_map, sizeLine_eq]; omega, fin o H3 s3 ho⟩
    · rw [List.getElem?_append_right (by rw [List.length_map]; omega), List.length_map, List.getElem?_map] at hi
      obtain ⟨z, hz, rfl⟩ : ∃ z, bars[i - rows.length]? = some z ∧ V.str (barT z) = y := by
        cases e : bars[i - rows.length]? with
        | none => rw [e] at hi; cases hi
        | some z => rw [e] at hi; exact ⟨z, rfl, by simpa using hi⟩
      have zn := Va.bn z (List.mem_of_getElem? hz)
      have bl := bar_len zn
      have lb : (bars.take (i - rows.length)).length ≤ 60 := by rw [List.length_take]; omega
      refine ⟨_, rfl, rfl, barT z, _, rfl, rfl, _, rfl, ?_⟩
      refine iteB (by rw [starts_one (c := 45) rfl, bar_sg zn]; rfl) ?_
      have ez : Txt.slice (barT z) (some 1) none = z := sg_ext (slice_from (r := [45]) (bar_sg zn))
      refine ⟨_, rfl, .inl ⟨rfl, _, SqL.of e2⟩, _, rfl, _, rfl, barT z, rfl, by rw [sizeLine_eq]; omega, ?_⟩
      rw [show Txt.slice (barT z) (some 1) none = z from ez]
      refine ⟨l2, _, _, rfl, rfl, e2, by rw [List.length_map, sizeLine_eq]; omega, _, _, ps, rfl, same_upd s2 f2 _, by rw [upd_ne nl2.symm]; exact e0, by rw [upd_ne n12]; exact e1, ?_, ?_⟩
      · rw [List.take_of_length_le (show rows.length ≤ i + 1 by omega)]
        rw [List.take_of_length_le (show rows.length ≤ i by omega)] at hp
        exact Paired.imp' (fun _ _ z => PAt.upd z e2) hp
      · rw [upd_same, show i + 1 - rows.length = i - rows.length + 1 by omega, take_snocL hz, List.map_append]
        rfl
  · rintro σ H2 ⟨v3, v4, ps, rfl, s2, e0, e1, hp, e2⟩
    have lw : ((rows.map parT ++ bars.map barT).map V.str).length = rows.length + bars.length := by simp
    rw [lw, List.take_of_length_le (by omega)] at hp
    rw [lw, List.take_of_length_le (by omega)] at e2
    exact ⟨_, rfl, _, rfl, l1, l2, ps, rows, bars, rfl, e1, hp, e2, Va, fun x H3 s3 hF => q x H3 (s2.trans s3) hF⟩
end
end K91

set_option Elab.async false
set_option linter.all false
set_option maxRecDepth 100000
set_option maxHeartbeats 4000000
namespace K91
open PySem L2 PyProof.Rows
structure TxtI (mg : Str → Option Value) : Prop where
  isi : mg "isinstance" = none
  tuple : mg "tuple" = none
  list : mg "list" = none
  all : mg "all" = none
def spIsC (K : PySem.W.Frag) : Sp := fun vs H Q _ => ∃ (a b : Addr) (xs ys : List V) (c : List Item), vs = [.ref a, .ref b] ∧ H a = some (.lst xs) ∧ Paired (Says K T' H 3) xs (c.map itemD) ∧ H b = some (.lst ys) ∧ Paired (Says K T' H 3) ys (c.map itemD) ∧ (∀ it ∈ c, itOk it) ∧ c.length ≤ 30 ∧ ∀ H', Same H H' → Q (.bl true) H'
section
variable {P : Program} {w : World} {K : PySem.W.Frag} {mg : Str → Option Value} {base : Heap} {f : Addr} {fd : FuncData}
theorem scIsC : FnScope ["_law_found", "_law_due", "_law_item", "_law_things"] ["_law_found", "_law_due"] (defScope sIsC) := ⟨rfl, rfl, rfl, by decide +kernel, rfl, by decide +kernel, by decide +kernel⟩
theorem ndLPr : ([Str.ofString "_law_pair"] : List Str).Nodup := by decide +kernel
theorem ok_isC {f1 : Addr} {e1 : FuncData} (F : Fun K "_law_is_call" "_law_is_call" sIsC f fd) (U : TxtI mg) (c1 : Callee P w K mg base 1 "_law_is_number" f1 e1 ["_law_found"] spOneI) : FnOk P w K mg base CX0 2 f fd ["_law_found", "_law_due"] (spIsC K) := by
  refine F.ok scIsC (fun vs H Q E h => ?_) (fun cdv A outer s H vs Q E hr h => ?_)
  · obtain ⟨a, b, xs, ys, c, rfl, _⟩ := h
    rfl
  obtain ⟨a, b, xs, ys, c, rfl, ha, hx, hb, hy, hi, hl, q⟩ := h
  have hr1 : Room 1 _ := hr.mono (by decide)
  have hU := hr.units
  refine ⟨_, pss_cons (ps_if (PW.pt (pw_or (pt_not (pt_val (cB call_isinst U.isi boot_isinstance (ac (pv 0) (ac (pe_bltn (v := .ty "list") rfl U.list PyProof.Rows.boot_list rfl) pa_nil))))) (pw_or1 (pt_cmpR (op_neS hU) (pv 0) (pv 1) (nomark _))))) (pss_one (ps_ret pe_bl)) pss_nil)
    (pss_cons (ps_for PassesOwn.never rfl (pi_list (pv 0)) (pg_name (i := 2) scIsC.nd rfl (Or.inl rfl))
      (pss_cons (ps_if (pt_not (pt_val (cB call_isinstT U.isi boot_isinstance (ac (pv 2) (ac (pe_bltn (v := .ty "tuple") rfl U.tuple PyProof.Rows.boot_tuple rfl) pa_nil))))) (pss_one (ps_ret pe_bl)) pss_nil)
      (pss_cons (ps_set (i := 3) scIsC.nd rfl (Or.inl rfl) (pe_lst (ac (pe_ix ix_tup (pv 2) (pe_un un_neg pe_int) (fun _ _ => rfl)) pa_nil)))
      (pss_cons (ps_if (pt_cmpR op_eq (pe_ix ix_tup (pv 2) pe_int (fun _ _ => rfl)) pe_str (nomark _)) (pss_one (ps_set (i := 3) scIsC.nd rfl (Or.inl rfl) (pe_ix ix_tup (pv 2) pe_int (fun _ _ => rfl)))) pss_nil)
      (pss_cons (ps_if (pt_cmpR op_eq (pe_ix ix_tup (pv 2) pe_int (fun _ _ => rfl)) pe_str (nomark _)) (pss_one (ps_lc (i := 3) [] ["_law_pair"] [none] scIsC.nd rfl (Or.inl rfl) rfl ⟨rfl, rfl, rfl, rfl⟩ (pi_list (pe_ix ix_tup (pv 2) pe_int (fun _ _ => rfl))) (gown_name 0) rfl rfl rfl
        (fun pins fp s H C => ⟨pg_name (i := 0) ndLPr rfl (Or.inl rfl) (.inr rfl), pif_nil, pe_ix (r := rIxT K) ix_tup (pv 0) pe_int (fun _ _ => rfl)⟩))) pss_nil)
      (pss_one (ps_if (pt_not (pt_val (cB (call_allB rfl) U.all boot_all (ac (pe_lc [] ["_law_thing_here"] [none] rfl ⟨rfl, rfl, rfl, rfl⟩ (pi_list (pv 3)) (gown_name 0) rfl rfl rfl
        (fun pins fp s H C => ⟨pg_name (i := 0) ndLTh rfl (Or.inl rfl) (.inr rfl), pif_nil, cF c1 hr1 (ac (pv 0) pa_nil)⟩)) pa_nil)))) (pss_one (ps_ret pe_bl)) pss_nil)))))))
    (pss_one (ps_ret pe_bl))), ?_⟩
  refine ⟨_, rfl, _, _, _, _, rfl, .lst ha, kt_list_list K, _, rfl, ?_⟩
  refine iteF ?_
  refine ⟨_, rfl, _, rfl, a, b, 3, .lst (c.map itemD), T', T', rfl, rfl, by decide, .lst trivial ha hx, .lst trivial hb hy, _, rfl, ?_⟩
  refine iteF ?_
  refine ⟨_, rfl, a, rfl, ⟨_, SqL.of ha⟩, for_list (K := K) (a := a) (xs := xs) (fun i σ H2 => ∃ v2 v3, σ = [some (.ref a), some (.ref b), v2, v3] ∧ Same H H2)
    ⟨_, _, rfl, Same.refl _⟩ (fun i σ H2 _ ⟨_, _, _, s2⟩ => SqL.of (s2 _ _ ha)) ?_ ?_⟩
  · rintro i y σ H2 hy' ⟨v2, v3, rfl, s2⟩
    obtain ⟨it, hit, hsy⟩ := item_get hx hy'
    have hio := hi it (List.mem_of_getElem? hit)
    have hsy := hsy.same s2
    cases it with
    | one t =>
      obtain ⟨p, rfl, hp⟩ := item_one hsy
      refine ⟨_, rfl, p, _, _, _, rfl, hp, kt_tuple_tuple K, _, rfl, ?_⟩
      refine iteF ?_
      refine ⟨_, rfl, _, rfl, p, _, _, .int t, rfl, rfl, hp, rfl, (by show 1 ≤ sizeLine; decide), fun l3 h3 => ?_⟩
      have s3 := same_new h3 (.lst [.int t])
      have g3 : upd H2 l3 (.lst [.int t]) l3 = some (.lst ([t].map V.int)) := upd_same
      show tSeq _ _ _ _ (upd H2 l3 (.lst [.int t]))
      generalize upd H2 l3 (.lst [.int t]) = H3 at s3 g3 ⊢
      have hp := Same.sqT s3 hp
      refine ⟨_, rfl, p, _, _, .str "one", rfl, rfl, hp, rfl, rfl, _, rfl, ?_⟩
      refine dF (by decide +kernel) ?_
      refine ⟨_, rfl, p, _, _, .str "one", rfl, rfl, hp, rfl, rfl, _, rfl, ?_⟩
      refine dF (by decide +kernel) ?_
      refine ⟨_, rfl, l3, rfl, ⟨_, SqL.of g3⟩, fun D2 hD2 => ?_⟩
      refine lc_strs [t] (fun x t => x = .int t) (fun _ => .bl true) hD2 (by show 1 ≤ 500; decide) (SqL.of g3) (paired_self fun _ => rfl) ?_ ?_
      · rintro x t H' C S sH rfl hm hC
        exact ⟨fun _ => ⟨_, rfl, t, rfl, hC H' (Same.refl _)⟩, fun z => absurd z (by decide)⟩
      intro H5 s5 hD5
      refine ⟨D2, ([t]).map fun _ => true, rfl, SqL.of (by rw [hD5, List.map_map]; rfl), _, rfl, ?_⟩
      rw [show (([t]).map fun _ => true).all id = true by simp]
      refine iteF ?_
      exact ⟨_, _, rfl, (s2.trans s3).trans s5⟩
    | named n t =>
      obtain ⟨p, rfl, hp⟩ := item_named hsy
      refine ⟨_, rfl, p, _, _, _, rfl, hp, kt_tuple_tuple K, _, rfl, ?_⟩
      refine iteF ?_
      refine ⟨_, rfl, _, rfl, p, _, _, .int t, rfl, rfl, hp, rfl, (by show 1 ≤ sizeLine; decide), fun l3 h3 => ?_⟩
      have s3 := same_new h3 (.lst [.int t])
      have g3 : upd H2 l3 (.lst [.int t]) l3 = some (.lst ([t].map V.int)) := upd_same
      show tSeq _ _ _ _ (upd H2 l3 (.lst [.int t]))
      generalize upd H2 l3 (.lst [.int t]) = H3 at s3 g3 ⊢
      have hp := Same.sqT s3 hp
      refine ⟨_, rfl, p, _, _, .str "named", rfl, rfl, hp, rfl, rfl, _, rfl, ?_⟩
      refine dF (by decide +kernel) ?_
      refine ⟨_, rfl, p, _, _, .str "named", rfl, rfl, hp, rfl, rfl, _, rfl, ?_⟩
      refine dF (by decide +kernel) ?_
      refine ⟨_, rfl, l3, rfl, ⟨_, SqL.of g3⟩, fun D2 hD2 => ?_⟩
      refine lc_strs [t] (fun x t => x = .int t) (fun _ => .bl true) hD2 (by show 1 ≤ 500; decide) (SqL.of g3) (paired_self fun _ => rfl) ?_ ?_
      · rintro x t H' C S sH rfl hm hC
        exact ⟨fun _ => ⟨_, rfl, t, rfl, hC H' (Same.refl _)⟩, fun z => absurd z (by decide)⟩
      intro H5 s5 hD5
      refine ⟨D2, ([t]).map fun _ => true, rfl, SqL.of (by rw [hD5, List.map_map]; rfl), _, rfl, ?_⟩
      rw [show (([t]).map fun _ => true).all id = true by simp]
      refine iteF ?_
      exact ⟨_, _, rfl, (s2.trans s3).trans s5⟩
    | row ts =>
      obtain ⟨p, l, rfl, hp, _, hl'⟩ := item_row hsy
      have l30 : ts.length ≤ 30 := hio.2.2.1
      refine ⟨_, rfl, p, _, _, _, rfl, hp, kt_tuple_tuple K, _, rfl, ?_⟩
      refine iteF ?_
      refine ⟨_, rfl, _, rfl, p, _, _, .ref l, rfl, rfl, hp, rfl, (by show 1 ≤ sizeLine; decide), fun l3 h3 => ?_⟩
      have s3 := same_new h3 (.lst [.ref l])
      show tSeq _ _ _ _ (upd H2 l3 (.lst [.ref l]))
      generalize upd H2 l3 (.lst [.ref l]) = H3 at s3 ⊢
      have hp := Same.sqT s3 hp
      have hl' := s3 _ _ hl'
      refine ⟨_, rfl, p, _, _, .str "row", rfl, rfl, hp, rfl, rfl, _, rfl, ?_⟩
      refine dT rfl ?_
      refine ⟨_, rfl, p, _, _, .ref l, rfl, rfl, hp, rfl, ?_⟩
      refine ⟨_, rfl, p, _, _, .str "row", rfl, rfl, hp, rfl, rfl, _, rfl, ?_⟩
      refine dF (by decide +kernel) ?_
      refine ⟨_, rfl, l, rfl, ⟨_, SqL.of hl'⟩, fun D2 hD2 => ?_⟩
      refine lc_strs ts (fun x t => x = .int t) (fun _ => .bl true) hD2 (by omega) (SqL.of hl') (paired_self fun _ => rfl) ?_ ?_
      · rintro x t H' C S sH rfl hm hC
        exact ⟨fun _ => ⟨_, rfl, t, rfl, hC H' (Same.refl _)⟩, fun z => absurd z (by decide)⟩
      intro H5 s5 hD5
      refine ⟨D2, (ts).map fun _ => true, rfl, SqL.of (by rw [hD5, List.map_map]; rfl), _, rfl, ?_⟩
      rw [show ((ts).map fun _ => true).all id = true by simp]
      refine iteF ?_
      exact ⟨_, _, rfl, (s2.trans s3).trans s5⟩
    | book ps =>
      obtain ⟨p, l, zs, rfl, hp, _, hl', hz⟩ := item_book hsy
      have l30 : ps.length ≤ 30 := hio.2.2.2
      refine ⟨_, rfl, p, _, _, _, rfl, hp, kt_tuple_tuple K, _, rfl, ?_⟩
      refine iteF ?_
      refine ⟨_, rfl, _, rfl, p, _, _, .ref l, rfl, rfl, hp, rfl, (by show 1 ≤ sizeLine; decide), fun l3 h3 => ?_⟩
      have s3 := same_new h3 (.lst [.ref l])
      show tSeq _ _ _ _ (upd H2 l3 (.lst [.ref l]))
      generalize upd H2 l3 (.lst [.ref l]) = H3 at s3 ⊢
      have hp := Same.sqT s3 hp
      have hl' := s3 _ _ hl'
      refine ⟨_, rfl, p, _, _, .str "book", rfl, rfl, hp, rfl, rfl, _, rfl, ?_⟩
      refine dF (by decide +kernel) ?_
      refine ⟨_, rfl, p, _, _, .str "book", rfl, rfl, hp, rfl, rfl, _, rfl, ?_⟩
      refine dT rfl ?_
      refine ⟨_, rfl, p, _, _, .ref l, rfl, rfl, hp, rfl, l, rfl, ⟨_, SqL.of hl'⟩, fun D hD => ?_⟩
      refine lc_strs ps (fun x (p : Str × Int) => ∃ b, x = .ref b ∧ SqT K H3 b [.str p.1, .int p.2]) (fun p => .int p.2) hD (by omega) (SqL.of hl') (pairs_tup (Paired.imp' (fun _ _ z => z.same s3) hz)) ?_ ?_
      · rintro x p' H' C S sH ⟨b', rfl, hb'⟩ hm hC
        exact ⟨fun _ => ⟨_, rfl, b', _, _, .int p'.2, rfl, rfl, Same.sqT sH hb', rfl, hC H' (Same.refl _)⟩, fun z => absurd z (by decide)⟩
      intro H4 s4 hD4
      have hD4 : H4 D = some (.lst ((ps.map (·.2)).map V.int)) := by rw [hD4, List.map_map]; rfl
      refine ⟨_, rfl, D, rfl, ⟨_, SqL.of hD4⟩, fun D2 hD2 => ?_⟩
      refine lc_strs (ps.map (·.2)) (fun x t => x = .int t) (fun _ => .bl true) hD2 (by rw [List.length_map]; omega) (SqL.of hD4) (paired_self (f := V.int) fun _ => rfl) ?_ ?_
      · rintro x t H' C S sH rfl hm hC
        exact ⟨fun _ => ⟨_, rfl, t, rfl, hC H' (Same.refl _)⟩, fun z => absurd z (by decide)⟩
      intro H5 s5 hD5
      refine ⟨D2, ((ps.map (·.2))).map fun _ => true, rfl, SqL.of (by rw [hD5]; simp [Function.comp_def]), _, rfl, ?_⟩
      rw [show (((ps.map (·.2))).map fun _ => true).all id = true by simp]
      refine iteF ?_
      exact ⟨_, _, rfl, (s2.trans (s3.trans s4)).trans s5⟩
  · rintro σ H2 ⟨v2, v3, rfl, s2⟩
    exact q H2 s2
end
end K91

set_option Elab.async false
set_option linter.all false
set_option maxRecDepth 100000
set_option maxHeartbeats 4000000
namespace K91
open PySem L2 PyProof.Rows
theorem th_ok (c : Int) : thOk (thingF c) := by
  have eN : (10 : Int) ^ (60 : Int).toNat = ((10 ^ 60 : Nat) : Int) := by decide +kernel
  have big : 100 ≤ 10 ^ 60 := by decide +kernel
  unfold thOk thingF
  rw [eN]
  generalize (10 ^ 60 : Nat) = N at *
  split
  · omega
  · have h1 := Int.emod_nonneg (c / 2) (show (2 * (N : Int) - 1) ≠ 0 by omega)
    have h2 := Int.emod_lt_of_pos (c / 2) (show (0 : Int) < 2 * (N : Int) - 1 by omega)
    omega
theorem nm_in {zs : List Str} (h : 0 < zs.length) (hz : ∀ z ∈ zs, nameB z = true) (x : Int) : nameB (nmAt zs x) = true := hz _ (nm_at h x).2
theorem item_ok {zs : List Str} (h : 0 < zs.length) (hz : ∀ z ∈ zs, nameB z = true) (c : Int) : itOk (itemF zs c) ∧ (itT (itemF zs c)).length ≤ 4 ∧ (itP (itemF zs c)).length ≤ 3 := by
  have h5 : (c / 8 % 5).toNat ≤ 4 := by omega
  have h4 : (c / 8 % 4).toNat ≤ 3 := by omega
  unfold itemF
  split
  · refine ⟨⟨fun t ht => ?_, fun p hp => (by cases hp), by show 1 ≤ 30; decide, by show 0 ≤ 30; decide⟩, by show 1 ≤ 4; decide, by show 0 ≤ 3; decide⟩
    rw [List.mem_singleton.mp ht]; exact th_ok _
  split
  · have lr : (rowF (c / 8)).length ≤ 4 := by unfold rowF; rw [List.length_map, List.length_range]; exact h5
    refine ⟨⟨fun t ht => ?_, fun p hp => (by cases hp), ?_, by show 0 ≤ 30; decide⟩, lr, by show 0 ≤ 3; decide⟩
    · obtain ⟨k, _, rfl⟩ := List.mem_map.mp (show t ∈ rowF (c / 8) from ht); exact th_ok _
    · show (rowF (c / 8)).length ≤ 30; omega
  split
  · have lr : (bookF zs (c / 8)).length ≤ 3 := by unfold bookF namesF; rw [List.length_map, List.length_map, List.length_range]; exact h4
    refine ⟨⟨fun t ht => (by cases ht), fun p hp => ?_, by show 0 ≤ 30; decide, ?_⟩, by show 0 ≤ 4; decide, lr⟩
    · obtain ⟨z, hz', rfl⟩ := List.mem_map.mp (show p ∈ bookF zs (c / 8) from hp)
      obtain ⟨k, _, rfl⟩ := List.mem_map.mp hz'
      exact ⟨nm_in h hz _, th_ok _⟩
    · show (bookF zs (c / 8)).length ≤ 30; omega
  · refine ⟨⟨fun t ht => (by cases ht), fun p hp => ?_, by show 0 ≤ 30; decide, by show 1 ≤ 30; decide⟩, by show 0 ≤ 4; decide, by show 1 ≤ 3; decide⟩
    rw [List.mem_singleton.mp hp]; exact ⟨nm_in h hz _, th_ok _⟩
def rowG (n : Int) : List Int := (List.range 30).map fun (k : Nat) => thingF (n / 8 + (k : Int) * (k : Int) * (k : Int))
def handG (ns : List Int) (zs : List Str) : List Item := if V.int (ns.getD 2 0 % 8) = V.int 3 then ((cutI ns 23 38).map (itemF zs)).take 6 ++ [.row (rowG (ns.getD 2 0))] else (cutI ns 23 38).map (itemF zs)
theorem flat_le {α : Type} {b : Nat} : ∀ (l : List (List α)), (∀ x ∈ l, x.length ≤ b) → l.flatten.length ≤ b * l.length
  | [], _ => Nat.le_refl _
  | x :: l, h => by
    rw [List.flatten_cons, List.length_append, List.length_cons, Nat.mul_succ]
    have := flat_le l fun y hy => h y (List.mem_cons_of_mem _ hy)
    have := h x List.mem_cons_self
    omega
theorem hand_ok (ns : List Int) {zs : List Str} (h0 : 0 < zs.length) (hz : ∀ z ∈ zs, nameB z = true) : (∀ it ∈ handG ns zs, itOk it) ∧ (handG ns zs).length ≤ 30 ∧ (laidT (handG ns zs)).length ≤ 60 ∧ (laidP (handG ns zs)).length ≤ 60 := by
  have l15 := (cut_i ns 23 38).2
  have hI : ∀ (cs : List Int), (∀ it ∈ cs.map (itemF zs), itOk it) ∧ (laidT (cs.map (itemF zs))).length ≤ 4 * cs.length ∧ (laidP (cs.map (itemF zs))).length ≤ 3 * cs.length := fun cs => by
    refine ⟨fun it hit => by obtain ⟨c, _, rfl⟩ := List.mem_map.mp hit; exact (item_ok h0 hz c).1, ?_⟩
    unfold laidT laidP
    refine ⟨Nat.le_trans (flat_le (b := 4) _ fun x hx => ?_) (by simp), Nat.le_trans (flat_le (b := 3) _ fun x hx => ?_) (by simp)⟩
    · rw [List.map_map] at hx
      obtain ⟨c, _, rfl⟩ := List.mem_map.mp hx
      exact (item_ok h0 hz c).2.1
    · rw [List.map_map] at hx
      obtain ⟨c, _, rfl⟩ := List.mem_map.mp hx
      exact (item_ok h0 hz c).2.2
  unfold handG
  split
  · rw [← List.map_take]
    have h := hI ((cutI ns 23 38).take 6)
    have lr : (rowG (ns.getD 2 0)).length = 30 := by unfold rowG; rw [List.length_map, List.length_range]
    have e : laidT (((cutI ns 23 38).take 6).map (itemF zs) ++ [.row (rowG (ns.getD 2 0))]) = laidT (((cutI ns 23 38).take 6).map (itemF zs)) ++ rowG (ns.getD 2 0) := by
      unfold laidT
      rw [List.map_append, List.flatten_append]
      simp [itT]
    have e' : laidP (((cutI ns 23 38).take 6).map (itemF zs) ++ [.row (rowG (ns.getD 2 0))]) = laidP (((cutI ns 23 38).take 6).map (itemF zs)) := by
      unfold laidP
      rw [List.map_append, List.flatten_append]
      simp [itP]
    have l6 : ((cutI ns 23 38).take 6).length ≤ 6 := by rw [List.length_take]; omega
    rw [e, e']
    refine ⟨fun it hit => ?_, ?_, by rw [List.length_append, lr]; omega, by omega⟩
    · rcases List.mem_append.mp hit with hit | hit
      · exact h.1 it hit
      · rw [List.mem_singleton.mp hit]
        refine ⟨fun t ht => ?_, fun p hp => (by cases hp), by show (rowG _).length ≤ 30; omega, by show 0 ≤ 30; decide⟩
        obtain ⟨k, _, rfl⟩ := List.mem_map.mp (show t ∈ rowG _ from ht)
        exact th_ok _
    · rw [List.length_append, List.length_map]; show _ + 1 ≤ 30; omega
  · have h := hI (cutI ns 23 38)
    rw [List.length_map]
    exact ⟨h.1, by omega, by omega, by omega⟩
end K91

set_option Elab.async false
set_option linter.all false
set_option maxRecDepth 100000
set_option maxHeartbeats 4000000
namespace K91
open PySem L2 PyProof.Rows
theorem cut_takeN {xs : List V} {n : Nat} : cutV xs none (some (n : Int)) = xs.take n := by
  unfold cutV
  rw [HT.sIx_nat, HT.sIx_none, List.drop_zero, Nat.sub_zero]
  by_cases h : n ≤ xs.length
  · rw [Nat.min_eq_left h]
  · rw [Nat.min_eq_right (by omega), List.take_of_length_le (Nat.le_refl _), List.take_of_length_le (by omega)]
def rowD (r : Rw) : Dt := match r.k with
  | 0 => .tup [.str "seat", .str r.z, .bl r.b] | 1 => .tup [.str "both", .str r.z, .bl r.b] | 2 => .tup [.str "tail", .str r.z] | 3 => .tup [.str "tag", .str r.z, .bl r.b] | _ => .tup [.str "bag", .str r.z]
theorem row_says {K : PySem.W.Frag} {ok : Addr → Prop} {H : Hp} {u : Addr} {r : Rw} {n : Nat} (h : TAt H u r) : Says K ok H (n + 1) (.ref u) (rowD r) := by
  obtain ⟨k, z, b⟩ := r
  unfold TAt at h
  have s := SqT.of (K := K) h
  match k with
  | 0 => exact .tup s (.cons .str (.cons .str (.cons .bl .nil)))
  | 1 => exact .tup s (.cons .str (.cons .str (.cons .bl .nil)))
  | 2 => exact .tup s (.cons .str (.cons .str .nil))
  | 3 => exact .tup s (.cons .str (.cons .str (.cons .bl .nil)))
  | _ + 4 => exact .tup s (.cons .str (.cons .str .nil))
theorem rows_says {K : PySem.W.Frag} {ok : Addr → Prop} {H : Hp} {n : Nat} : ∀ {us : List Addr} {rows : List Rw}, Paired (TAt H) us rows → Paired (Says K ok H (n + 1)) (us.map V.ref) (rows.map rowD)
  | _, _, .nil => .nil
  | _, _, .cons h t => .cons (row_says h) (rows_says t)
theorem strs_says {K : PySem.W.Frag} {ok : Addr → Prop} {H : Hp} {n : Nat} : ∀ (zs : List Str), Paired (Says K ok H n) (zs.map V.str) (zs.map Dt.str)
  | [] => .nil
  | z :: zs => .cons .str (strs_says zs)
theorem form_says {K : PySem.W.Frag} {H : Hp} {t l1 l2 : Addr} {us : List Addr} {rows : List Rw} {bars : List Str} (ht : H t = some (.tup [.ref l1, .ref l2])) (h1 : H l1 = some (.lst (us.map V.ref))) (hu : Paired (TAt H) us rows) (h2 : H l2 = some (.lst (bars.map V.str))) :
    Says K T' H 3 (.ref t) (.tup [.lst (rows.map rowD), .lst (bars.map Dt.str)]) := .tup (SqT.of ht) (.cons (.lst trivial h1 (rows_says hu)) (.cons (.lst trivial h2 (strs_says _)) .nil))
theorem un_ref {c : C5} {H : Hp} : ∀ {vs : List V} {rows : List Rw}, Paired (fun v r => ∃ p, v = .ref p ∧ PAt c H p r) vs rows → ∃ ps, vs = ps.map V.ref ∧ Paired (PAt c H) ps rows
  | _, _, .nil => ⟨[], rfl, .nil⟩
  | _, _, .cons ⟨p, e, h⟩ t => by
    obtain ⟨ps, e2, h2⟩ := un_ref t
    exact ⟨p :: ps, by rw [e, e2]; rfl, .cons h h2⟩
/-- what is left of an item when lists are cleared -/
def Left (K : PySem.W.Frag) (H0 : Hp) (fa : Addr) (H : Hp) (x : V) (it : Item) : Prop := ∃ (b : Addr) (wd : Str) (r : V) (ts : List V), x = .ref b ∧ SqT K H b (.str wd :: r :: ts) ∧ (inV (.str wd) rbL = true → ∃ l zs, r = .ref l ∧ H0 l = none ∧ l ≠ fa ∧ H l = some (.lst zs))
theorem left_of {K : PySem.W.Frag} {H0 H : Hp} {fa : Addr} {x : V} {it : Item} (h : Says K (fun b => H0 b = none ∧ b ≠ fa) H 3 x (itemD it)) : Left K H0 fa H x it := by
  cases it with
  | one t => obtain ⟨b, rfl, hb⟩ := item_one h; exact ⟨b, _, _, _, rfl, hb, fun e => absurd e (by decide +kernel)⟩
  | named n t => obtain ⟨b, rfl, hb⟩ := item_named h; exact ⟨b, _, _, _, rfl, hb, fun e => absurd e (by decide +kernel)⟩
  | row ts => obtain ⟨b, l, rfl, hb, ok, hl⟩ := item_row h; exact ⟨b, _, _, _, rfl, hb, fun _ => ⟨l, _, rfl, ok.1, ok.2, hl⟩⟩
  | book ps => obtain ⟨b, l, ys, rfl, hb, ok, hl, _⟩ := item_book h; exact ⟨b, _, _, _, rfl, hb, fun _ => ⟨l, _, rfl, ok.1, ok.2, hl⟩⟩
theorem Left.upd {K : PySem.W.Frag} {H0 H : Hp} {fa l : Addr} {x : V} {it : Item} {zs : List V} (h : Left K H0 fa H x it) (hl : H l = some (.lst zs)) : Left K H0 fa (upd H l (.lst [])) x it := by
  obtain ⟨b, wd, r, ts, e, hb, k⟩ := h
  refine ⟨b, wd, r, ts, e, sqT_keep (.inr ⟨_, hl⟩) hb, fun i => ?_⟩
  obtain ⟨l', zs', e1, e2, e3, e4⟩ := k i
  by_cases h : l' = l
  · exact ⟨l', [], e1, e2, e3, by rw [h, upd_same]⟩
  · exact ⟨l', zs', e1, e2, e3, by rw [upd_ne h]; exact e4⟩
theorem Left.same {K : PySem.W.Frag} {H0 H H' : Hp} {fa : Addr} {x : V} {it : Item} (h : Left K H0 fa H x it) (s : Same H H') : Left K H0 fa H' x it := by
  obtain ⟨b, wd, r, ts, e, hb, k⟩ := h
  refine ⟨b, wd, r, ts, e, Same.sqT s hb, fun i => ?_⟩
  obtain ⟨l', zs', e1, e2, e3, e4⟩ := k i
  exact ⟨l', zs', e1, e2, e3, s _ _ e4⟩
def spLawB (K : PySem.W.Frag) : Sp := fun vs H Q _ => ∃ (a : Addr) (ns : List Int), vs = [.ref a] ∧ SqL K H a (ns.map V.int) ∧ ns.length ≤ 63 ∧ (∀ m ∈ ns, Builtin.Int.intBits m ≤ 1048576) ∧ ∀ H', Q (.bl true) H'
structure TxtW (mg : Str → Option Value) : Prop where
  isi : mg "isinstance" = none
  str : mg "str" = none
  range : mg "range" = none
section
variable {P : Program} {w : World} {K : PySem.W.Frag} {mg : Str → Option Value} {base : Heap} {f CF : Addr} {fd : FuncData} {c : C5}
theorem scLaw : FnScope ["_law_script", "_law_pool_here", "_law_specs_here", "_law_shut", "_law_items_here", "_law_text", "_law_told", "_law_line", "_law_found", "_law_item"] ["_law_script"] (defScope sLaw) := ⟨rfl, rfl, rfl, by decide +kernel, rfl, by decide +kernel, by decide +kernel⟩
theorem ndO : ([Str.ofString "_law_one"] : List Str).Nodup := by decide +kernel
theorem ok_law {f1 f2 f3 f4 f5 f6 f7 f8 f9 f10 f11 f12 f13 f14 gF gT : Addr} {e1 e2 e3 e4 e5 e6 e7 e8 e9 e10 e11 e12 e13 e14 eF eT : FuncData} (F : Fun K "law" "law" sLaw f fd) (U : TxtW mg) (FK : FC K CF)
    (cN : Callee P w K mg base 1 "_law_nth" f1 e1 ["_law_script", "_law_k"] (spNthD K)) (cPo : Callee P w K mg base 2 "_law_pool" f2 e2 ["_law_cell"] (spPool K)) (cSp : Callee P w K mg base 1 "_law_specs" f3 e3 ["_law_cells", "_law_pool_here"] (spSpecs K)) (cB' : Callee P w K mg base 1 "_law_bars" f4 e4 ["_law_cells", "_law_pool_here", "_law_specs_here"] (spLBars K))
    (cI : Callee P w K mg base 2 "_law_items" f5 e5 ["_law_cells", "_law_pool_here"] (spItems K)) (cT : Callee P w K mg base 1 "_law_thing" f6 e6 ["_law_cell"] spThing) (cFT : Callee P w K mg base 1 "_law_form_text" f7 e7 ["_law_specs_here", "_law_shut"] spFTx) (cSF : Callee P w K mg base 3 "show_form" f8 e8 ["form"] (spShF c CF)) (cP : Callee P w K mg base 5 "parameter_of" f9 e9 ["told"] (spPof K c))
    (mCF : mg "Form" = some (.ref CF)) (MF : Mk K CF gF) (GF : FnOk P w K mg base CX0 3 gF eF ["self", "parameters", "bars"] (spFI c CF)) (bF : Binds K eF ["self", "parameters", "bars"] [])
    (cSC : Callee P w K mg base 4 "show_call" f10 e10 ["call"] (spShC K)) (cCT : Callee P w K mg base 2 "_law_call_text" f11 e11 ["_law_items_here"] (spShC K)) (cRF : Callee P w K mg base 7 "read_form" f12 e12 ["text"] (spRdF c CF)) (mT : Meth K CF "told" gT) (GT : FnOk P w K mg base CX0 3 gT eT ["self"] (spFTold c CF)) (bT : Binds K eT ["self"] [])
    (cIC : Callee P w K mg base 2 "_law_is_call" f13 e13 ["_law_found", "_law_due"] (spIsC K)) (cRC : Callee P w K mg base 4 "read_call" f14 e14 ["text"] (spRdC K)) : FnOk P w K mg base CX0 9 f fd ["_law_script"] (spLawB K) := by
  refine F.ok scLaw (fun vs H Q E h => ?_) (fun cdv A outer s H vs Q E hr h => ?_)
  · obtain ⟨a, ns, rfl, _⟩ := h
    rfl
  obtain ⟨sa, ns, rfl, hS, h63, hbit, q⟩ := h
  have hr1 : Room 1 _ := hr.mono (by decide)
  have hr2 : Room 2 _ := hr.mono (by decide)
  have hr3 : Room 3 _ := hr.mono (by decide)
  have hr4 : Room 4 _ := hr.mono (by decide)
  have hr5 : Room 5 _ := hr.mono (by decide)
  have hr7 : Room 7 _ := hr.mono (by decide)
  have hU := hr.units
  have hu1 := hu_of hr
  refine pss_go (ps_set (i := 1) scLaw.nd rfl (Or.inl rfl) (cF cPo hr2 (ac (cF cN hr1 (ac (pv 0) (ac pe_int pa_nil))) pa_nil))) ?_
  refine ⟨_, rfl, sa, ns, 0, rfl, hS, _, rfl, fun pa zs H2 s2 np hpa zn zb z0 z30 => ?_⟩
  dsimp only [gName]
  refine pss_go (ps_set (i := 2) scLaw.nd rfl (Or.inl rfl) (cF cSp hr1 (ac (pe_slice sl_list (pv 0) (po_some pe_int) (po_some pe_int)) (ac (pv 1) pa_nil)))) ?_
  refine ⟨_, rfl, _, rfl, _, rfl, sa, _, rfl, s2.seq hS, fun ca hca => ?_⟩
  obtain ⟨ec, lc⟩ := cut_i ns 3 23
  rw [show cutV (ns.map V.int) (some 3) (some 23) = (cutI ns 3 23).map V.int from ec]
  have s3 := same_new hca (.lst ((cutI ns 3 23).map V.int))
  refine ⟨_, rfl, ca, pa, _, zs, rfl, SqL.of upd_same, by omega, s3 _ _ hpa, z0, zb, fun la us rows H4 s4 nla hla hu vr => ?_⟩
  have s04 := s2.trans (s3.trans s4)
  have hpa := (s3.trans s4) _ _ hpa
  clear s3 hca
  dsimp only [gName]
  refine pss_go (ps_set (i := 3) scLaw.nd rfl (Or.inl rfl) (cF cB' hr1 (ac (pe_lc ["_law_script"] ["_law_k", "_law_script"] [none, some 0] rfl ⟨rfl, rfl, rfl, rfl⟩ (pi_range1 rfl U.range (ac (pe_op op_mod (cF cN hr1 (ac (pv 0) (ac pe_int pa_nil))) pe_int) pa_nil)) (gown_name 0) rfl rfl rfl
    (fun pins fp s H C => ⟨pg_name (i := 0) ndKS rfl (Or.inl rfl) (.inr rfl), pif_nil, pe_op op_fdiv (cF cN hr1 (ac (pv 1) (ac (pv 0) pa_nil))) pe_int⟩)) (ac (pv 1) (ac (pv 2) pa_nil))))) ?_
  have m5 := Int.emod_lt_of_pos (ns.getD 1 0) (show (0 : Int) < 7 by decide)
  have m70 := Int.emod_nonneg (ns.getD 1 0) (show (7 : Int) ≠ 0 by decide)
  refine ⟨_, rfl, sa, ns, 1, rfl, s04.seq hS, _, _, rfl, rfl, (by show (0 : Int) < 7; decide), ns.getD 1 0 % 7, rfl, by omega, by omega, fun D hD => ?_⟩
  obtain ⟨nn, hnn⟩ : ∃ nn : Nat, (ns.getD 1 0 % 7).toNat = nn := ⟨_, rfl⟩
  rw [hnn]
  have hn5 : nn ≤ 7 := by omega
  refine lc_range (n := nn) (fun j ys H' => Same H4 H' ∧ H' D = some (.lst ys) ∧ ∃ cs : List Int, ys = cs.map V.int ∧ cs.length = j) ⟨same_new hD _, upd_same, [], rfl, rfl⟩ ?_ ?_
  · rintro j ys H' hj ⟨sH, hDy, cs, ey, el⟩
    rw [Int.zero_add]
    refine ⟨fun _ => ⟨_, rfl, _, rfl, sa, ns, j, rfl, (s04.trans sH).seq hS, _, _, rfl, rfl, ⟨by decide, by decide⟩, lcN.mk hj (le1000 (by omega)) hDy (by rw [ey, List.length_map]; omega) ⟨same_upd sH hD _, upd_same, cs ++ [_], by rw [ey, List.map_append]; rfl, by rw [List.length_append, el]; rfl⟩⟩, fun z => absurd z (by decide)⟩
  rintro ys H5 ⟨s5, hD5, cs, ey, el⟩
  rw [ey] at hD5
  refine ⟨_, rfl, _, rfl, D, pa, la, cs, zs, us, rows, rfl, SqL.of hD5, by omega, s5 _ _ hpa, z0, zb, s5 _ _ hla, tats_same s5 hu, vr, fun lb bars H6 s6 nlb hlb V1 => ?_⟩
  have s46 := s5.trans s6
  have s06 := s04.trans s46
  have hpa := s46 _ _ hpa
  have hla := s46 _ _ hla
  have hu := tats_same s46 hu
  have l24 := V1.l24
  have l60 := V1.l60
  have lu : us.length = rows.length := hu.length
  have zl := lt_bits zb
  clear s5 hD5 ey el hD s46 s04 s4 vr
  dsimp only [gName]
  -- the items
  refine pss_go (ps_set (i := 4) scLaw.nd rfl (Or.inl rfl) (cF cI hr2 (ac (pe_slice sl_list (pv 0) (po_some pe_int) (po_some pe_int)) (ac (pv 1) pa_nil)))) ?_
  refine ⟨_, rfl, _, rfl, _, rfl, sa, _, rfl, s06.seq hS, fun ca hca => ?_⟩
  obtain ⟨ec, lc⟩ := cut_i ns 23 38
  rw [show cutV (ns.map V.int) (some 23) (some 38) = (cutI ns 23 38).map V.int from ec]
  have s7 := same_new hca (.lst ((cutI ns 23 38).map V.int))
  refine ⟨_, rfl, ca, pa, cutI ns 23 38, zs, rfl, SqL.of upd_same, by omega, s7 _ _ hpa, z0, zl, fun li xs H8 s8 nr hr' hx => ?_⟩
  have s68 := s7.trans s8
  have s08 := s06.trans s68
  dsimp only [gName]
  obtain ⟨hio, hil, hiT, hiP⟩ := hand_ok ns z0 zb
  refine pss_go (ps_if (pt_cmpR op_eq (pe_op op_mod (cF cN hr1 (ac (pv 0) (ac pe_int pa_nil))) pe_int) pe_int (nomark _)) (pss_one (ps_set (i := 4) scLaw.nd rfl (Or.inl rfl) (pe_op op_cat (pe_slice sl_list (pv 4) po_none (po_some pe_int)) (pe_lst (ac (pe_tup (ac pe_str (ac (pe_lc ["_law_script"] ["_law_k", "_law_script"] [none, some 0] rfl ⟨rfl, rfl, rfl, rfl⟩ (pi_range1 rfl U.range (ac pe_int pa_nil)) (gown_name 0) rfl rfl rfl
    (fun pins fp s H C => ⟨pg_name (i := 0) ndKS rfl (Or.inl rfl) (.inr rfl), pif_nil, cF cT hr1 (ac (pe_op op_add (pe_op op_fdiv (cF cN hr1 (ac (pv 1) (ac pe_int pa_nil))) pe_int) (pe_op op_mul (pe_op op_mul (pv 0) (pv 0)) (pv 0))) pa_nil)⟩)) pa_nil))) pa_nil))))) pss_nil) ?_
  refine seq_via (fun σ' H' => ∃ (li : Addr) (xs : List V), σ' = [some (.ref sa), some (.ref pa), some (.ref la), some (.ref lb), some (.ref li), none, none, none, none, none] ∧ Same H6 H' ∧ H' li = some (.lst xs) ∧ Paired (Says K T' H' 3) xs ((handG ns zs).map itemD)) ?_ (fun key => ?_)
  rotate_left
  · refine ⟨_, rfl, sa, ns, 2, rfl, s08.seq hS, _, _, rfl, rfl, (by show (0 : Int) < 8; decide), rfl, _, rfl, ?_⟩
    by_cases h5 : V.int (ns.getD 2 0 % 8) = V.int 3
    rotate_left
    · refine dF h5 ?_
      refine key _ _ ⟨li, xs, rfl, s68, hr', ?_⟩
      unfold handG
      rw [if_neg h5]
      exact hx
    refine dT h5 ?_
    refine ⟨_, rfl, _, rfl, li, _, rfl, SqL.of hr', fun l3 hl3 => ?_⟩
    rw [show cutV xs none (some 6) = xs.take 6 from cut_takeN (n := 6)]
    have s3 := same_new hl3 (.lst (xs.take 6))
    have g3 : upd H8 l3 (.lst (xs.take 6)) l3 = some (.lst (xs.take 6)) := upd_same
    have s03 := s08.trans s3
    have s63 := s68.trans s3
    have hx3 := Paired.imp' (fun _ _ z => z.same s3) hx
    generalize upd H8 l3 (.lst (xs.take 6)) = H3 at s3 g3 s03 s63 hx3 ⊢
    refine ⟨30, rfl, by decide, by decide, fun D hD => ?_⟩
    refine lc_range (n := 30) (fun j ys H' => Same H3 H' ∧ H' D = some (.lst ys) ∧ ys = ((List.range j).map fun (k : Nat) => thingF (ns.getD 2 0 / 8 + (k : Int) * (k : Int) * (k : Int))).map V.int) ⟨same_new hD _, upd_same, rfl⟩ ?_ ?_
    · rintro j ys H' hj ⟨sH, hDy, ey⟩
      have e0 : (0 : Int) + (j : Int) = (j : Nat) := by omega
      rw [e0]
      have jj : (j : Int) * (j : Int) ≤ 30 * 30 := Int.mul_le_mul (by omega) (by omega) (by omega) (by omega)
      have jp : 0 ≤ (j : Int) * (j : Int) := Int.mul_nonneg (by omega) (by omega)
      refine ⟨fun _ => ⟨_, rfl, sa, ns, 2, rfl, (s03.trans sH).seq hS, _, _, rfl, rfl, ⟨by decide, by decide⟩, _, rfl, _, rfl, _, _, rfl, rfl, .inl ⟨by omega, by omega⟩, _, rfl, _, _, rfl, rfl, .inl ⟨by omega, by omega⟩, _, _, rfl, rfl, _, rfl, lcN.mk hj (le1000 (by omega)) hDy (by rw [ey, List.length_map, List.length_map, List.length_range]; exact Nat.le_refl _) ⟨same_upd sH hD _, upd_same, ?_⟩⟩, fun z => absurd z (by decide)⟩
      rw [ey, List.range_succ, List.map_append, List.map_append]
      rfl
    rintro ys H4 ⟨s4, hDy, ey⟩
    have eD : H4 D = some (.lst ((rowG (ns.getD 2 0)).map V.int)) := by rw [hDy, ey]; rfl
    refine ⟨(by show 2 ≤ sizeLine; decide), fun tp htp => ?_⟩
    have s5 := same_new htp (.tup [.str "row", .ref D])
    refine ⟨(by show 1 ≤ sizeLine; decide), fun l6 hl6 => ?_⟩
    have s6' := same_new hl6 (.lst [.ref tp])
    have s36 := s4.trans (s5.trans s6')
    have lx : (xs.take 6).length ≤ 6 := by rw [List.length_take]; omega
    refine ⟨l3, l6, _, _, rfl, rfl, s36 _ _ g3, upd_same, (by exact le1000 (by show (xs.take 6).length + 1 ≤ 1000; omega)), fun l7 hl7 => ?_⟩
    have s7' := same_new hl7 (.lst (xs.take 6 ++ [.ref tp]))
    have s37 := s36.trans s7'
    have gtp := (s6'.trans s7') _ _ (upd_same (H := H4) (a := tp) (o := .tup [.str "row", .ref D]))
    have gD := (s5.trans (s6'.trans s7')) _ _ eD
    refine key _ _ ⟨l7, _, rfl, s63.trans s37, upd_same, ?_⟩
    unfold handG
    rw [if_pos h5, List.map_append, List.map_take]
    refine Paired.snoc (paired_take 6 (Paired.imp' (fun _ _ z => z.same s37) hx3)) ?_
    exact Says.tup (SqT.of gtp) (.cons .str (.cons (Says.lst trivial gD (ints_says _)) .nil))
  clear hr' hx nr s8 s7 hca s68 s08 xs li H8 lc ec
  rintro σ H8 ⟨li, xs, rfl, s68, hli, hxs⟩
  have s08 := s06.trans s68
  generalize handG ns zs = cc at *
  have hla := s68 _ _ hla
  have hu := tats_same s68 hu
  have hlb := s68 _ _ hlb
  -- the texts
  refine pss_go (ps_set (i := 5) scLaw.nd rfl (Or.inl rfl) (cF cFT hr1 (ac (pv 2) (ac (pv 3) pa_nil)))) ?_
  refine ⟨_, rfl, _, rfl, la, lb, us, rows, bars, rfl, hla, hu, V1.ok, by omega, hlb, V1.bn, by omega, fun H9 s9 => ?_⟩
  dsimp only [gName]
  have hla9 := s9 _ _ hla
  refine pss_go (ps_set (i := 6) scLaw.nd rfl (Or.inl rfl) (cF cSF hr3 (ac (pe_make MF GF hr4 rfl mCF bF .nil pass0 (ac (pe_lc [] ["_law_one"] [none] rfl ⟨rfl, rfl, rfl, rfl⟩ (pi_list (pv 2)) (gown_name 0) rfl rfl rfl
      (fun pins fp s H C => ⟨pg_name (i := 0) ndO rfl (Or.inl rfl) (.inr rfl), pif_nil, cF cP hr5 (ac (pv 0) pa_nil)⟩)) (ac (pv 3) pa_nil))) pa_nil))) ?_
  refine ⟨_, rfl, la, rfl, ⟨_, SqL.of hla9⟩, fun D hD => ?_⟩
  refine lc_objs rows (fun x r => ∃ u, x = .ref u ∧ TAt H9 u r) (fun H v r => ∃ p, v = .ref p ∧ PAt c H p r) (fun s ⟨p, e, h⟩ => ⟨p, e, h.same s⟩) (fun hl ⟨p, e, h⟩ => ⟨p, e, PAt.upd h hl⟩) hD (by omega) (SqL.of hla9) (refs_paired (tats_same s9 hu)) ?_ ?_
  · rintro x r H' C S sH ⟨u, rfl, tu⟩ hm _ hC
    have rk := V1.ok r hm
    exact ⟨fun _ => ⟨_, rfl, u, r.k, .str r.z, r.b, rfl, rk.1, sH _ _ tu, .inl ⟨r.z, rfl, nameB_ok rk.2⟩, rk.2, fun o dx H3 s3 ho => hC _ _ s3 ⟨o, rfl, dx, ho⟩⟩, fun z => absurd z (by decide)⟩
  intro vs H10 s10 hD10 hvs
  obtain ⟨ps, rfl, hp10⟩ := un_ref hvs
  refine ⟨_, rfl, ?_⟩
  intro x dx hx hdx hne
  have smk : Same H10 (upd (upd H10 dx (.own x)) x (.ins CF dx [])) := same_make0 hx hdx
  have hx1 : upd (upd H10 dx (.own x)) x (.ins CF dx []) x = some (.ins CF dx []) := upd_same
  generalize upd (upd H10 dx (.own x)) x (.ins CF dx []) = H11 at smk hx1 ⊢
  refine ⟨x, D, dx, .ref lb, ps, rows, bars, rfl, hx1, smk _ _ hD10, pats_same smk hp10, .inr ⟨lb, rfl, (s9.trans (s10.trans smk)) _ _ hlb⟩, V1, fun H12 sx F6 L6 => ?_⟩
  refine ⟨rfl, ?_⟩
  have s812 : Same H8 H12 := fun b' u e => sx b' u (smk _ _ (s10 _ _ (s9 _ _ e))) (ne_of_none ((s9.trans s10) _ _ e) hx)
  have hF : FormOk c CF H12 x rows bars := ⟨let ⟨dx, fs, lr, lb, ld, ps, h1, h2, h3, h4, h5, h6, _, _⟩ := F6; ⟨dx, fs, lr, lb, ld, ps, h1, h2, h3, h4, h5, h6⟩, by omega, by omega, V1.ok⟩
  refine ⟨x, rows, bars, rfl, hF, V1.bn, fun H13 s13 => ?_⟩
  clear smk hx1 hD10 hp10 sx F6 L6 hD hvs
  have s813 := s812.trans s13
  dsimp only [gName]
  refine pss_go (ps_set (i := 7) scLaw.nd rfl (Or.inl rfl) (cF cSC hr4 (ac (pv 4) pa_nil))) ?_
  refine ⟨_, rfl, li, cc, rfl, ⟨xs, SqL.of (s813 _ _ hli), Paired.imp' (fun _ _ z => z.same s813) hxs⟩, hio, hil, fun H14 s14 => ?_⟩
  have s814 := s813.trans s14
  have hla := s814 _ _ hla
  have hu := tats_same s814 hu
  have hlb := s814 _ _ hlb
  have hli := s814 _ _ hli
  have hxs := Paired.imp' (fun _ _ z => z.same s814) hxs
  clear s813 s812 s9 s10 s13 s14 hF hla9 s814
  dsimp only [gName]
  have hcall : CallAt K H14 li cc := ⟨xs, SqL.of hli, hxs⟩
  refine pss_go (ps_if (PW.pt (pw_or (pt_not (pt_val (cB call_isinst U.isi boot_isinstance (ac (pv 6) (ac (pe_bltn (v := .ty "str") rfl U.str PyProof.Rows.boot_str rfl) pa_nil))))) (pw_or (pt_cmpR op_ne (pv 6) (pv 5) (nomark _)) (pw_or (pt_not (pt_val (cB call_isinst U.isi boot_isinstance (ac (pv 7) (ac (pe_bltn (v := .ty "str") rfl U.str PyProof.Rows.boot_str rfl) pa_nil))))) (pw_or1 (pt_cmpR op_ne (pv 7) (cF cCT hr2 (ac (pv 4) pa_nil)) (nomark _))))))) (pss_one (ps_ret pe_bl)) pss_nil) ?_
  refine ⟨_, rfl, _, _, _, _, rfl, .str _, kt_str_str K, _, rfl, ?_⟩
  refine iteF ?_
  refine ⟨_, rfl, _, rfl, rfl, _, rfl, ?_⟩
  rw [show (!decide (V.str (formT rows bars) = V.str (formT rows bars))) = false by simp]
  refine iteF ?_
  refine ⟨_, rfl, _, _, _, _, rfl, .str _, kt_str_str K, _, rfl, ?_⟩
  refine iteF ?_
  refine ⟨_, rfl, _, rfl, li, cc, rfl, hcall, hio, hil, fun H15 s15 => ⟨rfl, _, rfl, ?_⟩⟩
  rw [show (!decide (V.str (callT cc) = V.str (callT cc))) = false by simp]
  refine iteF ?_
  have hla := s15 _ _ hla
  have hu := tats_same s15 hu
  have hlb := s15 _ _ hlb
  have hli := s15 _ _ hli
  have hxs := Paired.imp' (fun _ _ z => z.same s15) hxs
  clear hcall
  refine pss_go (ps_if (PW.pt (pw_or (pt_cmpR (op_neS hU) (pe_meth0 (cF cRF hr7 (ac (pv 5) pa_nil)) FK.cl mT GT hr3 bT .nil pass0) (pe_tup (ac (pv 2) (ac (pv 3) pa_nil))) (nomark _)) (pw_or1 (pt_not (pt_val (cF cIC hr2 (ac (cF cRC hr4 (ac (pv 7) pa_nil)) (ac (pv 4) pa_nil)))))))) (pss_one (ps_ret pe_bl)) pss_nil) ?_
  refine ⟨_, rfl, rows, bars, rfl, V1, fun x2 H16 s16 hF2 => ?_⟩
  obtain ⟨dx2, fs2, lr2, lb2, ld2, ps2, k1, k2, k3, k4, k5, k6⟩ := hF2.at_
  refine ⟨x2, dx2, fs2, rfl, k1, k2.no _ (by decide +kernel), x2, rows, bars, rfl, V1.ok, by omega, hF2.at_, fun tt l1 l2 us2 H17 s17 n1 n2 n12 ht h1' hu2 h2' => ?_⟩
  refine ⟨_, rfl, _, rfl, (by show 2 ≤ sizeLine; decide), fun tp htp => ?_⟩
  have s18 := same_new htp (.tup [.ref la, .ref lb])
  have g18 : upd H17 tp (.tup [.ref la, .ref lb]) tp = some (.tup [.ref la, .ref lb]) := upd_same
  generalize upd H17 tp (.tup [.ref la, .ref lb]) = H18 at s18 g18 ⊢
  have s1518 := s16.trans (s17.trans s18)
  refine ⟨tt, tp, 2, .tup [.lst (rows.map rowD), .lst (bars.map Dt.str)], T', T', rfl, rfl, by decide, form_says (s18 _ _ ht) (s18 _ _ h1') (tats_same s18 hu2) (s18 _ _ h2'), form_says g18 (s1518 _ _ hla) (tats_same s1518 hu) (s1518 _ _ hlb), _, rfl, ?_⟩
  refine iteF ?_
  have hli := s1518 _ _ hli
  have hxs := Paired.imp' (fun _ _ z => z.same s1518) hxs
  clear s18 g18 s16 s17 hF2 k1 k2 k3 k4 k5 k6 n1 n2 n12 ht h1' hu2 h2' htp hla hlb hu
  refine ⟨_, rfl, cc, rfl, hio, hil, hiT, hiP, fun fa ys H19 s19 nfa hfa hys => ?_⟩
  refine ⟨_, rfl, fa, li, ys, xs, cc, rfl, hfa, Paired.imp' (fun _ _ z => z.frame (fun _ _ z => z) fun b _ hb z => ⟨trivial, z⟩) hys, s19 _ _ hli, Paired.imp' (fun _ _ z => z.same s19) hxs, hio, hil, fun H20 s20 => ⟨_, rfl, ?_⟩⟩
  refine iteF ?_
  have s1820 := s19.trans s20
  have hli := s1820 _ _ hli
  have hxs := Paired.imp' (fun _ _ z => z.same s1820) hxs
  clear nfa hfa hys s1820 s19 s20 fa ys
  refine pss_go (ps_set (i := 8) scLaw.nd rfl (Or.inl rfl) (cF cRC hr4 (ac (pv 7) pa_nil))) ?_
  refine ⟨_, rfl, cc, rfl, hio, hil, hiT, hiP, fun fa ys H21 s21 nfa hfa hys => ?_⟩
  dsimp only [gName]
  have hys' : Paired (Left K H20 fa H21) ys cc := Paired.imp' (fun _ _ z => left_of z) (paired_unmap hys)
  refine pss_go (ps_for PassesOwn.never rfl (pi_list (pv 8)) (pg_name (i := 9) scLaw.nd rfl (Or.inl rfl))
    (pss_one (ps_if (pt_cmpR op_in_seq (pe_ix ix_tup (pv 9) pe_int (fun _ _ => rfl)) (pe_tup (ac pe_str (ac pe_str pa_nil))) (by with_unfolding_all rfl)) (pss_one (ps_expr (pe_bm0 PySem.F.plainAttrs_list PySem.F.slot_list_clear PySem.F.type_list_clear mt_clear (pe_ix ix_tup (pv 9) pe_int (fun _ _ => rfl))))) pss_nil))) ?_
  refine ⟨_, rfl, fa, rfl, ⟨_, SqL.of hfa⟩, for_list (K := K) (a := fa) (xs := ys) (fun i σ H2 => ∃ v9, σ = [some (.ref sa), some (.ref pa), some (.ref la), some (.ref lb), some (.ref li), some (.str (formT rows bars)), some (.str (formT rows bars)), some (.str (callT cc)), some (.ref fa), v9] ∧ Same H20 H2 ∧ H2 fa = some (.lst ys) ∧ Paired (Left K H20 fa H2) ys cc)
    ⟨_, rfl, s21, hfa, hys'⟩ (fun i σ H2 _ ⟨_, _, _, h, _⟩ => SqL.of h) ?_ ?_⟩
  · rintro i y σ H2 hy ⟨v9, rfl, s2, hf2, hl2⟩
    obtain ⟨it, hit, b, wd, r, ts, rfl, hb, k⟩ := Paired.get hl2 hy
    refine ⟨_, rfl, b, _, _, .str wd, rfl, rfl, hb, atI_nat (j := 0) rfl, (by show 2 ≤ sizeLine; decide), fun rr hrn => ⟨rr, rbL, rfl, .inr (SqT.of upd_same), rfl, (by decide), _, rfl, ?_⟩⟩
    have s3 := same_new hrn (.tup [.str "row", .str "book"])
    generalize upd H2 rr (.tup [.str "row", .str "book"]) = H3 at s3 ⊢
    have hb := Same.sqT s3 hb
    have hl3 := Paired.imp' (fun _ _ z => Left.same z s3) hl2
    cases e : inV (.str wd) rbL
    · refine iteC (by rw [if_neg (by decide)]) ?_
      exact ⟨_, rfl, s2.trans s3, s3 _ _ hf2, hl3⟩
    · refine iteB (by rw [if_neg (by decide)]) ?_
      obtain ⟨l, zs', rfl, n20, nfa', hl⟩ := k e
      have hl := s3 _ _ hl
      refine ⟨_, rfl, b, _, _, .ref l, rfl, rfl, hb, atI_nat (j := 1) rfl, .inl ⟨rfl, _, SqL.of hl⟩, l, _, rfl, rfl, hl, ?_⟩
      exact ⟨_, rfl, same_upd (s2.trans s3) n20 _, by rw [upd_ne nfa'.symm]; exact s3 _ _ hf2, Paired.imp' (fun _ _ z => Left.upd z hl) hl3⟩
  rintro σ H22 ⟨v9, rfl, s22, hf22, _⟩
  refine pss_go (ps_expr (pe_bm0 PySem.F.plainAttrs_list PySem.F.slot_list_clear PySem.F.type_list_clear mt_clear (pv 8))) ?_
  refine ⟨_, rfl, .inl ⟨rfl, _, SqL.of hf22⟩, fa, _, rfl, rfl, hf22, ?_⟩
  have s23 : Same H20 (upd H22 fa (.lst [])) := same_upd s22 nfa _
  generalize upd H22 fa (.lst []) = H23 at s23 ⊢
  have hli := s23 _ _ hli
  have hxs := Paired.imp' (fun _ _ z => z.same s23) hxs
  refine ⟨_, pss_one (ps_ret (pe_and (cF cIC hr2 (ac (cF cRC hr4 (ac (pv 7) pa_nil)) (ac (pv 4) pa_nil))) (pe_one (pe_cmpR op_eq (cF cSC hr4 (ac (pv 4) pa_nil)) (pv 7) (nomark _))))), ?_⟩
  refine ⟨_, rfl, cc, rfl, hio, hil, hiT, hiP, fun fb ws H24 s24 nfb hfb hws => ?_⟩
  refine ⟨_, rfl, fb, li, ws, xs, cc, rfl, hfb, Paired.imp' (fun _ _ z => z.frame (fun _ _ z => z) fun b _ hb z => ⟨trivial, z⟩) hws, s24 _ _ hli, Paired.imp' (fun _ _ z => z.same s24) hxs, hio, hil, fun H25 s25 => ⟨_, rfl, ?_⟩⟩
  have s45 := s24.trans s25
  refine iteT ?_
  refine ⟨_, rfl, li, cc, rfl, ⟨xs, SqL.of (s45 _ _ hli), Paired.imp' (fun _ _ z => z.same s45) hxs⟩, hio, hil, fun H26 s26 => ⟨_, rfl, rfl, ?_⟩⟩
  rw [decide_eq_true rfl]
  exact q H26
end
end K91

set_option Elab.async false
def PySem.W.Fast.tw1932546319078564042 : Unit := ()
def PySem.W.Fast.tw14331712345648870995 : Unit := ()
def PySem.W.Fast.tw9774136826686974800 : Unit := ()
def PySem.W.Fast.tw11310753867850788865 : Unit := ()
def PySem.W.Fast.tw9429953433683442774 : Unit := ()
def PySem.W.Fast.tw6339569604219304593 : Unit := ()
def PySem.W.Fast.tw2633286398940423003 : Unit := ()
def PySem.W.Fast.tw7800370853201714287 : Unit := ()
def PySem.W.Fast.tw7299408540933052904 : Unit := ()
def PySem.W.Fast.tw4820643235485282425 : Unit := ()
def PySem.W.Fast.tw12344470435021985263 : Unit := ()
def PySem.W.Fast.tw12623189773878991408 : Unit := ()
def PySem.W.Fast.tw17207476039752649999 : Unit := ()
def PySem.W.Fast.tw14691335461894112877 : Unit := ()
def PySem.W.Fast.tw11490649972689440837 : Unit := ()
def PySem.W.Fast.tw9603754665777646834 : Unit := ()
def PySem.W.Fast.tw17853076234355164159 : Unit := ()
def PySem.W.Fast.tw9729211223980209584 : Unit := ()
def PySem.W.Fast.tw4387347185429913455 : Unit := ()
def PySem.W.Fast.tw5168218201007960503 : Unit := ()
def PySem.W.Fast.tw17376976648896596939 : Unit := ()
def PySem.W.Fast.tw13756621071638266468 : Unit := ()
def PySem.W.Fast.tw17465783764141802984 : Unit := ()
def PySem.W.Fast.tw14768786174763827530 : Unit := ()
def PySem.W.Fast.tw569325401899400536 : Unit := ()
def PySem.W.Fast.tw5177962251529092458 : Unit := ()
def PySem.W.Fast.tw7947659359863695714 : Unit := ()
def PySem.W.Fast.tw1061203293483590561 : Unit := ()
def PySem.W.Fast.tw16713313335405913642 : Unit := ()
def PySem.W.Fast.tw8034683363334502332 : Unit := ()
def PySem.W.Fast.tw17200798106021306896 : Unit := ()
def PySem.W.Fast.tw6509062003603571421 : Unit := ()
def PySem.W.Fast.tw1406352374174735375 : Unit := ()
def PySem.W.Fast.tw3542824040792068605 : Unit := ()
def PySem.W.Fast.tw10969538366020696509 : Unit := ()
def PySem.W.Fast.tw7202368663335525457 : Unit := ()
def PySem.W.Fast.tw2550901434295988347 : Unit := ()
def PySem.W.Fast.tw16111714632487702753 : Unit := ()
def PySem.W.Fast.tw7420174395074437840 : Unit := ()
def PySem.W.Fast.tw16969203901460209501 : Unit := ()
def PySem.W.Fast.tw17754614110059233678 : Unit := ()
def PySem.W.Fast.tw11486185291471733116 : Unit := ()
def PySem.W.Fast.tw9280711159186356303 : Unit := ()
def PySem.W.Fast.tw4865815133022680706 : Unit := ()
def PySem.W.Fast.tw10671630622228972572 : Unit := ()
def PySem.W.Fast.tw18260914701823692345 : Unit := ()
def PySem.W.Fast.tw10562790155835795071 : Unit := ()
def PySem.W.Fast.tw2430651198269098198 : Unit := ()
def PySem.W.Fast.tw18279268589375694952 : Unit := ()
def PySem.W.Fast.tw10093589386460055587 : Unit := ()
def PySem.W.Fast.tw6329057669643010962 : Unit := ()
def PySem.W.Fast.tw8496087291046774917 : Unit := ()
def PySem.W.Fast.tw14582538644467356791 : Unit := ()
def PySem.W.Fast.tw14512552325759362062 : Unit := ()
def PySem.W.Fast.tw2183075260767292121 : Unit := ()
def PySem.W.Fast.tw17212049781836380504 : Unit := ()
def PySem.W.Fast.tw15755923285770210839 : Unit := ()
def PySem.W.Fast.tw5949495165080178111 : Unit := ()
def PySem.W.Fast.tw8941712942995613636 : Unit := ()
def PySem.W.Fast.tw4899040025951472332 : Unit := ()
def PySem.W.Fast.tw2081889738180887580 : Unit := ()
def PySem.W.Fast.tw12041470917764750955 : Unit := ()
set_option linter.all false
set_option maxRecDepth 100000
set_option maxHeartbeats 4000000
namespace K91
open PySem L2 PyProof.Rows
theorem ktab_of {w : World} {K : PySem.W.Frag} {Gr : Addr} {es : Array DictEntry} {n : Nat} {t0 t1 t2 t3 t4 : Tok} (hl : K.lookup Gr = some ⟨.type "dict", none, .dict es n, #[]⟩) (hk : PySem.W.KeysLit w.params es.toList) (h0 : PySem.W.nsIn K Gr "seat" = some (some (.int 0 t0))) (h1 : PySem.W.nsIn K Gr "both" = some (some (.int 0 t1))) (h2 : PySem.W.nsIn K Gr "tail" = some (some (.int 1 t2)))
    (h3 : PySem.W.nsIn K Gr "tag" = some (some (.int 2 t3))) (h4 : PySem.W.nsIn K Gr "bag" = some (some (.int 3 t4))) : KTab w K Gr grpV := by
  refine ⟨⟨es, n, hl, hk⟩, fun x v h => ?_⟩
  unfold grpV at h
  by_cases e0 : x = "seat"
  · subst e0; rw [List.lookup_cons_self] at h; cases h; exact ⟨_, h0, _, rfl⟩
  rw [List.lookup_cons, beq_eq_false_iff_ne.mpr e0] at h
  by_cases e1 : x = "both"
  · subst e1; rw [List.lookup_cons_self] at h; cases h; exact ⟨_, h1, _, rfl⟩
  rw [List.lookup_cons, beq_eq_false_iff_ne.mpr e1] at h
  by_cases e2 : x = "tail"
  · subst e2; rw [List.lookup_cons_self] at h; cases h; exact ⟨_, h2, _, rfl⟩
  rw [List.lookup_cons, beq_eq_false_iff_ne.mpr e2] at h
  by_cases e3 : x = "tag"
  · subst e3; rw [List.lookup_cons_self] at h; cases h; exact ⟨_, h3, _, rfl⟩
  rw [List.lookup_cons, beq_eq_false_iff_ne.mpr e3] at h
  by_cases e4 : x = "bag"
  · subst e4; rw [List.lookup_cons_self] at h; cases h; exact ⟨_, h4, _, rfl⟩
  rw [List.lookup_cons, beq_eq_false_iff_ne.mpr e4] at h
  cases h
theorem ktab_En {w : World} {K : PySem.W.Frag} {Gr : Addr} {es : Array DictEntry} {n : Nat} {t0 t1 t2 t3 t4 : Tok} (hl : K.lookup Gr = some ⟨.type "dict", none, .dict es n, #[]⟩) (hk : PySem.W.KeysLit w.params es.toList) (h0 : PySem.W.nsIn K Gr "seat" = some (some (.str "!" t0))) (h1 : PySem.W.nsIn K Gr "both" = some (some (.str "" t1))) (h2 : PySem.W.nsIn K Gr "tail" = some (some (.str ".." t2))) (h3 : PySem.W.nsIn K Gr "tag" = some (some (.str ":" t3))) (h4 : PySem.W.nsIn K Gr "bag" = some (some (.str "::" t4))) : KTab w K Gr endV := by
  refine ⟨⟨es, n, hl, hk⟩, fun x v h => ?_⟩
  unfold endV at h
  by_cases e0 : x = "seat"
  · subst e0; rw [List.lookup_cons_self] at h; cases h; exact ⟨_, h0, _, rfl⟩
  rw [List.lookup_cons, beq_eq_false_iff_ne.mpr e0] at h
  by_cases e1 : x = "both"
  · subst e1; rw [List.lookup_cons_self] at h; cases h; exact ⟨_, h1, _, rfl⟩
  rw [List.lookup_cons, beq_eq_false_iff_ne.mpr e1] at h
  by_cases e2 : x = "tail"
  · subst e2; rw [List.lookup_cons_self] at h; cases h; exact ⟨_, h2, _, rfl⟩
  rw [List.lookup_cons, beq_eq_false_iff_ne.mpr e2] at h
  by_cases e3 : x = "tag"
  · subst e3; rw [List.lookup_cons_self] at h; cases h; exact ⟨_, h3, _, rfl⟩
  rw [List.lookup_cons, beq_eq_false_iff_ne.mpr e3] at h
  by_cases e4 : x = "bag"
  · subst e4; rw [List.lookup_cons_self] at h; cases h; exact ⟨_, h4, _, rfl⟩
  rw [List.lookup_cons, beq_eq_false_iff_ne.mpr e4] at h
  cases h

theorem ktab_So {w : World} {K : PySem.W.Frag} {Gr : Addr} {es : Array DictEntry} {n : Nat} {t0 t1 t2 t3 t4 : Tok} (hl : K.lookup Gr = some ⟨.type "dict", none, .dict es n, #[]⟩) (hk : PySem.W.KeysLit w.params es.toList) (h0 : PySem.W.nsIn K Gr "!" = some (some (.str "seat" t0))) (h1 : PySem.W.nsIn K Gr "" = some (some (.str "both" t1))) (h2 : PySem.W.nsIn K Gr ".." = some (some (.str "tail" t2))) (h3 : PySem.W.nsIn K Gr ":" = some (some (.str "tag" t3))) (h4 : PySem.W.nsIn K Gr "::" = some (some (.str "bag" t4))) : KTab w K Gr soV := by
  refine ⟨⟨es, n, hl, hk⟩, fun x v h => ?_⟩
  unfold soV at h
  by_cases e0 : x = "!"
  · subst e0; rw [List.lookup_cons_self] at h; cases h; exact ⟨_, h0, _, rfl⟩
  rw [List.lookup_cons, beq_eq_false_iff_ne.mpr e0] at h
  by_cases e1 : x = ""
  · subst e1; rw [List.lookup_cons_self] at h; cases h; exact ⟨_, h1, _, rfl⟩
  rw [List.lookup_cons, beq_eq_false_iff_ne.mpr e1] at h
  by_cases e2 : x = ".."
  · subst e2; rw [List.lookup_cons_self] at h; cases h; exact ⟨_, h2, _, rfl⟩
  rw [List.lookup_cons, beq_eq_false_iff_ne.mpr e2] at h
  by_cases e3 : x = ":"
  · subst e3; rw [List.lookup_cons_self] at h; cases h; exact ⟨_, h3, _, rfl⟩
  rw [List.lookup_cons, beq_eq_false_iff_ne.mpr e3] at h
  by_cases e4 : x = "::"
  · subst e4; rw [List.lookup_cons_self] at h; cases h; exact ⟨_, h4, _, rfl⟩
  rw [List.lookup_cons, beq_eq_false_iff_ne.mpr e4] at h
  cases h

theorem all_mk {l : PySem.W.OpenLaw} {w : World} {K : PySem.W.Frag} {h : Heap} {mg : Str → Option Value} {fa D C0 C1 C2 C3 C4 FM f1 f2 f3 f4 f5 f6 f7 f8 f9 f10 f11 f12 f13 f14 f15 f16 f17 f18 f19 f20 f21 f22 f23 f24 f25 f26 f27 f28 f29 f30 f31 f32 f33 f34 f35 f36 f37 f38 f39 f40 f41 f42 f43 f44 f45 f46 f47 f48 f49 f50 f51 f52 f53 f54 : Addr} {e1 e2 e3 e4 e5 e6 e7 e8 e9 e10 e11 e12 e13 e14 e15 e16 e17 e18 e19 e20 e21 e22 e23 e24 e25 e26 e27 e28 e29 e30 e31 e32 e33 e34 e35 e36 e37 e38 e39 e40 e41 e42 e43 e44 e45 e46 e47 e48 e49 e50 e51 e52 e53 e54 : FuncData} {tP tB tO sg Gr LA CE En So : Addr} {tL tN tMP tMB ktP0 ktP1 ktB0 ktB1 ktO0 ktO1 ktO2 ksg0 ksg1 kG0 kG1 kG2 kG3 kG4 tSg tFg tMF tMI tMA tMK kLA0 kLA1 tEn0 tEn1 tEn2 tEn3 tEn4 tSo0 tSo1 tSo2 tSo3 tSo4 : Tok} {odtP odtB odtO odsg odLA : Option Addr} {ntP ntB ntO nsg nG nLA nEn nSo : Nat} {sltP sltB sltO slsg slLA : Array (Option Value)} {esG esEn esSo : Array DictEntry} (X : K.In h) (G : h.Ns mainGlobals mg) (hfa : mg "law" = some (.ref fa))
    (cD : CD K "Parameter" D)
    (cC0 : CD K "Seat" C0)
    (nC0 : PySem.W.findIn K (.ref C0) "word" = some none ∧ PySem.W.findIn K (.ref C0) "name" = some none ∧ PySem.W.findIn K (.ref C0) "may_lack" = some none)
    (cC1 : CD K "Both" C1)
    (nC1 : PySem.W.findIn K (.ref C1) "word" = some none ∧ PySem.W.findIn K (.ref C1) "name" = some none ∧ PySem.W.findIn K (.ref C1) "may_lack" = some none)
    (cC2 : CD K "Tail" C2)
    (nC2 : PySem.W.findIn K (.ref C2) "word" = some none ∧ PySem.W.findIn K (.ref C2) "name" = some none ∧ PySem.W.findIn K (.ref C2) "may_lack" = some none)
    (cC3 : CD K "Tag" C3)
    (nC3 : PySem.W.findIn K (.ref C3) "word" = some none ∧ PySem.W.findIn K (.ref C3) "name" = some none ∧ PySem.W.findIn K (.ref C3) "may_lack" = some none)
    (cC4 : CD K "Bag" C4)
    (nC4 : PySem.W.findIn K (.ref C4) "word" = some none ∧ PySem.W.findIn K (.ref C4) "name" = some none ∧ PySem.W.findIn K (.ref C4) "may_lack" = some none)
    (cFM : CD K "Form" FM)
    (nFM : PySem.W.findIn K (.ref FM) "row" = some none ∧ PySem.W.findIn K (.ref FM) "bar_names" = some none ∧ PySem.W.findIn K (.ref FM) "place_count" = some none ∧ PySem.W.findIn K (.ref FM) "tail_number" = some none ∧ PySem.W.findIn K (.ref FM) "bag_number" = some none ∧ PySem.W.findIn K (.ref FM) "doors" = some none)
    (g1 : GD K "is_name" sIs f1 e1)
    (g2 : MD K D "__init__" "Parameter.__init__" sPInit f2 e2)
    (g3 : MD K D "free" "Parameter.free" sFree f3 e3)
    (g4 : MD K D "by_place" "Parameter.by_place" sByPlace f4 e4)
    (g5 : MD K D "by_name" "Parameter.by_name" sByName f5 e5)
    (g6 : MD K D "takes_one" "Parameter.takes_one" sTakes f6 e6)
    (g7 : MD K D "told" "Parameter.told" sTold f7 e7)
    (g8 : DD K C0 "__init__" "Seat.__init__" sSeat f8 e8 [Value.bool false])
    (g9 : DD K C1 "__init__" "Both.__init__" sBoth f9 e9 [Value.bool false])
    (g10 : MD K C2 "__init__" "Tail.__init__" sTail f10 e10)
    (g11 : DD K C3 "__init__" "Tag.__init__" sTag f11 e11 [Value.bool false])
    (g12 : MD K C4 "__init__" "Bag.__init__" sBag f12 e12)
    (g13 : DD K FM "__init__" "Form.__init__" sFInit f13 e13 [Value.none])
    (g14 : MD K FM "keep" "Form.keep" sKeep f14 e14)
    (g15 : MD K FM "parameters" "Form.parameters" sFPars f15 e15)
    (g16 : MD K FM "bars" "Form.bars" sFBars f16 e16)
    (g17 : MD K FM "told" "Form.told" sFTold f17 e17)
    (g18 : GD K "parameter_of" sPof f18 e18)
    (g19 : GD K "refuse_too_many" sRMany f19 e19)
    (g20 : GD K "refuse_bad_order" sROrder f20 e20)
    (g21 : GD K "refuse_bars_without_name" sRBars f21 e21)
    (g22 : GD K "refuse_twice" sRTwice f22 e22)
    (g23 : GD K "number_of_word" sNumW f23 e23)
    (g24 : GD K "laid" sLaid f24 e24)
    (g25 : GD K "show_form" sShF f25 e25)
    (g26 : GD K "show_parameter" sShP f26 e26)
    (g27 : GD K "show_call" sShC f27 e27)
    (g28 : GD K "show_item" sShI f28 e28)
    (g29 : GD K "show_things" sShT f29 e29)
    (g30 : GD K "show_pairs" sShPs f30 e30)
    (g31 : GD K "show_pair" sShPr f31 e31)
    (g32 : GD K "read_form" sRdF f32 e32)
    (g33 : GD K "pieces" sPcs f33 e33)
    (g34 : GD K "read_parameter" sRdP f34 e34)
    (g35 : GD K "form_of" sFO f35 e35)
    (g36 : GD K "read_call" sRdC f36 e36)
    (g37 : GD K "read_item" sRdI f37 e37)
    (g38 : GD K "words_within" sWW f38 e38)
    (g39 : GD K "read_pair" sRdPr f39 e39)
    (g40 : GD K "read_number" sRdN f40 e40)
    (g41 : GD K "refuse_too_great" sRGr f41 e41)
    (g42 : GD K "_law_nth" sNth f42 e42)
    (g43 : GD K "_law_is_number" sNum f43 e43)
    (g44 : GD K "_law_mix" sMix f44 e44)
    (g45 : GD K "_law_pool" sPool f45 e45)
    (g46 : GD K "_law_specs" sSpecs f46 e46)
    (g47 : GD K "_law_bars" sBars f47 e47)
    (g48 : GD K "_law_thing" sThing f48 e48)
    (g49 : GD K "_law_items" sItems f49 e49)
    (g50 : GD K "_law_form_text" sFText f50 e50)
    (g51 : GD K "_law_item_text" sIText f51 e51)
    (g52 : GD K "_law_call_text" sCText f52 e52)
    (g53 : GD K "_law_is_call" sIsC f53 e53)
    (g54 : GD K "law" sLaw f54 e54)
    (zisinstance : PySem.W.nsIn K mainGlobals "isinstance" = some none)
    (zstr : PySem.W.nsIn K mainGlobals "str" = some none)
    (zbool : PySem.W.nsIn K mainGlobals "bool" = some none)
    (zlen : PySem.W.nsIn K mainGlobals "len" = some none)
    (zall : PySem.W.nsIn K mainGlobals "all" = some none)
    (zrange : PySem.W.nsIn K mainGlobals "range" = some none)
    (zlist : PySem.W.nsIn K mainGlobals "list" = some none)
    (zenumerate : PySem.W.nsIn K mainGlobals "enumerate" = some none)
    (zset : PySem.W.nsIn K mainGlobals "set" = some none)
    (zint : PySem.W.nsIn K mainGlobals "int" = some none)
    (ztuple : PySem.W.nsIn K mainGlobals "tuple" = some none)
    (zzip : PySem.W.nsIn K mainGlobals "zip" = some none)
    (zmax : PySem.W.nsIn K mainGlobals "max" = some none)
    (gL : PySem.W.nsIn K mainGlobals "LETTERS" = some (some (.str letters tL)))
    (gN : PySem.W.nsIn K mainGlobals "LONGEST" = some (some (.int 8 tN)))
    (gMP : PySem.W.nsIn K mainGlobals "MOST_PARAMETERS" = some (some (.int 24 tMP)))
    (gMB : PySem.W.nsIn K mainGlobals "MOST_BARS" = some (some (.int 60 tMB)))
    (ytP : PySem.W.nsIn K mainGlobals "BY_PLACE" = some (some (.ref tP)))
    (utP : K.lookup tP = some ⟨.type "tuple", odtP, .seq #[.str "seat" ktP0, .str "both" ktP1] ntP, sltP⟩)
    (ytB : PySem.W.nsIn K mainGlobals "BY_NAME" = some (some (.ref tB)))
    (utB : K.lookup tB = some ⟨.type "tuple", odtB, .seq #[.str "both" ktB0, .str "tag" ktB1] ntB, sltB⟩)
    (ytO : PySem.W.nsIn K mainGlobals "OF_ONE_THING" = some (some (.ref tO)))
    (utO : K.lookup tO = some ⟨.type "tuple", odtO, .seq #[.str "seat" ktO0, .str "both" ktO1, .str "tag" ktO2] ntO, sltO⟩)
    (ysg : PySem.W.nsIn K mainGlobals "SINGLE_GROUPS" = some (some (.ref sg)))
    (usg : K.lookup sg = some ⟨.type "tuple", odsg, .seq #[.int 1 ksg0, .int 3 ksg1] nsg, slsg⟩)
    (yGr : PySem.W.nsIn K mainGlobals "GROUPS" = some (some (.ref Gr)))
    (lGr : K.lookup Gr = some ⟨.type "dict", none, .dict esG nG, #[]⟩)
    (kGr : PySem.W.KeysLit w.params esG.toList)
    (eG0 : PySem.W.nsIn K Gr "seat" = some (some (.int 0 kG0)))
    (eG1 : PySem.W.nsIn K Gr "both" = some (some (.int 0 kG1)))
    (eG2 : PySem.W.nsIn K Gr "tail" = some (some (.int 1 kG2)))
    (eG3 : PySem.W.nsIn K Gr "tag" = some (some (.int 2 kG3)))
    (eG4 : PySem.W.nsIn K Gr "bag" = some (some (.int 3 kG4)))
    (dga : ClsFn K D "__init__" f2)
    (h0 : PySem.W.findIn K (.ref C0) "free" = some (some (.ref f3)) ∧ PySem.W.findIn K (.ref C0) "by_place" = some (some (.ref f4)) ∧ PySem.W.findIn K (.ref C0) "by_name" = some (some (.ref f5)) ∧ PySem.W.findIn K (.ref C0) "takes_one" = some (some (.ref f6)) ∧ PySem.W.findIn K (.ref C0) "told" = some (some (.ref f7)))
    (h1 : PySem.W.findIn K (.ref C1) "free" = some (some (.ref f3)) ∧ PySem.W.findIn K (.ref C1) "by_place" = some (some (.ref f4)) ∧ PySem.W.findIn K (.ref C1) "by_name" = some (some (.ref f5)) ∧ PySem.W.findIn K (.ref C1) "takes_one" = some (some (.ref f6)) ∧ PySem.W.findIn K (.ref C1) "told" = some (some (.ref f7)))
    (h2 : PySem.W.findIn K (.ref C2) "free" = some (some (.ref f3)) ∧ PySem.W.findIn K (.ref C2) "by_place" = some (some (.ref f4)) ∧ PySem.W.findIn K (.ref C2) "by_name" = some (some (.ref f5)) ∧ PySem.W.findIn K (.ref C2) "takes_one" = some (some (.ref f6)) ∧ PySem.W.findIn K (.ref C2) "told" = some (some (.ref f7)))
    (h3 : PySem.W.findIn K (.ref C3) "free" = some (some (.ref f3)) ∧ PySem.W.findIn K (.ref C3) "by_place" = some (some (.ref f4)) ∧ PySem.W.findIn K (.ref C3) "by_name" = some (some (.ref f5)) ∧ PySem.W.findIn K (.ref C3) "takes_one" = some (some (.ref f6)) ∧ PySem.W.findIn K (.ref C3) "told" = some (some (.ref f7)))
    (h4 : PySem.W.findIn K (.ref C4) "free" = some (some (.ref f3)) ∧ PySem.W.findIn K (.ref C4) "by_place" = some (some (.ref f4)) ∧ PySem.W.findIn K (.ref C4) "by_name" = some (some (.ref f5)) ∧ PySem.W.findIn K (.ref C4) "takes_one" = some (some (.ref f6)) ∧ PySem.W.findIn K (.ref C4) "told" = some (some (.ref f7)))
    (gSg : PySem.W.nsIn K mainGlobals "SIGNS_OF_ENDS" = some (some (.str sgn tSg)))
    (gFg : PySem.W.nsIn K mainGlobals "FIGURES" = some (some (.str figs tFg)))
    (gMF : PySem.W.nsIn K mainGlobals "MOST_FIGURES" = some (some (.int 60 tMF)))
    (gMI : PySem.W.nsIn K mainGlobals "MOST_ITEMS" = some (some (.int 30 tMI)))
    (gMA : PySem.W.nsIn K mainGlobals "MOST_IN_AN_ITEM" = some (some (.int 30 tMA)))
    (gMK : PySem.W.nsIn K mainGlobals "MOST_OF_A_KIND" = some (some (.int 60 tMK)))
    (yLA : PySem.W.nsIn K mainGlobals "OF_ALL_LEFT_OVER" = some (some (.ref LA)))
    (uLA : K.lookup LA = some ⟨.type "tuple", odLA, .seq #[.str "tail" kLA0, .str "bag" kLA1] nLA, slLA⟩)
    (yCE : PySem.W.nsIn K mainGlobals "CallError" = some (some (.ref CE)))
    (yEn : PySem.W.nsIn K mainGlobals "ENDS" = some (some (.ref En)))
    (lEn : K.lookup En = some ⟨.type "dict", none, .dict esEn nEn, #[]⟩)
    (kEn : PySem.W.KeysLit w.params esEn.toList)
    (eEn0 : PySem.W.nsIn K En "seat" = some (some (.str "!" tEn0)))
    (eEn1 : PySem.W.nsIn K En "both" = some (some (.str "" tEn1)))
    (eEn2 : PySem.W.nsIn K En "tail" = some (some (.str ".." tEn2)))
    (eEn3 : PySem.W.nsIn K En "tag" = some (some (.str ":" tEn3)))
    (eEn4 : PySem.W.nsIn K En "bag" = some (some (.str "::" tEn4)))
    (ySo : PySem.W.nsIn K mainGlobals "SORTS" = some (some (.ref So)))
    (lSo : K.lookup So = some ⟨.type "dict", none, .dict esSo nSo, #[]⟩)
    (kSo : PySem.W.KeysLit w.params esSo.toList)
    (eSo0 : PySem.W.nsIn K So "!" = some (some (.str "seat" tSo0)))
    (eSo1 : PySem.W.nsIn K So "" = some (some (.str "both" tSo1)))
    (eSo2 : PySem.W.nsIn K So ".." = some (some (.str "tail" tSo2)))
    (eSo3 : PySem.W.nsIn K So ":" = some (some (.str "tag" tSo3)))
    (eSo4 : PySem.W.nsIn K So "::" = some (some (.str "bag" tSo4)))
    (sySo : (So == sysModules) = false)
    : ∃ fd : FuncData, (∀ (s : Shared) (v : Value), BindsTo s fd ⟨[v], []⟩ [("_law_script", v)]) ∧ ∀ base : Heap, K.In base → base.Ns mainGlobals mg → FnOk l.prog w K mg base CX0 9 fa fd ["_law_script"] (spLawB K) := by
  have e := hfa.symm.trans (PySem.W.mg_of X G g54.a)
  cases e
  have no : ∀ {x : Str}, PySem.W.nsIn K mainGlobals x = some none → mg x = none := fun z => PySem.W.mg_none_of X G z
  have T : Txt1 K mg := ⟨no zisinstance, no zstr, no zbool, no zlen, no zall, no zrange, ⟨tL, PySem.W.mg_of X G gL⟩, ⟨tN, PySem.W.mg_of X G gN⟩, kt_NoneType_str K, kt_int_str K, kt_bool_str K, kt_list_str K, kt_tuple_str K, kt_dict_str K, kt_str_str K, kt_bool_bool K⟩
  have Wd : Wds K mg tP tB tO := ⟨PySem.W.mg_of X G ytP, PySem.W.mg_of X G ytB, PySem.W.mg_of X G ytO, fun H => .inr ⟨_, _, _, utP, rfl, rfl, (by show 2 ≤ sizeLine; decide), .cons ⟨_, rfl⟩ (.cons ⟨_, rfl⟩ (.nil))⟩, fun H => .inr ⟨_, _, _, utB, rfl, rfl, (by show 2 ≤ sizeLine; decide), .cons ⟨_, rfl⟩ (.cons ⟨_, rfl⟩ (.nil))⟩, fun H => .inr ⟨_, _, _, utO, rfl, rfl, (by show 3 ≤ sizeLine; decide), .cons ⟨_, rfl⟩ (.cons ⟨_, rfl⟩ (.cons ⟨_, rfl⟩ (.nil)))⟩⟩
  have TF : TxtF w K mg Gr sg := ⟨no zlen, no zenumerate, no zlist, no zset, ⟨tMP, PySem.W.mg_of X G gMP⟩, ⟨tMB, PySem.W.mg_of X G gMB⟩, PySem.W.mg_of X G yGr, ktab_of lGr kGr eG0 eG1 eG2 eG3 eG4, PySem.W.mg_of X G ysg, fun H => .inr ⟨_, _, _, usg, rfl, rfl, (by show 2 ≤ sizeLine; decide), .cons ⟨_, rfl⟩ (.cons ⟨_, rfl⟩ .nil)⟩⟩
  have pc0 : PC K ⟨f3, f4, f5, f6, f7⟩ C0 := ⟨cC0.c, nC0.1, nC0.2.1, nC0.2.2, ⟨h0.1, g3.m.fn, g3.F.kp⟩, ⟨h0.2.1, g4.m.fn, g4.F.kp⟩, ⟨h0.2.2.1, g5.m.fn, g5.F.kp⟩, ⟨h0.2.2.2.1, g6.m.fn, g6.F.kp⟩, ⟨h0.2.2.2.2, g7.m.fn, g7.F.kp⟩⟩
  have pc1 : PC K ⟨f3, f4, f5, f6, f7⟩ C1 := ⟨cC1.c, nC1.1, nC1.2.1, nC1.2.2, ⟨h1.1, g3.m.fn, g3.F.kp⟩, ⟨h1.2.1, g4.m.fn, g4.F.kp⟩, ⟨h1.2.2.1, g5.m.fn, g5.F.kp⟩, ⟨h1.2.2.2.1, g6.m.fn, g6.F.kp⟩, ⟨h1.2.2.2.2, g7.m.fn, g7.F.kp⟩⟩
  have pc2 : PC K ⟨f3, f4, f5, f6, f7⟩ C2 := ⟨cC2.c, nC2.1, nC2.2.1, nC2.2.2, ⟨h2.1, g3.m.fn, g3.F.kp⟩, ⟨h2.2.1, g4.m.fn, g4.F.kp⟩, ⟨h2.2.2.1, g5.m.fn, g5.F.kp⟩, ⟨h2.2.2.2.1, g6.m.fn, g6.F.kp⟩, ⟨h2.2.2.2.2, g7.m.fn, g7.F.kp⟩⟩
  have pc3 : PC K ⟨f3, f4, f5, f6, f7⟩ C3 := ⟨cC3.c, nC3.1, nC3.2.1, nC3.2.2, ⟨h3.1, g3.m.fn, g3.F.kp⟩, ⟨h3.2.1, g4.m.fn, g4.F.kp⟩, ⟨h3.2.2.1, g5.m.fn, g5.F.kp⟩, ⟨h3.2.2.2.1, g6.m.fn, g6.F.kp⟩, ⟨h3.2.2.2.2, g7.m.fn, g7.F.kp⟩⟩
  have pc4 : PC K ⟨f3, f4, f5, f6, f7⟩ C4 := ⟨cC4.c, nC4.1, nC4.2.1, nC4.2.2, ⟨h4.1, g3.m.fn, g3.F.kp⟩, ⟨h4.2.1, g4.m.fn, g4.F.kp⟩, ⟨h4.2.2.1, g5.m.fn, g5.F.kp⟩, ⟨h4.2.2.2.1, g6.m.fn, g6.F.kp⟩, ⟨h4.2.2.2.2, g7.m.fn, g7.F.kp⟩⟩
  have PP : Pcs K ⟨f3, f4, f5, f6, f7⟩ ⟨C0, C1, C2, C3, C4⟩ := fun k hk => by
    rcases lt5 hk with rfl | rfl | rfl | rfl | rfl
    · exact pc0
    · exact pc1
    · exact pc2
    · exact pc3
    · exact pc4
  have FK : FC K FM := ⟨cFM.c, nFM.1, nFM.2.1, nFM.2.2.1, nFM.2.2.2.1, nFM.2.2.2.2.1, nFM.2.2.2.2.2⟩
  have UL : TxtL mg := ⟨no zisinstance, no zint, no zlen, no zrange, no zlist, no zzip, no zmax⟩
  have UE : TxtE w K mg En := ⟨PySem.W.mg_of X G yEn, ktab_En lEn kEn eEn0 eEn1 eEn2 eEn3 eEn4⟩
  have UR : TxtR w K mg So LA CE := ⟨no zlen, ⟨tSg, PySem.W.mg_of X G gSg⟩, PySem.W.mg_of X G ySo, ktab_So lSo kSo eSo0 eSo1 eSo2 eSo3 eSo4, sySo, PySem.W.mg_of X G yLA, fun H => .inr ⟨_, _, _, uLA, rfl, rfl, (by show 2 ≤ sizeLine; decide), .cons ⟨_, rfl⟩ (.cons ⟨_, rfl⟩ (.nil))⟩, PySem.W.mg_of X G yCE⟩
  have UN : TxtN mg := ⟨no zlen, no zall, no zint, ⟨tMF, PySem.W.mg_of X G gMF⟩, ⟨tFg, PySem.W.mg_of X G gFg⟩⟩
  have UG : TxtG mg := ⟨no zlen, ⟨tMI, PySem.W.mg_of X G gMI⟩, ⟨tMA, PySem.W.mg_of X G gMA⟩, ⟨tMK, PySem.W.mg_of X G gMK⟩⟩
  refine ⟨_, g54.law, fun base KB GB => ?_⟩
  have B : TB l.prog w K mg base := ⟨fun e => PySem.W.mg_of X G e⟩
  have cI := g1.c1 B (ok_is g1.F T)
  have GP : FnOk l.prog w K mg base CX0 2 f2 _ ["self", "word", "name", "may_lack"] (spP K ⟨f3, f4, f5, f6, f7⟩) := ok_pinit g2.F cI
  have mD := PySem.W.mg_of X G cD.a
  have UC : Ctors l.prog w K mg base ⟨C0, C1, C2, C3, C4⟩ f8 f9 f10 f11 f12 _ _ _ _ _ := ⟨⟨⟨cC0.ms, g8.m.at_, g8.m.fn, cC0.kc⟩, ok_seat g8.F pc0 dga mD GP g2.F.b4, PySem.W.mg_of X G cC0.a, g8.b0⟩, ⟨⟨cC1.ms, g9.m.at_, g9.m.fn, cC1.kc⟩, ok_both g9.F pc1 dga mD GP g2.F.b4, PySem.W.mg_of X G cC1.a, g9.b0⟩, ⟨⟨cC2.ms, g10.m.at_, g10.m.fn, cC2.kc⟩, ok_tail g10.F pc2 dga mD GP g2.F.b4, PySem.W.mg_of X G cC2.a, g10.F.b2⟩, ⟨⟨cC3.ms, g11.m.at_, g11.m.fn, cC3.kc⟩, ok_tag g11.F pc3 dga mD GP g2.F.b4, PySem.W.mg_of X G cC3.a, g11.b0⟩, ⟨⟨cC4.ms, g12.m.at_, g12.m.fn, cC4.kc⟩, ok_bag g12.F pc4 dga mD GP g2.F.b4, PySem.W.mg_of X G cC4.a, g12.F.b2⟩⟩
  have GF : FnOk l.prog w K mg base CX0 1 f3 _ ["self"] (spFree K ⟨f3, f4, f5, f6, f7⟩) := ok_free g3.F
  have GQ : FnOk l.prog w K mg base CX0 1 f4 _ ["self"] (spIn K ⟨f3, f4, f5, f6, f7⟩ bpL) := ok_by_place g4.F Wd
  have GN : FnOk l.prog w K mg base CX0 1 f5 _ ["self"] (spIn K ⟨f3, f4, f5, f6, f7⟩ bnL) := ok_by_name g5.F Wd
  have cM1 := g19.c2 B (ok_many g19.F TF)
  have cM2 := g20.c1 B (ok_order g20.F TF PP)
  have cM3 := g21.c1 B (ok_rbars g21.F cI)
  have cM4 := g22.c2 B (ok_twice g22.F TF PP GN g5.F.b1)
  have cW := g23.c2 B (ok_numw g23.F TF PP)
  have GK := ok_keep g14.F TF PP FK cW GQ g4.F.b1 GN g5.F.b1
  have GI := ok_finit g13.F FK g14.m cM1 cM2 cM3 cM4 GK (g14.F.b3)
  have Gpa : FnOk l.prog w K mg base CX0 1 f15 _ ["self"] (spPars ⟨C0, C1, C2, C3, C4⟩ FM) := ok_fpars g15.F TF FK
  have Gba : FnOk l.prog w K mg base CX0 1 f16 _ ["self"] (spBars ⟨C0, C1, C2, C3, C4⟩ FM) := ok_fbars g16.F TF FK
  have GTk : FnOk l.prog w K mg base CX0 1 f6 _ ["self"] (spIn K ⟨f3, f4, f5, f6, f7⟩ otL) := ok_takes_one g6.F Wd
  have GO : FnOk l.prog w K mg base CX0 2 f7 _ ["self"] (spTold K ⟨f3, f4, f5, f6, f7⟩) := ok_told g7.F GTk g6.F.b1
  have GFT : FnOk l.prog w K mg base CX0 3 f17 _ ["self"] (spFTold ⟨C0, C1, C2, C3, C4⟩ FM) := ok_ftold g17.F TF FK PP GO g7.F.b1
  have cL := g24.c1 B (ok_laid g24.F)
  have cPf := g18.c1 B (ok_pof g18.F UC)
  have cShP := g26.c1 B (ok_shP g26.F UE PP GTk g6.F.b1 GF g3.F.b1)
  have cShF := g25.c1 B (ok_shF g25.F FK cShP g15.m Gpa (g15.F.b1) g16.m Gba (g16.F.b1))
  have cShPr := g31.c2 B (ok_shPr g31.F)
  have cShPs := g30.c1 B (ok_shPs g30.F cShPr)
  have cShT := g29.c1 B (ok_shT g29.F ⟨no zstr⟩)
  have cShI := g28.c1 B (ok_shI g28.F ⟨no zstr⟩ cShPr cShPs cShT)
  have cShC := g27.c1 B (ok_shC g27.F cShI)
  have cPcs := g33.c1 B (ok_pcs g33.F T)
  have cRdN := g40.c1 B (ok_rdN g40.F UN)
  have cRdPr := g39.c1 B (ok_rdPr g39.F cI cRdN)
  have cWW := g38.c1 B (ok_ww g38.F)
  have cRdI := g37.c1 B (ok_rdI g37.F cWW cRdN cRdPr)
  have cRGr := g41.c1 B (ok_rGr g41.F UG cL)
  have cRdC := g36.c1 B (ok_rdC g36.F cPcs cRdI cRGr)
  have cRdP := g34.c2 B (ok_rdP g34.F UR cI cPf)
  have cFO := g35.c2 B (ok_fo g35.F UR (PySem.W.mg_of X G cFM.a) ⟨cFM.ms, g13.m.at_, g13.m.fn, cFM.kc⟩ GI g13.b0)
  have cRdF := g32.c1 B (ok_rdF g32.F cPcs cRdP cFO)
  have cN := g42.c2 B (ok_nthD g42.F UL)
  have cNu := g43.c1 B (ok_num g43.F UL)
  have cMx := g44.c2 B (ok_mix g44.F)
  have cPo := g45.c1 B (ok_pool g45.F UL cMx)
  have cSp := g46.c2 B (ok_specs g46.F UL)
  have cBa := g47.c3 B (ok_lbars g47.F UL)
  have cTh := g48.c1 B (ok_thing g48.F)
  have cIt := g49.c2 B (ok_items g49.F UL cTh)
  have cFT := g50.c2 B (ok_fText g50.F (no zlen))
  have cIT := g51.c1 B (ok_iText g51.F ⟨no zstr⟩)
  have cCT := g52.c1 B (ok_cText g52.F cIT)
  have cIC := g53.c2 B (ok_isC g53.F ⟨no zisinstance, no ztuple, no zlist, no zall⟩ cNu)
  exact ok_law g54.F ⟨no zisinstance, no zstr, no zrange⟩ FK cN cPo cSp cBa cIt cTh cFT cShF cPf (PySem.W.mg_of X G cFM.a) ⟨cFM.ms, g13.m.at_, g13.m.fn, cFM.kc⟩ GI g13.b0 cShC cCT cRdF g17.m GFT (g17.F.b1) cIC cRdC
theorem walk {l : PySem.W.OpenLaw} {q : Program} {loose : List Str} {XP : (Str → Option Value) → Heap → Prop} {YP : World → Heap → Prop} {d : DefRec} {K : Params → PySem.W.Frag} (hn : l.most = some 63) (hdf : d.params.defaults = [])
    (hY : ∀ (w : World) (h : Heap), YP w h → (K w.params).In h)
    (F : ∀ (w : World) (mg : Str → Option Value) (fa : Addr) (h : Heap), (K w.params).In h → h.Ns mainGlobals mg → mg d.name = some (.ref fa) →
      ∃ fd : FuncData, (∀ (s : Shared) (u : Value), BindsTo s fd ⟨[u], []⟩ [("_law_script", u)]) ∧ ∀ base : Heap, (K w.params).In base → base.Ns mainGlobals mg → FnOk l.prog w (K w.params) mg base CX0 9 fa fd ["_law_script"] (spLawB (K w.params))) :
    PySem.W.WalkO q loose XP YP l.row.toRowW d [] (fun f vs => PySem.call f vs) :=
  L2.walk_ofB (n := 63) (k := 9) (x := "_law_script") (CX := fun _ => CX0) (sp := fun w => spLawB (K w.params)) hn (by decide) hdf ⟨rfl, by decide, by decide⟩ hY F (fun _ _ a ns hl hb _ hS => ⟨a, ns, rfl, hS, hl, hb, fun _ => rfl⟩) fun _ _ _ _ _ z => z
end K91
open PySem PySem.W PyProof.Rows
set_option maxRecDepth 100000 in
set_option maxHeartbeats 0 in
theorem PySem.Challenge.cw_callbinds_k91_texts_there_and_back_holds : PySem.Challenge.rw_callbinds_k91_texts_there_and_back.Holds := by
  w_on; o_law; k_head; (case hw => w_witness2)
  k_fill
  refine K91.walk (l := PySem.Challenge.rw_callbinds_k91_texts_there_and_back) rfl rfl (fun w h Y => PySem.W.kIn_of Y) ?F
  case F =>
    intro w mg fa h KX G hmg
    refine' K91.all_mk KX G hmg ?cD ?cC0 ?nC0 ?cC1 ?nC1 ?cC2 ?nC2 ?cC3 ?nC3 ?cC4 ?nC4 ?cFM ?nFM ?g1 ?g2 ?g3 ?g4 ?g5 ?g6 ?g7 ?g8 ?g9 ?g10 ?g11 ?g12 ?g13 ?g14 ?g15 ?g16 ?g17 ?g18 ?g19 ?g20 ?g21 ?g22 ?g23 ?g24 ?g25 ?g26 ?g27 ?g28 ?g29 ?g30 ?g31 ?g32 ?g33 ?g34 ?g35 ?g36 ?g37 ?g38 ?g39 ?g40 ?g41 ?g42 ?g43 ?g44 ?g45 ?g46 ?g47 ?g48 ?g49 ?g50 ?g51 ?g52 ?g53 ?g54 ?zisinstance ?zstr ?zbool ?zlen ?zall ?zrange ?zlist ?zenumerate ?zset ?zint ?ztuple ?zzip ?zmax ?gL ?gN ?gMP ?gMB ?ytP ?utP ?ytB ?utB ?ytO ?utO ?ysg ?usg ?yGr ?lGr ?kGr ?eG0 ?eG1 ?eG2 ?eG3 ?eG4 ?dga ?h0 ?h1 ?h2 ?h3 ?h4 ?gSg ?gFg ?gMF ?gMI ?gMA ?gMK ?yLA ?uLA ?yCE ?yEn ?lEn ?kEn ?eEn0 ?eEn1 ?eEn2 ?eEn3 ?eEn4 ?ySo ?lSo ?kSo ?eSo0 ?eSo1 ?eSo2 ?eSo3 ?eSo4 ?sySo
    (case cD | cC0 => apply L2.cd_mk <;> k_is)
    (case nC0 => exact ⟨by k_is, by k_is, by k_is⟩)
    (case cC1 => apply L2.cd_mk <;> k_is)
    (case nC1 => exact ⟨by k_is, by k_is, by k_is⟩)
    (case cC2 => apply L2.cd_mk <;> k_is)
    (case nC2 => exact ⟨by k_is, by k_is, by k_is⟩)
    (case cC3 => apply L2.cd_mk <;> k_is)
    (case nC3 => exact ⟨by k_is, by k_is, by k_is⟩)
    (case cC4 => apply L2.cd_mk <;> k_is)
    (case nC4 => exact ⟨by k_is, by k_is, by k_is⟩)
    (case cFM => apply L2.cd_mk <;> k_is)
    (case nFM => exact ⟨by k_is, by k_is, by k_is, by k_is, by k_is, by k_is⟩)
    (case g1 => apply L2.gd_mk <;> k_is)
    (case g2 | g3 | g4 | g5 | g6 | g7 => apply L2.md_mk <;> k_is)
    (case g8 | g9 => apply L2.dd_mk <;> k_is)
    (case g10 => apply L2.md_mk <;> k_is)
    (case g11 => apply L2.dd_mk <;> k_is)
    (case g12 => apply L2.md_mk <;> k_is)
    (case g13 => apply L2.dd_mk <;> k_is)
    (case g14 | g15 | g16 | g17 => apply L2.md_mk <;> k_is)
    (case g18 | g19 | g20 | g21 | g22 | g23 | g24 | g25 | g26 | g27 | g28 | g29 | g30 | g31 | g32 | g33 | g34 | g35 | g36 | g37 | g38 | g39 | g40 | g41 | g42 | g43 | g44 | g45 | g46 | g47 | g48 | g49 | g50 | g51 | g52 | g53 | g54 => apply L2.gd_mk <;> k_is)
    (case zisinstance | zstr | zbool | zlen | zall | zrange | zlist | zenumerate | zset | zint | ztuple | zzip | zmax | gL | gN | gMP | gMB | ytP | utP | ytB | utB | ytO | utO | ysg | usg | yGr | lGr => k_is)
    (case kGr => k_keys)
    (case eG0 | eG1 | eG2 | eG3 | eG4 => k_is)
    (case dga => exact ⟨by k_is, by k_is, by k_is, by k_is⟩)
    (case h0 | h1 | h2 | h3 | h4 => exact ⟨by k_is, by k_is, by k_is, by k_is, by k_is⟩)
    (case gSg | gFg | gMF | gMI | gMA | gMK | yLA | uLA | yCE | yEn | lEn => k_is)
    (case kEn => k_keys)
    (case eEn0 | eEn1 | eEn2 | eEn3 | eEn4 | ySo | lSo => k_is)
    (case kSo => k_keys)
    (case eSo0 | eSo1 | eSo2 | eSo3 | eSo4 => k_is)
    (case sySo => rfl)
#print axioms PySem.Challenge.cw_callbinds_k91_texts_there_and_back_holds
