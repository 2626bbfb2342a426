import PyProof.Rows.All
import Wide.All
import OpenK.AllK
import Wide.FinOn
import Lean
import PyProof.EqAt
import PyProof.EqKinds
import PyProof.TupleCall
import KE.KTryMore
import PyProof.ExcAttrAll.ValueError
import KE.KRevIter
import PyProof.SetNew
import PyProof.SetRoads
import PyProof.Rows.SetObj
import PyProof.DictCompW
import PyProof.DictItems
import PyProof.Rows.SetFrom
import PyProof.ListRange
import PyProof.StrBlock2
import KE.RegKIsAll
import KE.RegKTryMore
import PySem.Challenge.RW_callbinds_k65_nothing_left
set_option Elab.async false
set_option linter.all false
set_option maxRecDepth 100000
/-! THE HAND LAYER, for ints, bools, texts, own classes, LISTS and tuples (index, slices, in, append, pop ..), calls, loops. Paste it whole ahead of your own text; what your proof does not reach may be deleted. -/
namespace L2
open PySem PySem.Spec PyProof.Rows

/-- a key: an int or a str -/
abbrev Key := Sum Int Str
def keyIs : Key → Value → Bool
  | .inl k, v => Value.isInt k v
  | .inr x, v => Value.isStrOf x v
def keyH (w : World) : Key → Int
  | .inl k => hashInt k
  | .inr x => hashStr w x
theorem keyIs_shape : ∀ {k : Key} {v : Value}, keyIs k v = true → (∃ i t, k = Sum.inl i ∧ v = Value.int i t) ∨ (∃ x t, k = Sum.inr x ∧ v = Value.str x t)
  | .inl i, v, h => by
    obtain ⟨t, e⟩ := Value.isInt_shape (k := i) (v := v) h
    exact .inl ⟨i, t, rfl, e⟩
  | .inr x, v, h => by
    obtain ⟨t, e⟩ := Value.isStrOf_shape (x := x) (v := v) h
    exact .inr ⟨x, t, rfl, e⟩
theorem keyIs_int (i : Int) (t : Tok) : keyIs (.inl i) (.int i t) = true := by simp [keyIs, Value.isInt]
theorem keyIs_str (x : Str) (t : Tok) : keyIs (.inr x) (.str x t) = true := by simp [keyIs, Value.isStrOf]
theorem key_ll (a b : Int) : decide ((Sum.inl a : Key) = Sum.inl b) = (a == b) := by
  by_cases e : a = b
  · subst e; simp
  · have h : ¬ (Sum.inl a : Key) = Sum.inl b := fun q => e (Sum.inl.inj q)
    rw [decide_eq_false h]
    exact (beq_eq_false_iff_ne.mpr e).symm
theorem key_rr (a b : Str) : decide ((Sum.inr a : Key) = Sum.inr b) = decide (a = b) := by
  by_cases e : a = b
  · subst e; simp
  · have h : ¬ (Sum.inr a : Key) = Sum.inr b := fun q => e (Sum.inr.inj q)
    rw [decide_eq_false h, decide_eq_false e]
theorem key_lr (a : Int) (b : Str) : decide ((Sum.inl a : Key) = Sum.inr b) = false := decide_eq_false (fun q => nomatch q)
theorem key_rl (a : Str) (b : Int) : decide ((Sum.inr a : Key) = Sum.inl b) = false := decide_eq_false (fun q => nomatch q)

def mixKind (prog : Program) (w : World) : PySem.KeyKind prog w Key where
  is := keyIs
  hash := keyH w
  inj := fun v a b ha hb => by
    rcases keyIs_shape ha with ⟨i, t, rfl, rfl⟩ | ⟨x, t, rfl, rfl⟩
    · rcases keyIs_shape hb with ⟨j, u, rfl, e⟩ | ⟨y, u, rfl, e⟩
      · injection e with e1 _; rw [e1]
      · exact nomatch e
    · rcases keyIs_shape hb with ⟨j, u, rfl, e⟩ | ⟨y, u, rfl, e⟩
      · exact nomatch e
      · injection e with e1 _; rw [e1]
  byValue := fun k v h => by
    rcases keyIs_shape h with ⟨i, t, rfl, rfl⟩ | ⟨x, t, rfl, rfl⟩ <;> rfl
  pyHash := fun hv h => by
    rcases keyIs_shape hv with ⟨i, t, rfl, rfl⟩ | ⟨x, t, rfl, rfl⟩
    · exact wpAny_pyHash_int h
    · exact wpAny_pyHash_str h
  eqBool := fun hu hv h => by
    rcases keyIs_shape hu with ⟨i, t, rfl, rfl⟩ | ⟨x, t, rfl, rfl⟩
    · rcases keyIs_shape hv with ⟨j, u, rfl, rfl⟩ | ⟨y, u, rfl, rfl⟩
      · rw [key_ll] at h; exact wpAny_eqBool_int h
      · rw [key_lr] at h; exact SeqAt.EqAt.int_str i t y u _ _ _ _ h
    · rcases keyIs_shape hv with ⟨j, u, rfl, rfl⟩ | ⟨y, u, rfl, rfl⟩
      · rw [key_rl] at h; exact SeqAt.EqAt.str_int x t j u _ _ _ _ h
      · rw [key_rr] at h; exact wpAny_eqBool_str h
  «strs» := fun k x t v h => by
    rcases keyIs_shape h with ⟨i, u, rfl, e⟩ | ⟨y, u, rfl, e⟩
    · exact nomatch e
    · injection e with e1 _
      subst e1
      cases v <;> rfl

theorem mixKind_int (prog : Program) (w : World) (i : Int) (t : Tok) : (mixKind prog w).is (.inl i) (.int i t) = true := keyIs_int i t
theorem mixKind_str (prog : Program) (w : World) (x : Str) (t : Tok) : (mixKind prog w).is (.inr x) (.str x t) = true := keyIs_str x t
end L2

namespace L2
open PySem PySem.Spec PyProof.Rows

/-- a value, without the heap -/
inductive V where
  | non | bl (b : Bool) | int (i : Int) | str (x : Str) | byt (b : Array UInt8) | flt (b : UInt64) | ref (a : Addr) | ty (n : String)
  deriving DecidableEq

def RelV : V → Value → Prop
  | .non, u => u = Value.none
  | .bl b, u => u = Value.bool b
  | .int i, u => ∃ t, u = Value.int i t
  | .str x, u => ∃ t, u = Value.str x t
  | .byt b, u => ∃ t, u = Value.bytes b t
  | .flt b, u => ∃ t, u = Value.float b t
  | .ref a, u => u = Value.ref a
  | .ty n, u => u = Value.type n

abbrev Vals : List V → List Value → Prop := Paired RelV
theorem Vals.length {xs : List V} {us : List Value} (r : Vals xs us) : xs.length = us.length := Paired.length r
theorem Vals.get : ∀ {xs : List V} {us : List Value} {i : Nat} {x : V}, Vals xs us → xs[i]? = some x → ∃ u, us[i]? = some u ∧ RelV x u
  | _, _, _, _, .nil, e => by simp at e
  | _, _, 0, _, .cons r _, e => by simp at e; subst e; exact ⟨_, rfl, r⟩
  | _, _, i + 1, x, .cons _ t, e => by
    obtain ⟨u, h1, h2⟩ := Vals.get (i := i) (x := x) t (by simpa using e)
    exact ⟨u, by simpa using h1, h2⟩
theorem Vals.append : ∀ {xs ys : List V} {us ws : List Value}, Vals xs us → Vals ys ws → Vals (xs ++ ys) (us ++ ws)
  | _, _, _, _, .nil, s => s
  | _, _, _, _, .cons r t, s => .cons r (Vals.append t s)
theorem Vals.take : ∀ {xs : List V} {us : List Value} (n : Nat), Vals xs us → Vals (xs.take n) (us.take n)
  | _, _, 0, _ => .nil
  | _, _, _ + 1, .nil => .nil
  | _, _, n + 1, .cons r t => .cons r (Vals.take n t)
theorem Vals.drop : ∀ {xs : List V} {us : List Value} (n : Nat), Vals xs us → Vals (xs.drop n) (us.drop n)
  | _, _, 0, r => r
  | _, _, _ + 1, .nil => .nil
  | _, _, n + 1, .cons _ t => Vals.drop n t
def RelO : Option V → Option Value → Prop
  | some v, some u => RelV v u
  | none, none => True
  | _, _ => False
def KV {κ : Type} : List (κ × V) → List (κ × Value) → Prop := Paired fun (p : κ × V) (q : κ × Value) => p.1 = q.1 ∧ RelV p.2 q.2

/-- a key of a dict (00_mix): an int or a text -/
def kV : Key → V
  | .inl i => .int i
  | .inr x => .str x

/-- what stands at a tracked address -/
inductive HO where
  /-- a list -/
  | lst (xs : List V)
  /-- a tuple (never changes) -/
  | tup (xs : List V)
  /-- a dict whose keys are ints and texts; one whose keys are tuples of ints and texts (the empty one is both) -/
  | dK (kvs : List (Key × V)) | dT (kvs : List (List Key × V))
  /-- a set of ints: its members, its size -/
  | set (S : Int → Bool) (n : Nat)
  /-- an instance of the class at C, its dict at dx, its attributes -/
  | ins (C dx : Addr) (fs : List (Str × V))
  /-- the dict of the instance at x -/
  | own (x : Addr)
  /-- the dict of an exception -/
  | xd (fs : List (Str × V))
  /-- a bound method, f of x -/
  | met (f x : Addr)
  /-- a range object lo, lo + 1, .. below hi -/
  | rng (lo hi : Int)
  /-- a thing that is known to the object (the script; a dict while a loop walks it): read, never written while it is so -/
  | frz (o : Obj) (u : HO)
  /-- a code object's table -/
  | tbl (ps : Array Value)
  /-- any other thing, by what is true of its one object (a def of one's own: SetO a S n := HO.ext fun h => ..) -/
  | ext (φ : Heap → Prop)

abbrev Hp := Addr → Option HO
def upd (H : Hp) (a : Addr) (o : HO) : Hp := fun b => if b = a then some o else H b
theorem upd_same {H : Hp} {a : Addr} {o : HO} : upd H a o a = some o := by unfold upd; rw [if_pos rfl]
theorem upd_ne {H : Hp} {a b : Addr} {o : HO} (h : b ≠ a) : upd H a o b = H b := by unfold upd; rw [if_neg h]
theorem upd_upd {H : Hp} {a : Addr} {o u : HO} : upd (upd H a o) a u = upd H a u := by
  funext b; unfold upd; split <;> rfl
/-- two objects of different content stand apart -/
theorem ne_of {H : Hp} {a b : Addr} {o u : HO} (h : H a = some o) (h' : H b = some u) (d : o ≠ u) : a ≠ b := by
  intro e; subst e; rw [h] at h'; exact d (Option.some.inj h')
theorem ne_of_none {H : Hp} {a b : Addr} {o : HO} (h : H a = some o) (h' : H b = none) : a ≠ b := by
  intro e; subst e; rw [h] at h'; cases h'

section
variable (P : Program) (w : World)
def ObjOk (H : Hp) (h : Heap) (a : Addr) : HO → Prop
  | .lst xs => xs.length ≤ sizeLine ∧ ∃ (its : List Value) (n : Nat), Vals xs its ∧ h.get? a = some { cls := .type "list", data := .seq its.toArray n }
  | .tup xs => xs.length ≤ sizeLine ∧ ∃ its : List Value, Vals xs its ∧ IsTup h a its.toArray
  | .dK kvs => kvs.length ≤ sizeLine ∧ (a == sysModules) = false ∧ ∃ vs, KV kvs vs ∧ h.DictOf (mixKind P w) a vs
  | .dT kvs => kvs.length ≤ sizeLine ∧ (a == sysModules) = false ∧ ∃ xs : List (List Key × Addr × Value),
      Paired (fun (p : List Key × V) (q : List Key × Addr × Value) => p.1 = q.1 ∧ H q.2.1 = some (.tup (p.1.map kV)) ∧ RelV p.2 q.2.2) kvs xs ∧
      ∃ o es ep, h.get? a = some o ∧ o.ExactDict ∧ o.data = .dict es ep ∧ es.toList = xs.map (entryOfKey (tupleKind (mixKind P w))) ∧ (xs.map (·.1)).Nodup
  | .set S n => h.SetOf (intKind P w) a S n
  | .ins C dx fs => H dx = some (.own a) ∧ fs.length ≤ 1000 ∧ dx ≠ a ∧ h.get? a = some (PySem.W.instObj C dx) ∧
      ∃ mA, h.Ns1 dx mA ∧ (∀ f, RelO (fs.lookup f) (mA f)) ∧ PySem.Within mA (fs.map (·.1))
  | .own _ => ∃ o, h.get? a = some o
  | .xd fs => ∃ mA, h.Ns1 a mA ∧ ∀ f, RelO (fs.lookup f) (mA f)
  | .rng lo hi => ∃ t u v, h.get? a = some { cls := .type "range", data := .fields #[.int lo t, .int hi u, .int 1 v] }
  | .frz o u => h.get? a = some o ∧ ObjOk H h a u
  | .tbl ps => h.get? a = some { cls := .none, data := .fields ps }
  | .met f x => h.get? a = some (PySem.W.methodObj (.ref f) (.ref x))
  | .ext φ => φ h ∧ (∃ o, h.get? a = some o) ∧ ∀ h1 h2 : Heap, φ h1 → (∀ o, h1.get? a = some o → h2.get? a = some o) → φ h2
/-- the abstract heap is held -/
def HOk (H : Hp) (h : Heap) : Prop := ∀ a o, H a = some o → ObjOk P w H h a o
end

section
variable {P : Program} {w : World} {H H' : Hp} {h h' : Heap} {a : Addr} {o : HO}
theorem ObjOk.lt (x : ObjOk P w H h a o) : a < h.objs.size := by
  cases o with
  | lst xs => obtain ⟨_, _, _, _, e⟩ := x; exact Heap.lt_size e
  | tup xs => obtain ⟨_, _, _, p⟩ := x; exact p.lt
  | dK kvs => obtain ⟨_, _, _, _, o, _, _, e, _⟩ := x; exact Heap.lt_size e
  | dT kvs => obtain ⟨_, _, _, _, o, _, _, e, _⟩ := x; exact Heap.lt_size e
  | set S n => obtain ⟨o, _, _, _, e, _⟩ := x; exact Heap.lt_size e
  | ins C dx fs => obtain ⟨_, _, _, e, _⟩ := x; exact Heap.lt_size e
  | own y => obtain ⟨_, e⟩ := x; exact Heap.lt_size e
  | xd fs => obtain ⟨_, ⟨_, _, _, e, _⟩, _⟩ := x; exact Heap.lt_size e
  | rng lo hi => obtain ⟨_, _, _, e⟩ := x; exact Heap.lt_size e
  | frz ob u => obtain ⟨e, _⟩ := x; exact Heap.lt_size e
  | tbl ps => exact Heap.lt_size (show h.get? a = some _ from x)
  | met f y => exact Heap.lt_size (show h.get? a = some _ from x)
  | ext φ => obtain ⟨_, ⟨_, e⟩, _⟩ := x; exact Heap.lt_size e
theorem Paired.mapP {α β : Type} {F G : α → β → Prop} : ∀ {l₁ : List α} {l₂ : List β}, Paired F l₁ l₂ → (∀ a b, F a b → G a b) → Paired G l₁ l₂
  | _, _, .nil, _ => .nil
  | _, _, .cons r t, f => .cons (f _ _ r) (Paired.mapP t f)
theorem Paired.imp' {α β : Type} {F G : α → β → Prop} (f : ∀ a b, F a b → G a b) {l₁ : List α} {l₂ : List β} (r : Paired F l₁ l₂) : Paired G l₁ l₂ := Paired.mapP r f
/-- what an object's description leans on: its own object, its own dict, the tuples -/
theorem ObjOk.stay (x : ObjOk P w H h a o) (k : ∀ b u, (b = a ∨ H b = some (.own a)) → h.get? b = some u → h'.get? b = some u)
    (ho : ∀ b, H b = some (.own a) → H' b = some (.own a)) (ht : ∀ b xs, H b = some (.tup xs) → H' b = some (.tup xs)) : ObjOk P w H' h' a o := by
  induction o with
  | lst xs => obtain ⟨z, its, n, r, e⟩ := x; exact ⟨z, its, n, r, k _ _ (.inl rfl) e⟩
  | tup xs => obtain ⟨z, its, r, ob, e, c⟩ := x; exact ⟨z, its, r, ob, k _ _ (.inl rfl) e, c⟩
  | dK kvs => obtain ⟨z, y, vs, r, ob, es, ep, e, c⟩ := x; exact ⟨z, y, vs, r, ob, es, ep, k _ _ (.inl rfl) e, c⟩
  | dT kvs =>
    obtain ⟨z, y, xs, r, ob, es, ep, e, c⟩ := x
    exact ⟨z, y, xs, Paired.mapP r fun p q z => ⟨z.1, ht _ _ z.2.1, z.2.2⟩, ob, es, ep, k _ _ (.inl rfl) e, c⟩
  | set S n => obtain ⟨ob, es, ep, t, e, c⟩ := x; exact ⟨ob, es, ep, t, k _ _ (.inl rfl) e, c⟩
  | ins C dx fs =>
    obtain ⟨d, z, ne, e, mA, ⟨od, es, ep, e2, c⟩, r⟩ := x
    exact ⟨ho _ d, z, ne, k _ _ (.inl rfl) e, mA, ⟨od, es, ep, k _ _ (.inr d) e2, c⟩, r⟩
  | own y => obtain ⟨ob, e⟩ := x; exact ⟨ob, k _ _ (.inl rfl) e⟩
  | xd fs => obtain ⟨mA, ⟨od, es, ep, e, c⟩, r⟩ := x; exact ⟨mA, ⟨od, es, ep, k _ _ (.inl rfl) e, c⟩, r⟩
  | rng lo hi => obtain ⟨t, u, v, e⟩ := x; exact ⟨t, u, v, k _ _ (.inl rfl) e⟩
  | frz ob u ih => obtain ⟨e, q⟩ := x; exact ⟨k _ _ (.inl rfl) e, ih q⟩
  | tbl ps =>
    have e : h.get? a = some { cls := .none, data := .fields ps } := x
    show h'.get? a = some { cls := .none, data := .fields ps }
    exact k a _ (.inl rfl) e
  | met f y =>
    have e : h.get? a = some (PySem.W.methodObj (.ref f) (.ref y)) := x
    show h'.get? a = some (PySem.W.methodObj (.ref f) (.ref y))
    exact k a _ (.inl rfl) e
  | ext φ => obtain ⟨p, ⟨o, e⟩, st⟩ := x; exact ⟨st _ _ p fun o q => k _ _ (.inl rfl) q, ⟨o, k _ _ (.inl rfl) e⟩, st⟩
theorem HOk.lt (x : HOk P w H h) (e : H a = some o) : a < h.objs.size := (x a o e).lt
theorem HOk.fresh (x : HOk P w H h) (e : h.objs.size ≤ a) : H a = none := by
  cases q : H a with
  | none => rfl
  | some u => exact absurd (Nat.lt_of_lt_of_le (x.lt q) e) (Nat.lt_irrefl _)
/-- every object of the heap is kept -/
theorem HOk.kept (x : HOk P w H h) (k : ∀ b u, h.get? b = some u → h'.get? b = some u) : HOk P w H h' := fun a o e =>
  (x a o e).stay (fun b u _ q => k b u q) (fun _ q => q) fun _ _ q => q
/-- a new object is laid and tracked -/
theorem HOk.laid (x : HOk P w H h) (k : ∀ b u, h.get? b = some u → h'.get? b = some u) (hp : h.objs.size ≤ a) (new : ObjOk P w (upd H a o) h' a o) : HOk P w (upd H a o) h' := fun b u e => by
  have hn := x.fresh hp
  by_cases hb : b = a
  · subst hb; rw [upd_same] at e; cases e; exact new
  · rw [upd_ne hb] at e
    exact (x b u e).stay (fun c v _ q => k c v q) (fun c q => by rw [upd_ne (ne_of_none q hn)]; exact q) fun c xs q => by rw [upd_ne (ne_of_none q hn)]; exact q
end

/-- what may be read as u: it is u, or a known u -/
def Rd (H : Hp) (a : Addr) (u : HO) : Prop := H a = some u ∨ ∃ o, H a = some (.frz o u)
theorem Rd.ok {P : Program} {w : World} {H : Hp} {h : Heap} {a : Addr} {u : HO} (r : Rd H a u) (x : HOk P w H h) : ObjOk P w H h a u := by
  rcases r with r | ⟨o, r⟩
  · exact x a u r
  · obtain ⟨_, q⟩ := x a _ r
    exact q
/-- what may be written -/
def Mut : Option HO → Prop
  | some (.lst _) => True
  | some (.dK _) => True
  | some (.dT _) => True
  | some (.set _ _) => True
  | some (.ins _ _ _) => True
  | some (.ext _) => True
  | _ => False
section
variable {P : Program} {w : World} {H : Hp} {h h' : Heap} {x e : Addr} {o' : HO}
/-- the object at e is changed: x itself, or the dict of the instance x -/
theorem HOk.write (ok : HOk P w H h) (mu : Mut (H x)) (he : e = x ∨ H e = some (.own x)) (k : ∀ b u, b ≠ e → h.get? b = some u → h'.get? b = some u) (heo : ∃ u, h'.get? e = some u)
    (new : ObjOk P w (upd H x o') h' x o') : HOk P w (upd H x o') h' := fun b u q => by
  have nown : ∀ c y, H c = some (.own y) → c ≠ x := fun c y r z => by subst z; rw [r] at mu; exact mu
  have ntup : ∀ c xs, H c = some (.tup xs) → c ≠ x := fun c xs r z => by subst z; rw [r] at mu; exact mu
  by_cases hb : b = x
  · subst hb; rw [upd_same] at q; cases q; exact new
  · rw [upd_ne hb] at q
    by_cases hbe : b = e
    · have q' : H b = some (.own x) := by
        rcases he with z | z
        · exact absurd (hbe.trans z) hb
        · rw [hbe]; exact z
      rw [q] at q'; cases q'
      obtain ⟨v, hv⟩ := heo
      exact ⟨v, by rw [hbe]; exact hv⟩
    · refine (ok b u q).stay (fun c v hc r => k c v ?_ r) (fun c r => by rw [upd_ne (nown c b r)]; exact r) fun c xs r => by rw [upd_ne (ntup c xs r)]; exact r
      rcases hc with rfl | hc
      · exact hbe
      · rintro rfl
        rcases he with z | z
        · exact nown c b hc z
        · rw [hc] at z; cases z; exact hb rfl
end

/-! ### kept unless tracked; of the frames at fs (the callers') the slots may change (an exception that passes writes there); of the records at ex (iterators) nothing is said -/
structure Un (fs ex : List Addr) (H H' : Hp) (h h' : Heap) : Prop where
  keep : ∀ b o, h.get? b = some o → H b = none → b ∉ fs → b ∉ ex → h'.get? b = some o
  slot : ∀ b o, h.get? b = some o → H b = none → b ∈ fs → b ∉ ex → ∃ sl, h'.get? b = some { o with slots := sl }
  free : ∀ b o, h.get? b = some o → H b = none → b ∉ ex → H' b = none
  there : ∀ b o, h.get? b = some o → b ∉ ex → ∃ o', h'.get? b = some o'
  tups : ∀ b xs, H b = some (.tup xs) → H' b = some (.tup xs)
  frzs : ∀ b o u, H b = some (.frz o u) → H' b = some (.frz o u)
  tbls : ∀ b ps, H b = some (.tbl ps) → ∃ more, H' b = some (.tbl (ps ++ more))
section
variable {fs fs' ex ex' : List Addr} {H H1 H2 : Hp} {h h1 h2 h' : Heap} {a x e : Addr} {o : HO}
theorem Un.any (u : Un fs ex H H1 h h1) {b : Addr} {ob : Obj} (q : h.get? b = some ob) (n : H b = none) (hx : b ∉ ex) : ∃ sl, h1.get? b = some { ob with slots := sl } := by
  by_cases hb : b ∈ fs
  · exact u.slot b ob q n hb hx
  · exact ⟨ob.slots, u.keep b ob q n hb hx⟩
theorem Un.kept (k : ∀ b u, h.get? b = some u → h'.get? b = some u) : Un fs ex H H h h' :=
  ⟨fun b ob q _ _ _ => k b ob q, fun b ob q _ _ _ => ⟨ob.slots, k b ob q⟩, fun _ _ _ n _ => n, fun b ob q _ => ⟨ob, k b ob q⟩, fun _ _ q => q, fun _ _ _ q => q, fun _ ps q => ⟨#[], by rw [q]; simp⟩⟩
theorem Un.refl : Un fs ex H H h h := Un.kept fun _ _ q => q
theorem Un.laid (k : ∀ b u, h.get? b = some u → h'.get? b = some u) (hp : h.objs.size ≤ a) (hn : H a = none) : Un fs ex H (upd H a o) h h' where
  keep := fun b u q _ _ _ => k b u q
  slot := fun b u q _ _ _ => ⟨u.slots, k b u q⟩
  free := fun b u q n _ => by rw [upd_ne (Nat.ne_of_lt (Nat.lt_of_lt_of_le (Heap.lt_size q) hp))]; exact n
  there := fun b u q _ => ⟨u, k b u q⟩
  tups := fun b xs q => by rw [upd_ne (ne_of_none q hn)]; exact q
  frzs := fun b u xs q => by rw [upd_ne (ne_of_none q hn)]; exact q
  tbls := fun b ps q => ⟨#[], by rw [upd_ne (ne_of_none q hn), q]; simp⟩
theorem Un.write (mu : Mut (H x)) (he : e = x ∨ H e = some (.own x)) (k : ∀ b u, b ≠ e → h.get? b = some u → h'.get? b = some u) (heo : ∃ u, h'.get? e = some u) : Un fs ex H (upd H x o) h h' := by
  have hx : ∀ b, H b = none → b ≠ x := fun b n z => by subst z; rw [n] at mu; exact mu
  have hb : ∀ b, H b = none → b ≠ e := fun b n z => by
    subst z
    rcases he with r | r
    · exact hx b n r
    · rw [n] at r; cases r
  have hm : ∀ b u, H b = some u → ¬ Mut (some u) → b ≠ x := fun b u q nm z => by subst z; rw [q] at mu; exact nm mu
  refine ⟨fun b u q n _ _ => k b u (hb b n) q, fun b u q n _ _ => ⟨u.slots, k b u (hb b n) q⟩, fun b u q n _ => by rw [upd_ne (hx b n)]; exact n, fun b u q _ => ?_,
    fun b xs q => by rw [upd_ne (hm b _ q fun z => z)]; exact q, fun b u xs q => by rw [upd_ne (hm b _ q fun z => z)]; exact q, fun b ps q => ⟨#[], by rw [upd_ne (hm b _ q fun z => z), q]; simp⟩⟩
  by_cases hbe : b = e
  · subst hbe; exact heo
  · exact ⟨u, k b u hbe q⟩
end

/-! ### the heap without what is tracked -/
def trk (h : Heap) (H : Hp) : List Addr := (List.range h.objs.size).filter fun a => (H a).isSome
def hidT (h : Heap) (H : Hp) : Heap := PySem.W.hideAll h (trk h H)
theorem hidT_size (h : Heap) (H : Hp) : (hidT h H).objs.size = h.objs.size := PySem.W.hideAll_size _ _
theorem hidT_get {h : Heap} {H : Hp} {b : Addr} {o : Obj} (e : h.get? b = some o) (n : H b = none) : (hidT h H).get? b = some o :=
  PySem.W.hideAll_get _ e fun hm => by
    have q : (H b).isSome = true := (List.mem_filter.mp hm).2
    rw [n] at q; simp at q
theorem of_hidT {h : Heap} {H : Hp} {b : Addr} {o : Obj} (e : (hidT h H).get? b = some o) : h.get? b = some o ∧ H b = none := by
  have e' : h.get? b = some o := PySem.W.of_hideAll (trk h H) e
  refine ⟨e', ?_⟩
  cases q : H b with
  | none => rfl
  | some x =>
    have hm : b ∈ trk h H := List.mem_filter.mpr ⟨List.mem_range.mpr (Heap.lt_size e'), by simp [q]⟩
    have z : (hidT h H).get? b = none := PySem.W.hideAll_none (trk h H) hm
    rw [z] at e; cases e

/-! ### OpenK's ledger, filled with every new object but one -/
def allNews (g h : Heap) (L : Addr) : List (Addr × Obj) := (List.range h.objs.size).filterMap fun a => if a = L ∨ (g.get? a).isSome = true then none else (h.get? a).map fun o => (a, o)
def rest (g h : Heap) (L d : Addr) : List (Addr × Obj) := (allNews g h L).filter fun p => decide (p.1 ≠ d)
end L2

namespace L2
open PySem PySem.Spec PyProof.Rows

/-- the module's facts, over the base: the heap at the law's entry without what is tracked there -/
structure Mod (K : PySem.W.Frag) (mg : Str → Option Value) (base : Heap) : Prop where
  kin : K.In base
  glob : base.Ns mainGlobals mg
  blt : ∃ mb, base.Ns builtinsNs mb ∧ ∀ x : Str, x ≠ "__name__" → mb x = bootBuiltins x
  nolimit : base.NoLimit

/-- the context: a def's body (or a comprehension's block) running. base: fixed through the whole law; s₀, H₀: the entry; outer: the frames whose slots others may change (a def's callers); stack: all frames that run;
   ex: iterators that were made ahead of the entry and are walked here (a comprehension's); fn: the names whose cells were made at the entry (a def: all; a comprehension's block: its own); calm: not within an except suite; pn: pins that every state bears; xe: what is wanted of an exception that leaves the code -/
structure Cx where
  prog : Program
  w : World
  K : PySem.W.Frag
  mg : Str → Option Value
  base : Heap
  A : Around
  N : List Str
  s₀ : Shared
  H₀ : Hp
  env : Env
  outer : List Env
  stack : List Env
  ex : List Addr
  fn : Str → Bool
  calm : Bool
  pn : List (Addr × Obj)
  xe : Value → Shared → Prop
/-- the callers' frames -/
def frs (l : List Env) : List Addr := l.filterMap (·.frame)
abbrev Cx.fs (X : Cx) : List Addr := frs X.outer

def Vis (sc : Scope) (x : Str) : Prop := sc.names.lookup x = some .local ∨ sc.names.lookup x = some .cell ∨ sc.names.lookup x = some .free
def Loc (sc : Scope) (x : Str) : Prop := sc.names.lookup x = some .local ∨ sc.names.lookup x = some .cell
def Look (env : Env) (h : Heap) (m : Str → Option Value) (x : Str) (u : Value) : Prop :=
  (env.kindOf x = some .local ∧ m x = some u) ∨ ((env.kindOf x = some .cell ∨ env.kindOf x = some .free) ∧ ∃ c, env.cells.lookup x = some c ∧ h.IsCell c (some u))

structure Cx.Ok (X : Cx) : Prop where
  mod : Mod X.K X.mg X.base
  kind : X.env.scope.kind = .function
  glob : X.env.globals = mainGlobals
  blt : X.env.builtins = builtinsNs
  above : X.s₀.heap.objs.size ≤ X.env.locals
  inj : ∀ x y c, X.env.cells.lookup x = some c → X.env.cells.lookup y = some c → x = y
  has : ∀ x, (X.env.kindOf x = some .cell ∨ X.env.kindOf x = some .free) → ∃ c, X.env.cells.lookup x = some c
  cab : ∀ x c, X.fn x = true → X.env.cells.lookup x = some c → X.s₀.heap.objs.size ≤ c
  hd : X.calm = true → X.A.handled = none
  frames : X.A.frames = some X.stack
  stk : X.stack = X.outer ∨ (X.stack = X.env :: X.outer ∧ X.env.frame = some X.env.locals)
  exf : ∀ b ∈ X.ex, b ≠ X.env.locals ∧ ∀ x c, X.env.cells.lookup x = some c → c ≠ b
  bs : ∀ b o, X.base.get? b = some o → X.s₀.heap.get? b = some o ∧ X.H₀ b = none
  bsz : X.base.objs.size ≤ X.s₀.heap.objs.size
  noex : ∀ b o, X.base.get? b = some o → b ∉ X.ex
  exfs : ∀ b ∈ X.ex, b ∉ X.fs
  funs : X.s₀.heap.FunFrames X.base X.outer
  frf : ∀ b ∈ X.fs, X.H₀ b = none

structure Inv (X : Cx) (pins : List (Addr × Obj)) (σ : List (Option V)) (H : Hp) (s : Shared) : Prop where
  ok : X.Ok
  os : s.os = X.s₀.os
  bare : AllBare s.gens
  base : Un X.fs X.ex X.H₀ H X.s₀.heap s.heap
  loc : ∃ m, s.heap.Ns X.env.locals m ∧ ∀ (i : Nat) (x : Str) (v : V), X.N[i]? = some x → σ[i]? = some (some v) → Vis X.env.scope x → ∃ u, RelV v u ∧ Look X.env s.heap m x u
  cell : ∀ x c, X.env.cells.lookup x = some c → ∃ v, s.heap.IsCell c v
  free : H X.env.locals = none
  freeC : ∀ x c, X.env.cells.lookup x = some c → H c = none
  pin : ∀ p ∈ X.pn ++ pins, s.heap.get? p.1 = some p.2 ∧ H p.1 = none ∧ p.1 ≠ X.env.locals ∧ p.1 ∉ X.fs ∧ ∀ v, p.2.data ≠ .cell v
  hok : HOk X.prog X.w H s.heap
  len : σ.length = X.N.length

section
variable {X : Cx} {pins : List (Addr × Obj)} {σ : List (Option V)} {H H' : Hp} {s : Shared} {h' : Heap}

theorem Cx.Ok.nofr (ok : X.Ok) {b : Addr} {o : Obj} (e : X.base.get? b = some o) : b ∉ X.fs := fun hb => by
  have := (ok.funs.mem hb).1
  rw [e] at this; cases this
theorem Inv.bs (I : Inv X pins σ H s) : ∀ b o, X.base.get? b = some o → s.heap.get? b = some o ∧ H b = none := fun b o e =>
  ⟨I.base.keep b o (I.ok.bs b o e).1 (I.ok.bs b o e).2 (I.ok.nofr e) (I.ok.noex b o e), I.base.free b o (I.ok.bs b o e).1 (I.ok.bs b o e).2 (I.ok.noex b o e)⟩
theorem Inv.bk (I : Inv X pins σ H s) : ∀ b o, X.base.get? b = some o → s.heap.get? b = some o := fun b o e => (I.bs b o e).1
theorem Inv.mod (I : Inv X pins σ H s) : Mod X.K X.mg X.base := I.ok.mod
theorem Inv.kIn (I : Inv X pins σ H s) : X.K.In s.heap := I.ok.mod.kin.keeps I.bk
/-- the frame over the base: for OpenK's rules (K.In X.base is I.mod.kin) -/
theorem Inv.fr (I : Inv X pins σ H s) : ∃ m, Fr X.base X.env.locals s.heap m :=
  let ⟨m, hn, _⟩ := I.loc
  ⟨m, hn, I.bk, Nat.le_trans I.ok.bsz I.ok.above⟩
theorem Inv.lt (I : Inv X pins σ H s) : X.env.locals < s.heap.objs.size := let ⟨_, hn, _⟩ := I.loc; hn.lt
theorem Inv.sz (I : Inv X pins σ H s) : X.s₀.heap.objs.size ≤ s.heap.objs.size := Nat.le_trans I.ok.above (Nat.le_of_lt I.lt)
theorem Inv.nofs (I : Inv X pins σ H s) {a : Addr} (h : s.heap.objs.size ≤ a) : a ∉ X.fs := fun hb => by
  obtain ⟨_, o, ho, _⟩ := I.ok.funs.mem hb
  exact absurd (Nat.lt_of_lt_of_le (Heap.lt_size ho) (Nat.le_trans I.sz h)) (Nat.lt_irrefl _)
theorem Inv.cne (I : Inv X pins σ H s) : ∀ x c, X.env.cells.lookup x = some c → c ≠ X.env.locals := fun x c e z => by
  obtain ⟨v, o, ho, hd⟩ := I.cell x c e
  obtain ⟨m, ⟨o', es, ep, ho', hd', _⟩, _⟩ := I.loc
  rw [z, ho'] at ho; cases ho; rw [hd'] at hd; cases hd
theorem Inv.funs (I : Inv X pins σ H s) : s.heap.FunFrames X.base X.outer := by
  have all : ∀ (l : List Env), (∀ b ∈ frs l, b ∈ X.fs) → X.s₀.heap.FunFrames X.base l → s.heap.FunFrames X.base l := by
    intro l
    induction l with
    | nil => intro _ _; trivial
    | cons env r ih =>
      intro hs hl
      obtain ⟨hk, ⟨L, o, hf, hn, ho, hd⟩, hr⟩ := hl
      have hL : L ∈ X.fs := hs L (by unfold frs; rw [List.filterMap_cons, hf]; exact List.mem_cons_self)
      obtain ⟨sl, e⟩ := I.base.slot L o ho (I.ok.frf L hL) hL fun z => I.ok.exfs L z hL
      exact ⟨hk, ⟨L, _, hf, hn, e, hd⟩, ih (fun b hb => hs b (by unfold frs; rw [List.filterMap_cons, hf]; exact List.mem_cons_of_mem _ hb)) hr⟩
  exact all X.outer (fun _ hb => hb) I.ok.funs

/-- the frames that run, for a call -/
theorem Inv.stack (I : Inv X pins σ H s) : s.heap.FunFrames X.base X.stack := by
  rcases I.ok.stk with e | ⟨e, hf⟩
  · rw [e]; exact I.funs
  · rw [e]
    obtain ⟨m, hn, _⟩ := I.loc
    refine .cons (by rw [I.ok.kind]; decide) hf hn ?_ I.funs
    exact Heap.get?_none_of_le (Nat.le_trans I.ok.bsz I.ok.above)
theorem Inv.stkSub (I : Inv X pins σ H s) : ∀ b ∈ frs X.stack, b ∈ X.env.locals :: X.fs := fun b hb => by
  rcases I.ok.stk with e | ⟨e, hf⟩
  · rw [e] at hb; exact List.mem_cons_of_mem _ hb
  · rw [e] at hb
    unfold frs at hb
    rw [List.filterMap_cons, hf] at hb
    exact hb
theorem Inv.stkFree (I : Inv X pins σ H s) : ∀ b ∈ frs X.stack, H b = none := fun b hb => by
  rcases List.mem_cons.mp (I.stkSub b hb) with e | hb
  · rw [e]; exact I.free
  · obtain ⟨_, o, ho, _⟩ := I.ok.funs.mem hb
    exact I.base.free b o ho (I.ok.frf b hb) fun z => I.ok.exfs b z hb

/-- THE STEP: the untracked objects but the frame and the records at ch are kept (the callers' frames up to slots), the frame's map is kept, the new abstract heap is held -/
theorem Inv.step {g' : Array GenState} {t' : Nat} {d' : Drawn} {ch : List Addr} (I : Inv X pins σ H s)
    (hch : ∀ b ∈ ch, (b ∈ X.ex ∨ X.s₀.heap.objs.size ≤ b) ∧ b ≠ X.env.locals ∧ (∀ x c, X.env.cells.lookup x = some c → c ≠ b) ∧ ∀ p ∈ X.pn ++ pins, p.1 ≠ b)
    (keep : ∀ b o, b ≠ X.env.locals → b ∉ X.fs → b ∉ ch → s.heap.get? b = some o → H b = none → h'.get? b = some o)
    (slot : ∀ b o, b ≠ X.env.locals → b ∈ X.fs → b ∉ ch → s.heap.get? b = some o → H b = none → ∃ sl, h'.get? b = some { o with slots := sl }) (free : ∀ b o, b ∉ ch → s.heap.get? b = some o → H b = none → H' b = none)
    (there : ∀ b o, b ∉ ch → s.heap.get? b = some o → ∃ o', h'.get? b = some o')
    (tups : ∀ b xs, H b = some (.tup xs) → H' b = some (.tup xs)) (frzs : ∀ b o u, H b = some (.frz o u) → H' b = some (.frz o u)) (tbls : ∀ b ps, H b = some (.tbl ps) → ∃ more, H' b = some (.tbl (ps ++ more)))
    (ns : ∀ m, s.heap.Ns X.env.locals m → h'.Ns X.env.locals m) (hok : HOk X.prog X.w H' h') (hg : AllBare g') :
    Inv X pins σ H' { s with heap := h', gens := g', drawn := d', toks := t' } := by
  have neL : ∀ b o, X.s₀.heap.get? b = some o → b ≠ X.env.locals := fun b o e => Nat.ne_of_lt (Nat.lt_of_lt_of_le (Heap.lt_size e) I.ok.above)
  have neC : ∀ b o, X.s₀.heap.get? b = some o → b ∉ X.ex → b ∉ ch := fun b o e hx hb => by
    rcases (hch b hb).1 with z | z
    · exact hx z
    · exact absurd (Nat.lt_of_lt_of_le (Heap.lt_size e) z) (Nat.lt_irrefl _)
  have cellK : ∀ x c, X.env.cells.lookup x = some c → ∀ v, s.heap.IsCell c v → h'.IsCell c v := fun x c e v ⟨o, ho, hd⟩ => by
    have nch : c ∉ ch := fun z => (hch c z).2.2.1 x c e rfl
    by_cases hc : c ∈ X.fs
    · obtain ⟨sl, q⟩ := slot c o (I.cne x c e) hc nch ho (I.freeC x c e)
      exact ⟨_, q, hd⟩
    · exact ⟨o, keep c o (I.cne x c e) hc nch ho (I.freeC x c e), hd⟩
  refine ⟨I.ok, I.os, hg, ⟨fun b o e n hb hx => ?_, fun b o e n hb hx => ?_, fun b o e n hx => ?_, fun b o e hx => ?_, fun b xs e => tups b xs (I.base.tups b xs e), fun b o xs e => frzs b o xs (I.base.frzs b o xs e), fun b ps e => ?_⟩, ?_, fun x c e => ?_, ?_, fun x c e => ?_, fun p hp => ?_, hok, I.len⟩
  · exact keep b o (neL b o e) hb (neC b o e hx) (I.base.keep b o e n hb hx) (I.base.free b o e n hx)
  · obtain ⟨sl, e1⟩ := I.base.slot b o e n hb hx
    obtain ⟨sl', e2⟩ := slot b _ (neL b o e) hb (neC b o e hx) e1 (I.base.free b o e n hx)
    exact ⟨sl', e2⟩
  · obtain ⟨o', e1⟩ := I.base.there b o e hx
    exact free b o' (neC b o e hx) e1 (I.base.free b o e n hx)
  · obtain ⟨o', e1⟩ := I.base.there b o e hx
    exact there b o' (neC b o e hx) e1
  · obtain ⟨m1, e1⟩ := I.base.tbls b ps e
    obtain ⟨m2, e2⟩ := tbls b _ e1
    exact ⟨m1 ++ m2, by rw [e2, Array.append_assoc]⟩
  · obtain ⟨m, hn, hl⟩ := I.loc
    refine ⟨m, ns m hn, fun i x v e1 e2 e3 => ?_⟩
    obtain ⟨u, r, l⟩ := hl i x v e1 e2 e3
    refine ⟨u, r, ?_⟩
    rcases l with l | ⟨k, c, e, z⟩
    · exact .inl l
    · exact .inr ⟨k, c, e, cellK x c e _ z⟩
  · obtain ⟨v, z⟩ := I.cell x c e
    exact ⟨v, cellK x c e v z⟩
  · obtain ⟨m, ⟨o, _, _, ho, _⟩, _⟩ := I.loc
    exact free _ o (fun z => (hch _ z).2.1 rfl) ho I.free
  · obtain ⟨v, o, ho, hd⟩ := I.cell x c e
    exact free c o (fun z => (hch c z).2.2.1 x c e rfl) ho (I.freeC x c e)
  · obtain ⟨e, n, ne, nf, d⟩ := I.pin p hp
    have nch : p.1 ∉ ch := fun z => (hch p.1 z).2.2.2 p hp rfl
    exact ⟨keep p.1 p.2 ne nf nch e n, free p.1 p.2 nch e n, ne, nf, d⟩
/-- .. where the frame's own object is kept too -/
theorem Inv.un {t' : Nat} (I : Inv X pins σ H s) (u : Un X.fs [] H H' s.heap h') (hok : HOk X.prog X.w H' h') : Inv X pins σ H' { s with heap := h', toks := t' } := by
  obtain ⟨m, ⟨o, es, ep, ho, r⟩, _⟩ := id I.loc
  obtain ⟨sl, hL⟩ := u.any ho I.free (by simp)
  exact I.step (g' := s.gens) (d' := s.drawn) (ch := []) (fun _ z => nomatch z) (fun b o _ hb _ e n => u.keep b o e n hb (by simp)) (fun b o _ hb _ e n => u.slot b o e n hb (by simp)) (fun b o _ e n => u.free b o e n (by simp)) (fun b o _ e => u.there b o e (by simp)) u.tups u.frzs u.tbls (fun m' hm => by
    obtain ⟨o', es', ep', ho', r'⟩ := hm
    rw [ho] at ho'; cases ho'
    exact ⟨_, es', ep', hL, r'⟩) hok I.bare
/-- behind a call (or a comprehension's block): the slots of this frame may have changed too, the records at ch may have turned -/
theorem Inv.call {g' : Array GenState} {t' : Nat} {d' : Drawn} {ch : List Addr} (I : Inv X pins σ H s) (u : Un (frs X.stack) ch H H' s.heap h') (hok : HOk X.prog X.w H' h') (hg : AllBare g')
    (hch : ∀ b ∈ ch, (b ∈ X.ex ∨ X.s₀.heap.objs.size ≤ b) ∧ b ≠ X.env.locals ∧ (∀ x c, X.env.cells.lookup x = some c → c ≠ b) ∧ ∀ p ∈ X.pn ++ pins, p.1 ≠ b) :
    Inv X pins σ H' { s with heap := h', gens := g', drawn := d', toks := t' } := by
  obtain ⟨m, ⟨o, es, ep, ho, r⟩, _⟩ := id I.loc
  obtain ⟨sl, hL⟩ := u.any ho I.free fun z => (hch _ z).2.1 rfl
  exact I.step (ch := ch) hch (fun b o hL hb hc e n => u.keep b o e n (fun z => (List.mem_cons.mp (I.stkSub b z)).elim hL hb) hc) (fun b o _ _ hc e n => u.any e n hc) (fun b o hc e n => u.free b o e n hc) (fun b o hc e => u.there b o e hc) u.tups u.frzs u.tbls (fun m' hm => by
    obtain ⟨o', es', ep', ho', r'⟩ := hm
    rw [ho] at ho'; cases ho'
    exact ⟨_, es', ep', hL, r'⟩) hok hg
/-- an untracked record of ours (an iterator) has turned -/
theorem Inv.turned {t' : Nat} {it : Addr} (I : Inv X pins σ H s) (k : ∀ b o, b ≠ it → s.heap.get? b = some o → h'.get? b = some o) (hn : H it = none) (hL : it ≠ X.env.locals)
    (h1 : it ∈ X.ex ∨ X.s₀.heap.objs.size ≤ it) (h2 : ∀ x c, X.env.cells.lookup x = some c → c ≠ it) (h3 : ∀ p ∈ X.pn ++ pins, p.1 ≠ it) : Inv X pins σ H { s with heap := h', toks := t' } := by
  have nit : ∀ b u, H b = some u → b ≠ it := fun b u e z => by rw [z, hn] at e; cases e
  refine I.step (g' := s.gens) (d' := s.drawn) (ch := [it]) (fun b hb => ?_) (fun b o _ _ hc e _ => k b o (fun z => hc (by simp [z])) e) (fun b o _ _ hc e _ => ⟨o.slots, k b o (fun z => hc (by simp [z])) e⟩) (fun _ _ _ _ n => n)
    (fun b o hc e => ⟨o, k b o (fun z => hc (by simp [z])) e⟩) (fun _ _ e => e) (fun _ _ _ e => e) (fun b ps e => ⟨#[], by rw [e]; simp⟩) (fun m hm => ?_) (fun b u e => ?_) I.bare
  · have e : b = it := by simpa using hb
    subst e
    exact ⟨h1, hL, h2, h3⟩
  · obtain ⟨o, es, ep, ho, r⟩ := hm
    exact ⟨o, es, ep, k _ o (Ne.symm hL) ho, r⟩
  · refine (I.hok b u e).stay (fun c v hc q => k c v ?_ q) (fun _ q => q) fun _ _ q => q
    rcases hc with z | z
    · rw [z]; exact nit b u e
    · exact nit c _ z
theorem Inv.tok (I : Inv X pins σ H s) (t : Nat) : Inv X pins σ H { s with toks := t } := I.un (h' := s.heap) (t' := t) Un.refl I.hok
/-- all objects kept -/
theorem Inv.kept {t' : Nat} (I : Inv X pins σ H s) (k : ∀ b u, s.heap.get? b = some u → h'.get? b = some u) : Inv X pins σ H { s with heap := h', toks := t' } := I.un (Un.kept k) (I.hok.kept k)
/-- a new object laid and tracked -/
theorem Inv.laid {a : Addr} {o : HO} {t' : Nat} (I : Inv X pins σ H s) (k : ∀ b u, s.heap.get? b = some u → h'.get? b = some u) (hp : s.heap.objs.size ≤ a) (new : ObjOk X.prog X.w (upd H a o) h' a o) :
    Inv X pins σ (upd H a o) { s with heap := h', toks := t' } := I.un (Un.laid k hp (I.hok.fresh hp)) (I.hok.laid k hp new)
/-- an object written -/
theorem Inv.write {x e : Addr} {o : HO} {t' : Nat} (I : Inv X pins σ H s) (mu : Mut (H x)) (he : e = x ∨ H e = some (.own x)) (k : ∀ b u, b ≠ e → s.heap.get? b = some u → h'.get? b = some u) (heo : ∃ u, h'.get? e = some u)
    (new : ObjOk X.prog X.w (upd H x o) h' x o) : Inv X pins σ (upd H x o) { s with heap := h', toks := t' } := I.un (Un.write mu he k heo) (I.hok.write mu he k heo new)
/-- forgetting slots, pins -/
theorem Inv.weak {σ' : List (Option V)} (I : Inv X pins σ H s) (hl : σ'.length = σ.length) (w : ∀ (i : Nat) v, σ'[i]? = some (some v) → σ[i]? = some (some v)) : Inv X pins σ' H s :=
  ⟨I.ok, I.os, I.bare, I.base, let ⟨m, hn, hl'⟩ := I.loc; ⟨m, hn, fun i x v e1 e2 e3 => hl' i x v e1 (w i v e2) e3⟩, I.cell, I.free, I.freeC, I.pin, I.hok, hl.trans I.len⟩
theorem Inv.pins_of {pins' : List (Addr × Obj)} (I : Inv X pins σ H s) (h : ∀ p ∈ pins', s.heap.get? p.1 = some p.2 ∧ H p.1 = none ∧ p.1 ≠ X.env.locals ∧ p.1 ∉ X.fs ∧ ∀ v, p.2.data ≠ .cell v) : Inv X pins' σ H s :=
  ⟨I.ok, I.os, I.bare, I.base, I.loc, I.cell, I.free, I.freeC, fun p hp => (List.mem_append.mp hp).elim (fun z => I.pin p (List.mem_append_left _ z)) (h p), I.hok, I.len⟩

theorem nodup_ix {N : List Str} (hN : N.Nodup) {i j : Nat} {x : Str} (a : N[i]? = some x) (b : N[j]? = some x) : i = j := by
  obtain ⟨h1, e1⟩ := List.getElem?_eq_some_iff.mp a
  obtain ⟨h2, e2⟩ := List.getElem?_eq_some_iff.mp b
  exact (List.getElem_inj hN).mp (e1.trans e2.symm)

/-- a name is stored; what changed -/
theorem store_ok2 {M : Model} {A : Around} {E : Value → Shared → Prop} {i : Nat} {x : Str} {v : V} {u : Value} {Q : Unit → Shared → Prop} (I : Inv X pins σ H s) (hN : X.N.Nodup) (hi : X.N[i]? = some x) (hx : Loc X.env.scope x) (r : RelV v u)
    (h : ∀ s', Inv X pins (σ.set i (some v)) H s' → (∃ a, Heap.SameBut a s.heap s'.heap ∧ (a = X.env.locals ∨ X.env.cells.lookup x = some a)) → Q () s') (hf : X.fn x = true ∨ X.env.scope.names.lookup x = some .local := by first | exact .inl rfl | exact .inr rfl | assumption) : wpAny M A (storeName X.env x u) Q E s := by
  obtain ⟨m, hn, hl⟩ := id I.loc
  have hcls : (X.env.scope.kind == .class || (X.env.scope.kind == .module && X.env.locals != X.env.globals)) = false := by rw [I.ok.kind]; rfl
  have hiσ : i < σ.length := by rw [I.len]; exact (List.getElem?_eq_some_iff.mp hi).1
  have cne := I.cne
  have tracked : ∀ {a : Addr} {h' : Heap}, (∃ o, s.heap.get? a = some o ∧ H a = none) → Heap.SameBut a s.heap h' → HOk X.prog X.w H h' := fun {a h'} ha hs b ob e => by
    obtain ⟨_, _, hfree⟩ := ha
    refine (I.hok b ob e).stay (fun c w' hc q => (hs.2 c ?_).trans q) (fun _ q => q) fun _ _ q => q
    rintro rfl
    rcases hc with rfl | hc
    · rw [hfree] at e; cases e
    · rw [hfree] at hc; cases hc
  rcases hx with hk | hk
  · refine wpAny_storeName_local hk hn (fun h' hn' hs => ?_) hcls
    obtain ⟨oL, _, _, hoL, _⟩ := id hn
    refine h _ ⟨I.ok, I.os, I.bare, ⟨fun b o e n hb hx => ?_, fun b o e n hb hx => ?_, I.base.free, fun b o e hx => ?_, I.base.tups, I.base.frzs, I.base.tbls⟩, ⟨_, hn', fun j y v' e1 e2 e3 => ?_⟩, fun y c e => ?_, I.free, I.freeC, fun p hp => ?_, tracked ⟨oL, hoL, I.free⟩ hs, by simpa using I.len⟩ ⟨_, hs, .inl rfl⟩
    · exact (hs.2 b (Nat.ne_of_lt (Nat.lt_of_lt_of_le (Heap.lt_size e) I.ok.above))).trans (I.base.keep b o e n hb hx)
    · obtain ⟨sl, e1⟩ := I.base.slot b o e n hb hx
      exact ⟨sl, (hs.2 b (Nat.ne_of_lt (Nat.lt_of_lt_of_le (Heap.lt_size e) I.ok.above))).trans e1⟩
    · obtain ⟨o', e1⟩ := I.base.there b o e hx
      exact ⟨o', (hs.2 b (Nat.ne_of_lt (Nat.lt_of_lt_of_le (Heap.lt_size e) I.ok.above))).trans e1⟩
    · by_cases hj : j = i
      · subst hj
        rw [hi] at e1; cases e1
        rw [List.getElem?_set_self hiσ] at e2
        cases e2
        exact ⟨u, r, .inl ⟨hk, by simp⟩⟩
      · rw [List.getElem?_set_ne (Ne.symm hj)] at e2
        obtain ⟨u', r', q⟩ := hl j y v' e1 e2 e3
        refine ⟨u', r', ?_⟩
        rcases q with ⟨k, e⟩ | ⟨k, c, e, z⟩
        · refine .inl ⟨k, ?_⟩
          have : y ≠ x := fun e => hj (nodup_ix hN e1 (e ▸ hi))
          simp [this, e]
        · exact .inr ⟨k, c, e, z.sameBut hs (cne y c e)⟩
    · obtain ⟨w', z⟩ := I.cell y c e
      exact ⟨w', z.sameBut hs (cne y c e)⟩
    · obtain ⟨e, n, ne, nf, d⟩ := I.pin p hp
      exact ⟨(hs.2 p.1 ne).trans e, n, ne, nf, d⟩
  · have hfn : X.fn x = true := by
      rcases hf with z | z
      · exact z
      · rw [z] at hk; cases hk
    obtain ⟨c, hc⟩ := I.ok.has x (.inl hk)
    obtain ⟨w', z⟩ := I.cell x c hc
    refine wpAny_storeName_cell I.ok.kind hk hc z (fun h' hc' hs => ?_)
    obtain ⟨oc, hoc, hocd⟩ := id z
    refine h { s with heap := h' } ⟨I.ok, I.os, I.bare, ⟨fun b o e n hb hx => ?_, fun b o e n hb hx => ?_, I.base.free, fun b o e hx => ?_, I.base.tups, I.base.frzs, I.base.tbls⟩, ⟨m, hn.sameBut hs (Ne.symm (cne x c hc)), fun j y v' e1 e2 e3 => ?_⟩, fun y c' e => ?_, I.free, I.freeC, fun p hp => ?_, tracked ⟨oc, hoc, I.freeC x c hc⟩ hs, by simpa using I.len⟩ ⟨c, hs, .inr hc⟩
    · exact (hs.2 b (Nat.ne_of_lt (Nat.lt_of_lt_of_le (Heap.lt_size e) (I.ok.cab x c hfn hc)))).trans (I.base.keep b o e n hb hx)
    · obtain ⟨sl, e1⟩ := I.base.slot b o e n hb hx
      exact ⟨sl, (hs.2 b (Nat.ne_of_lt (Nat.lt_of_lt_of_le (Heap.lt_size e) (I.ok.cab x c hfn hc)))).trans e1⟩
    · obtain ⟨o', e1⟩ := I.base.there b o e hx
      exact ⟨o', (hs.2 b (Nat.ne_of_lt (Nat.lt_of_lt_of_le (Heap.lt_size e) (I.ok.cab x c hfn hc)))).trans e1⟩
    · by_cases hj : j = i
      · subst hj
        rw [hi] at e1; cases e1
        rw [List.getElem?_set_self hiσ] at e2
        cases e2
        exact ⟨u, r, .inr ⟨.inl hk, c, hc, hc'⟩⟩
      · rw [List.getElem?_set_ne (Ne.symm hj)] at e2
        obtain ⟨u', r', q⟩ := hl j y v' e1 e2 e3
        refine ⟨u', r', ?_⟩
        rcases q with q | ⟨k, c', e, z'⟩
        · exact .inl q
        · refine .inr ⟨k, c', e, z'.sameBut hs ?_⟩
          rintro rfl
          exact hj (nodup_ix hN e1 (I.ok.inj _ _ _ e hc ▸ hi))
    · by_cases hcc : c' = c
      · subst hcc; exact ⟨_, hc'⟩
      · obtain ⟨w2, z2⟩ := I.cell y c' e
        exact ⟨w2, z2.sameBut hs hcc⟩
    · obtain ⟨e, n, ne, nf, d⟩ := I.pin p hp
      refine ⟨(hs.2 p.1 ?_).trans e, n, ne, nf, d⟩
      intro q
      rw [q, hoc] at e
      have q' : oc = p.2 := Option.some.inj e
      exact d w' (by rw [← q']; exact hocd)
theorem store_ok {M : Model} {A : Around} {E : Value → Shared → Prop} {i : Nat} {x : Str} {v : V} {u : Value} {Q : Unit → Shared → Prop} (I : Inv X pins σ H s) (hN : X.N.Nodup) (hi : X.N[i]? = some x) (hx : Loc X.env.scope x) (r : RelV v u)
    (h : ∀ s', Inv X pins (σ.set i (some v)) H s' → Q () s') (hf : X.fn x = true ∨ X.env.scope.names.lookup x = some .local := by first | exact .inl rfl | exact .inr rfl | assumption) : wpAny M A (storeName X.env x u) Q E s :=
  store_ok2 I hN hi hx r (fun s' I' _ => h s' I') hf
/-- behind a call or a block, the state as it is -/
theorem Inv.call' {s' : Shared} {ch : List Addr} (I : Inv X pins σ H s) (ho : s'.os = s.os) (u : Un (frs X.stack) ch H H' s.heap s'.heap) (hok : HOk X.prog X.w H' s'.heap) (hg : AllBare s'.gens)
    (hch : ∀ b ∈ ch, (b ∈ X.ex ∨ X.s₀.heap.objs.size ≤ b) ∧ b ≠ X.env.locals ∧ (∀ x c, X.env.cells.lookup x = some c → c ≠ b) ∧ ∀ p ∈ X.pn ++ pins, p.1 ≠ b) : Inv X pins σ H' s' := by
  obtain ⟨h', g', d', t', o'⟩ := s'
  have e : o' = s.os := ho
  subst e
  exact I.call (g' := g') (t' := t') (d' := d') u hok hg hch
end

/-! ### the judgements -/
/-- an exception: its class, its own dict's address (where it has one), the abstract heap behind it -/
abbrev XK := Value → Option Addr → Hp → Prop
abbrev St := List (Option V)
abbrev VK := V → Hp → Prop
/-- an expression's reading; a test's; an argument list's -/
abbrev TE := St → Hp → VK → Prop
abbrev TT := St → Hp → (Bool → Hp → Prop) → Prop
abbrev TA := St → Hp → (List V → Hp → Prop) → Prop
/-- what is wanted behind a statement -/
structure Ends where
  nx : St → Hp → Prop
  rt : VK
  bk : St → Hp → Prop := fun _ _ => False
  ct : St → Hp → Prop := fun _ _ => False
abbrev TS := Ends → St → Hp → Prop

def EP (X : Cx) (pins : List (Addr × Obj)) (σ : St) (Q : VK) (u : Value) (s' : Shared) : Prop := ∃ v H', Inv X pins σ H' s' ∧ RelV v u ∧ Q v H'
def TP (X : Cx) (pins : List (Addr × Obj)) (σ : St) (Q : Bool → Hp → Prop) (b : Bool) (s' : Shared) : Prop := ∃ H', Inv X pins σ H' s' ∧ Q b H'
def AP (X : Cx) (pins : List (Addr × Obj)) (σ : St) (Q : List V → Hp → Prop) (us : List Value) (s' : Shared) : Prop := ∃ vs H', Inv X pins σ H' s' ∧ Vals vs us ∧ Q vs H'
def SP (X : Cx) (pins : List (Addr × Obj)) (D : Ends) (f : Flow) (s' : Shared) : Prop :=
  match f with
  | .next => ∃ σ' H', Inv X pins σ' H' s' ∧ D.nx σ' H'
  | .brk => ∃ σ' H', Inv X pins σ' H' s' ∧ D.bk σ' H'
  | .cont => ∃ σ' H', Inv X pins σ' H' s' ∧ D.ct σ' H'
  | .ret u => ∃ v σ' H', Inv X pins σ' H' s' ∧ RelV v u ∧ D.rt v H'

structure PE (X : Cx) (e : Expr) (t : TE) : Prop where
  run : ∀ (pins : List (Addr × Obj)) (s : Shared) (σ : St) (H : Hp) (Q : VK), Inv X pins σ H s → t σ H Q → wpAny (model X.prog X.w) X.A (eval e X.env) (EP X pins σ Q) X.xe s
instance {X : Cx} {e : Expr} {t : TE} : CoeFun (PE X e t) (fun _ => ∀ (pins : List (Addr × Obj)) (s : Shared) (σ : St) (H : Hp) (Q : VK), Inv X pins σ H s → t σ H Q → wpAny (model X.prog X.w) X.A (eval e X.env) (EP X pins σ Q) X.xe s) := ⟨PE.run⟩

structure PT (X : Cx) (e : Expr) (t : TT) : Prop where
  run : ∀ (pins : List (Addr × Obj)) (s : Shared) (σ : St) (H : Hp) (Q : Bool → Hp → Prop), Inv X pins σ H s → t σ H Q → wpAny (model X.prog X.w) X.A (isTrue e X.env (eval e X.env)) (TP X pins σ Q) X.xe s
instance {X : Cx} {e : Expr} {t : TT} : CoeFun (PT X e t) (fun _ => ∀ (pins : List (Addr × Obj)) (s : Shared) (σ : St) (H : Hp) (Q : Bool → Hp → Prop), Inv X pins σ H s → t σ H Q → wpAny (model X.prog X.w) X.A (isTrue e X.env (eval e X.env)) (TP X pins σ Q) X.xe s) := ⟨PT.run⟩

/-- a test whatever its 'whole' is (and, or) -/
structure PW (X : Cx) (e : Expr) (t : TT) : Prop where
  run : ∀ (whole : Sem Value) (pins : List (Addr × Obj)) (s : Shared) (σ : St) (H : Hp) (Q : Bool → Hp → Prop), Inv X pins σ H s → t σ H Q → wpAny (model X.prog X.w) X.A (isTrue e X.env whole) (TP X pins σ Q) X.xe s
instance {X : Cx} {e : Expr} {t : TT} : CoeFun (PW X e t) (fun _ => ∀ (whole : Sem Value) (pins : List (Addr × Obj)) (s : Shared) (σ : St) (H : Hp) (Q : Bool → Hp → Prop), Inv X pins σ H s → t σ H Q → wpAny (model X.prog X.w) X.A (isTrue e X.env whole) (TP X pins σ Q) X.xe s) := ⟨PW.run⟩

theorem PW.pt {X : Cx} {e : Expr} {t : TT} (h : PW X e t) : PT X e t := ⟨h _⟩
/-- an argument list (no star), from the left -/
structure PA (X : Cx) (es : List Expr) (t : TA) : Prop where
  run : ∀ (pos : Pos) (pins : List (Addr × Obj)) (s : Shared) (σ : St) (H : Hp) (Q : List V → Hp → Prop), Inv X pins σ H s → t σ H Q → wpAny (model X.prog X.w) X.A (spliced (backTo pos (starEach es X.env))) (AP X pins σ Q) X.xe s
instance {X : Cx} {es : List Expr} {t : TA} : CoeFun (PA X es t) (fun _ => ∀ (pos : Pos) (pins : List (Addr × Obj)) (s : Shared) (σ : St) (H : Hp) (Q : List V → Hp → Prop), Inv X pins σ H s → t σ H Q → wpAny (model X.prog X.w) X.A (spliced (backTo pos (starEach es X.env))) (AP X pins σ Q) X.xe s) := ⟨PA.run⟩

structure PS (X : Cx) (st : Stmt) (t : TS) : Prop where
  run : ∀ (pins : List (Addr × Obj)) (s : Shared) (σ : St) (H : Hp) (D : Ends), Inv X pins σ H s → t D σ H → wpAny (model X.prog X.w) X.A (exec st X.env) (SP X pins D) X.xe s
instance {X : Cx} {st : Stmt} {t : TS} : CoeFun (PS X st t) (fun _ => ∀ (pins : List (Addr × Obj)) (s : Shared) (σ : St) (H : Hp) (D : Ends), Inv X pins σ H s → t D σ H → wpAny (model X.prog X.w) X.A (exec st X.env) (SP X pins D) X.xe s) := ⟨PS.run⟩

structure PSs (X : Cx) (st : List Stmt) (t : TS) : Prop where
  run : ∀ (pins : List (Addr × Obj)) (s : Shared) (σ : St) (H : Hp) (D : Ends), Inv X pins σ H s → t D σ H → wpAny (model X.prog X.w) X.A (execs st X.env) (SP X pins D) X.xe s
instance {X : Cx} {st : List Stmt} {t : TS} : CoeFun (PSs X st t) (fun _ => ∀ (pins : List (Addr × Obj)) (s : Shared) (σ : St) (H : Hp) (D : Ends), Inv X pins σ H s → t D σ H → wpAny (model X.prog X.w) X.A (execs st X.env) (SP X pins D) X.xe s) := ⟨PSs.run⟩

/-- weaken the end -/
theorem thn {α : Type} {t : Sem α} {Q Q' : α → Shared → Prop} {M : Model} {A : Around} {E : Value → Shared → Prop} {s : Shared} (h : wpAny M A t Q E s) (hQ : ∀ a s, Q a s → Q' a s) : wpAny M A t Q' E s := wpAny_mono h hQ fun _ _ x => x
end L2

namespace L2
open PySem PySem.Spec PyProof.Rows
section
variable {X : Cx}

/-- two expressions in a row -/
theorem bin {a b : Expr} {ta tb : TE} (ha : PE X a ta) (hb : PE X b tb) {pins : List (Addr × Obj)} {s : Shared} {σ : St} {H : Hp} {R : V → V → Hp → Prop} (I : Inv X pins σ H s) (h : ta σ H fun x H1 => tb σ H1 fun y H2 => R x y H2)
    {α : Type} {Q : α → Shared → Prop} {f : Value → Value → Sem α}
    (hf : ∀ v u s2 x y H2, Inv X pins σ H2 s2 → RelV x v → RelV y u → R x y H2 → wpAny (model X.prog X.w) X.A (f v u) Q X.xe s2) :
    wpAny (model X.prog X.w) X.A (eval a X.env) (fun v s₁ => wpAny (model X.prog X.w) X.A (eval b X.env) (fun u s₂ => wpAny (model X.prog X.w) X.A (f v u) Q X.xe s₂) X.xe s₁) X.xe s := by
  refine thn (ha pins s σ H _ I h) fun v s1 ⟨x, H1, I1, r1, q1⟩ => ?_
  refine thn (hb pins s1 σ H1 _ I1 q1) fun u s2 ⟨y, H2, I2, r2, q2⟩ => ?_
  exact hf v u s2 x y H2 I2 r1 r2 q2

/-! ### names and constants -/
def tVar (i : Nat) : TE := fun σ H Q => ∃ v, σ[i]? = some (some v) ∧ Q v H
def tC (v : V) : TE := fun _ H Q => Q v H
theorem pe_var {i : Nat} {x : Str} {pos : Pos} (hN : X.N[i]? = some x) (hv : Vis X.env.scope x) (hd : (x == ("__debug__" : Str)) = false := by decide) (hcd : (x == ("__classdict__" : Str)) = false := by decide) : PE X (.Name x pos) (tVar i) := by
  refine ⟨?_⟩
  intro pins s σ H Q I h
  obtain ⟨v, e, h⟩ := h
  obtain ⟨m, hn, hl⟩ := I.loc
  obtain ⟨u, r, l⟩ := hl i x v hN e hv
  have fin : EP X pins σ Q u s := ⟨v, H, I, r, h⟩
  rcases l with ⟨hk, hm⟩ | ⟨hk, c, hc, hcell⟩
  · exact wpAny_Name (wpAny_loadName_local I.ok.kind hk hn hm fin) hd
  · rcases hk with hk | hk
    · exact wpAny_Name (wpAny_loadName_cell I.ok.kind hk hc hcell fin) hd
    · exact wpAny_Name (wpAny_loadName_free I.ok.kind hk hc hcell fin hcd) hd
theorem pe_int {i j pos} : PE X (.Constant (.int i) j pos) (tC (.int i)) := ⟨fun _ _ _ H _ I h => wpAny_Constant_int ⟨.int i, H, I.tok _, ⟨_, rfl⟩, h⟩⟩
theorem pe_bl {b j pos} : PE X (.Constant (.bool b) j pos) (tC (.bl b)) := ⟨fun _ _ _ H _ I h => Constant_bool ⟨.bl b, H, I, rfl, h⟩⟩
theorem pe_non {j pos} : PE X (.Constant .none j pos) (tC .non) := ⟨fun _ _ _ H _ I h => Constant_none ⟨.non, H, I, rfl, h⟩⟩
theorem pe_str {x j pos} : PE X (.Constant (.str x) j pos) (tC (.str x)) := ⟨fun _ _ _ H _ I h => Calls.Constant_str ⟨.str x, H, I.tok _, ⟨_, rfl⟩, h⟩⟩

/-- a global name of the def -/
def Gl (X : Cx) (x : Str) : Prop := X.env.kindOf x = some .globalImplicit
theorem ld_glob {E : Value → Shared → Prop} {pins : List (Addr × Obj)} {s : Shared} {σ : St} {H : Hp} {x : Str} {u : Value} {pos : Pos} {Q : Value → Shared → Prop} (I : Inv X pins σ H s) (hg : Gl X x) (hm : X.mg x = some u) (h : Q u s)
    (hd : (x == ("__debug__" : Str)) = false := by decide) : wpAny (model X.prog X.w) X.A (eval (.Name x pos) X.env) Q E s :=
  Calls.Name_function_global I.ok.kind hg (Calls.loadGlobal_global (by rw [I.ok.glob]; exact I.mod.glob.keeps I.bk) hm h) hd
theorem ld_blt {E : Value → Shared → Prop} {pins : List (Addr × Obj)} {s : Shared} {σ : St} {H : Hp} {x : Str} {u : Value} {pos : Pos} {Q : Value → Shared → Prop} (I : Inv X pins σ H s) (hg : Gl X x) (hm : X.mg x = none) (hv : bootBuiltins x = some u) (h : Q u s)
    (hn : x ≠ "__name__" := by decide) (hd : (x == ("__debug__" : Str)) = false := by decide) : wpAny (model X.prog X.w) X.A (eval (.Name x pos) X.env) Q E s := by
  obtain ⟨mb, h1, h2⟩ := I.mod.blt
  exact Calls.Name_function_global I.ok.kind hg (Calls.loadGlobal_builtin (by rw [I.ok.glob]; exact I.mod.glob.keeps I.bk) hm (by rw [I.ok.blt]; exact h1.keeps I.bk) ((h2 x hn).trans hv) h) hd
/-- a module's constant, a class, a function, as a value -/
theorem pe_glob {x : Str} {v : V} {u : Value} {pos : Pos} (hg : Gl X x) (hm : X.mg x = some u) (r : RelV v u) (hd : (x == ("__debug__" : Str)) = false := by decide) : PE X (.Name x pos) (tC v) := ⟨fun _ _ _ H _ I h => ld_glob I hg hm ⟨v, H, I, r, h⟩ hd⟩
theorem pe_bltn {x : Str} {v : V} {u : Value} {pos : Pos} (hg : Gl X x) (hm : X.mg x = none) (hv : bootBuiltins x = some u) (r : RelV v u) (hn : x ≠ "__name__" := by decide) (hd : (x == ("__debug__" : Str)) = false := by decide) : PE X (.Name x pos) (tC v) := ⟨fun _ _ _ H _ I h => ld_blt I hg hm hv ⟨v, H, I, r, h⟩ hn hd⟩

/-! ### arithmetic -/
variable {a b : Expr} {ta tb : TE} {pos : Pos}
/-! ### comparisons -/
structure PC (X : Cx) (op : CmpOp) (a b : Expr) (t : TE) : Prop where
  run : ∀ (pins : List (Addr × Obj)) (s : Shared) (σ : St) (H : Hp) (Q : VK), Inv X pins σ H s → t σ H Q →
    wpAny (model X.prog X.w) X.A (eval a X.env) (fun v s₁ => wpAny (model X.prog X.w) X.A (eval b X.env) (fun u s₂ => wpAny (model X.prog X.w) X.A (compareOp op v u) (EP X pins σ Q) X.xe s₂) X.xe s₁) X.xe s
instance {X : Cx} {op : CmpOp} {a b : Expr} {t : TE} : CoeFun (PC X op a b t) (fun _ => ∀ (pins : List (Addr × Obj)) (s : Shared) (σ : St) (H : Hp) (Q : VK), Inv X pins σ H s → t σ H Q →
    wpAny (model X.prog X.w) X.A (eval a X.env) (fun v s₁ => wpAny (model X.prog X.w) X.A (eval b X.env) (fun u s₂ => wpAny (model X.prog X.w) X.A (compareOp op v u) (EP X pins σ Q) X.xe s₂) X.xe s₁) X.xe s) := ⟨PC.run⟩

theorem nobehind (b : Expr) {op : CmpOp} (h : op ≠ .In) (h2 : op ≠ .NotIn) : behindInMarks op b = false := by
  have e1 : (op == CmpOp.In) = false := by cases op <;> first | rfl | exact absurd rfl h
  have e2 : (op == CmpOp.NotIn) = false := by cases op <;> first | rfl | exact absurd rfl h2
  cases b <;> simp [behindInMarks, e1, e2]
/-- is None -/
def tIsN (ta : TE) : TE := fun σ H Q => ta σ H fun x H1 => Q (.bl (decide (x = .non))) H1
def tNotN (ta : TE) : TE := fun σ H Q => ta σ H fun x H1 => Q (.bl (!decide (x = .non))) H1
theorem RelV.none_iff {x : V} {v : Value} (r : RelV x v) : (v == Value.none) = decide (x = .non) := by
  cases x with
  | non => cases r; rfl
  | bl _ => cases r; rfl
  | int _ => obtain ⟨t, rfl⟩ := r; rfl
  | str _ => obtain ⟨t, rfl⟩ := r; rfl
  | byt _ => obtain ⟨t, rfl⟩ := r; rfl
  | flt _ => obtain ⟨t, rfl⟩ := r; rfl
  | ref _ => cases r; rfl
  | ty _ => cases r; rfl
theorem pc_isN {j pos'} (ha : PE X a ta) : PC X .Is a (.Constant .none j pos') (tIsN ta) := by
  refine ⟨?_⟩
  intro pins s σ H Q I h
  refine thn (ha pins s σ H _ I h) fun v s1 ⟨x, H1, I1, r1, q1⟩ => ?_
  exact Constant_none (is_none_gen ⟨.bl _, H1, I1, by rw [r1.none_iff]; rfl, q1⟩)
theorem pc_notN {j pos'} (ha : PE X a ta) : PC X .IsNot a (.Constant .none j pos') (tNotN ta) := by
  refine ⟨?_⟩
  intro pins s σ H Q I h
  refine thn (ha pins s σ H _ I h) fun v s1 ⟨x, H1, I1, r1, q1⟩ => ?_
  exact Constant_none (isnot_none_gen ⟨.bl _, H1, I1, by rw [r1.none_iff]; rfl, q1⟩)
/-- a comparison as a value, as a test -/
def tB (t : TE) : TT := fun σ H Q => t σ H fun x H1 => ∃ c, x = .bl c ∧ Q c H1
theorem pe_cmp {op : CmpOp} {t : TE} (h : PC X op a b t) (h1 : behindInMarks op b = false := by first | exact nobehind _ (by decide) (by decide) | rfl) : PE X (.Compare a [op] [b] pos) t := ⟨fun pins s σ H Q I hw => wpAny_Compare1 (h pins s σ H Q I hw) h1⟩
theorem pt_cmp {op : CmpOp} {t : TE} (h : PC X op a b t) (h1 : behindInMarks op b = false := by first | exact nobehind _ (by decide) (by decide) | rfl) : PT X (.Compare a [op] [b] pos) (tB t) := by
  refine ⟨?_⟩
  intro pins s σ H Q I hw
  refine wpAny_isTrue_Compare1 (thn (h pins s σ H _ I hw) fun v s1 h1 => thn h1 fun u s2 h2 => thn h2 fun c s3 ⟨x, H1, I1, r1, q1⟩ => ?_) h1
  obtain ⟨d, rfl, q⟩ := q1
  cases r1
  exact wpAny_truthy_bool ⟨H1, I1, q⟩
/-- an expression whose value is a bool, as a test -/
theorem pt_val {e : Expr} {t : TE} (h : PE X e t) (he : ∀ whole, isTrue e X.env whole = (do let v ← whole; standAt e.pos; holding [v] (truthy v)) := by intro _; rfl) : PT X e (tB t) := by
  refine ⟨?_⟩
  intro pins s σ H Q I hw
  refine isTrue_plain (thn (h pins s σ H _ I hw) fun v s1 ⟨x, H1, I1, r1, q1⟩ => ?_) (he _)
  obtain ⟨d, rfl, q⟩ := q1
  cases r1
  exact wpAny_truthy_bool ⟨H1, I1, q⟩

/-! ### and, or, not -/
variable {tA tB' : TT} {rest : List Expr}
def tAnd (t u : TT) : TT := fun σ H Q => t σ H fun c H1 => if c = true then u σ H1 Q else Q false H1
def tOr (t u : TT) : TT := fun σ H Q => t σ H fun c H1 => if c = true then Q true H1 else u σ H1 Q
def tNot (t : TT) : TT := fun σ H Q => t σ H fun c H1 => Q (!c) H1
theorem pw_and1 (ha : PT X a tA) : PW X (.BoolOp .And [a] pos) tA := by
  refine ⟨?_⟩
  intro wh pins s σ H Q I h
  refine isTrue_and (thn (ha pins s σ H Q I h) fun c s1 e => ?_)
  cases c with
  | true => exact isTrue_and_nil e
  | false => exact e
theorem pw_or1 (ha : PT X a tA) : PW X (.BoolOp .Or [a] pos) tA := by
  refine ⟨?_⟩
  intro wh pins s σ H Q I h
  refine isTrue_or (thn (ha pins s σ H Q I h) fun c s1 e => ?_)
  cases c with
  | false => exact isTrue_or_nil e
  | true => exact e
theorem pw_and (ha : PT X a tA) (hb : PW X (.BoolOp .And (b :: rest) pos) tB') : PW X (.BoolOp .And (a :: b :: rest) pos) (tAnd tA tB') := by
  refine ⟨?_⟩
  intro wh pins s σ H Q I h
  refine isTrue_and (thn (ha pins s σ H _ I h) fun c s1 ⟨H1, I1, q1⟩ => ?_)
  cases c with
  | true => exact hb wh pins s1 σ H1 Q I1 q1
  | false => exact ⟨H1, I1, q1⟩
theorem pw_or (ha : PT X a tA) (hb : PW X (.BoolOp .Or (b :: rest) pos) tB') : PW X (.BoolOp .Or (a :: b :: rest) pos) (tOr tA tB') := by
  refine ⟨?_⟩
  intro wh pins s σ H Q I h
  refine isTrue_or (thn (ha pins s σ H _ I h) fun c s1 ⟨H1, I1, q1⟩ => ?_)
  cases c with
  | true => exact ⟨H1, I1, q1⟩
  | false => exact hb wh pins s1 σ H1 Q I1 q1
theorem pt_not (ha : PT X a tA) : PT X (.UnaryOp .Not a pos) (tNot tA) := by
  refine ⟨?_⟩
  intro pins s σ H Q I h
  exact isTrue_not (ha pins s σ H (fun c H1 => Q (!c) H1) I h)
/-- .. as values (bools) -/
def tAndV (ta tb : TE) : TE := fun σ H Q => ta σ H fun x H1 => ∃ c, x = .bl c ∧ if c = true then tb σ H1 Q else Q (.bl false) H1
def tNotV (ta : TE) : TE := fun σ H Q => ta σ H fun x H1 => ∃ c, x = .bl c ∧ Q (.bl (!c)) H1
theorem pe_one {op} {t : TE} (h : PE X a t) : PE X (.BoolOp op [a] pos) t := ⟨fun pins s σ H Q I hw => BoolOp_one (h pins s σ H Q I hw)⟩
theorem pe_and (ha : PE X a ta) (hb : PE X (.BoolOp .And (b :: rest) pos) tb) : PE X (.BoolOp .And (a :: b :: rest) pos) (tAndV ta tb) := by
  refine ⟨?_⟩
  intro pins s σ H Q I h
  refine BoolOp_and (thn (ha pins s σ H _ I h) fun v s1 ⟨x, H1, I1, r1, q1⟩ => ?_)
  obtain ⟨c, rfl, q1⟩ := q1
  cases r1
  refine wpAny_truthy_bool ?_
  cases c with
  | true => exact hb pins s1 σ H1 Q I1 q1
  | false => exact ⟨.bl false, H1, I1, rfl, q1⟩
theorem pe_not (ha : PE X a ta) : PE X (.UnaryOp .Not a pos) (tNotV ta) := by
  refine ⟨?_⟩
  intro pins s σ H Q I h
  refine UnaryOp_ (thn (ha pins s σ H _ I h) fun v s1 ⟨x, H1, I1, r1, q1⟩ => ?_)
  obtain ⟨c, rfl, q1⟩ := q1
  cases r1
  exact not_of (wpAny_truthy_bool ⟨.bl (!c), H1, I1, rfl, q1⟩)
/-- a if t else b -/
def tIf (t : TT) (ta tb : TE) : TE := fun σ H Q => t σ H fun c H1 => if c = true then ta σ H1 Q else tb σ H1 Q
theorem pe_ifExp {c : Expr} (hc : PT X c tA) (ha : PE X a ta) (hb : PE X b tb) : PE X (.IfExp c a b pos) (tIf tA ta tb) := by
  refine ⟨?_⟩
  intro pins s σ H Q I h
  refine wpAny_IfExp (thn (hc pins s σ H _ I h) fun d s1 ⟨H1, I1, q1⟩ => ?_)
  cases d with
  | true => exact ha pins s1 σ H1 Q I1 q1
  | false => exact hb pins s1 σ H1 Q I1 q1
end
end L2

namespace L2
open PySem PySem.Spec PyProof.Rows

/-! ### a list, a tuple that is read: tracked, frozen, or an object of the module -/
def SqL (K : PySem.W.Frag) (H : Hp) (a : Addr) (xs : List V) : Prop :=
  Rd H a (.lst xs) ∨
    ∃ (o : Obj) (its : Array Value) (n : Nat), K.lookup a = some o ∧ o.cls = .type "list" ∧ o.dict = none ∧ o.data = .seq its n ∧ its.size ≤ sizeLine ∧ Vals xs its.toList
def SqT (K : PySem.W.Frag) (H : Hp) (a : Addr) (xs : List V) : Prop :=
  Rd H a (.tup xs) ∨
    ∃ (o : Obj) (its : Array Value) (n : Nat), K.lookup a = some o ∧ o.cls = .type "tuple" ∧ o.data = .seq its n ∧ its.size ≤ sizeLine ∧ Vals xs its.toList
def absV : Value → Option V
  | .none => some .non
  | .bool b => some (.bl b)
  | .int i _ => some (.int i)
  | .str x _ => some (.str x)
  | .bytes b _ => some (.byt b)
  | .float b _ => some (.flt b)
  | .ref a => some (.ref a)
  | .type n => some (.ty n)
  | _ => none
theorem RelV.abs {x : V} {u : Value} (r : RelV x u) : absV u = some x := by
  cases x with
  | non => cases r; rfl
  | bl _ => cases r; rfl
  | int _ => obtain ⟨t, rfl⟩ := r; rfl
  | str _ => obtain ⟨t, rfl⟩ := r; rfl
  | byt _ => obtain ⟨t, rfl⟩ := r; rfl
  | flt _ => obtain ⟨t, rfl⟩ := r; rfl
  | ref _ => cases r; rfl
  | ty _ => cases r; rfl
theorem RelV.inj {x y : V} {u : Value} (r : RelV x u) (q : RelV y u) : x = y := Option.some.inj (r.abs.symm.trans q.abs)
theorem Vals.inj : ∀ {xs ys : List V} {us : List Value}, Vals xs us → Vals ys us → xs = ys
  | _, _, _, .nil, .nil => rfl
  | _, _, _, .cons r t, .cons r' t' => by rw [r.inj r', Vals.inj t t']
section
variable {X : Cx} {pins : List (Addr × Obj)} {σ : St} {H : Hp} {s : Shared} {a : Addr} {xs ys : List V}
theorem SqL.of {K : PySem.W.Frag} (h : H a = some (.lst xs)) : SqL K H a xs := .inl (.inl h)
theorem SqT.of {K : PySem.W.Frag} (h : H a = some (.tup xs)) : SqT K H a xs := .inl (.inl h)
theorem Inv.list (I : Inv X pins σ H s) (h : SqL X.K H a xs) : ∃ its : List Value, Vals xs its ∧ PlainL s.heap a its.toArray ∧ xs.length ≤ sizeLine := by
  rcases h with h | ⟨o, its, n, hk, hc, hd, hs, hz, r⟩
  · obtain ⟨z, its, n, r, e⟩ := h.ok I.hok
    exact ⟨its, r, ⟨_, n, e, rfl, rfl, rfl⟩, z⟩
  · refine ⟨its.toList, r, ⟨o, n, I.kIn a o hk, hc, hd, by simpa using hs⟩, ?_⟩
    have e := r.length
    simp only [Array.length_toList] at e
    omega
theorem Inv.tuple (I : Inv X pins σ H s) (h : SqT X.K H a xs) : ∃ its : List Value, Vals xs its ∧ IsTup s.heap a its.toArray ∧ xs.length ≤ sizeLine := by
  rcases h with h | ⟨o, its, n, hk, hc, hs, hz, r⟩
  · obtain ⟨z, its, r, p⟩ := h.ok I.hok
    exact ⟨its, r, p, z⟩
  · refine ⟨its.toList, r, ⟨o, I.kIn a o hk, hc, n, by simpa using hs⟩, ?_⟩
    have e := r.length
    simp only [Array.length_toList] at e
    omega
theorem Inv.list_inj (I : Inv X pins σ H s) (h : SqL X.K H a xs) (h' : SqL X.K H a ys) : xs = ys := by
  obtain ⟨its, r, ⟨o, n, e, _, _, d⟩, _⟩ := I.list h
  obtain ⟨its', r', ⟨o', n', e', _, _, d'⟩, _⟩ := I.list h'
  rw [e] at e'; cases e'
  rw [d] at d'
  injection d' with d1 _
  have : its = its' := by simpa using congrArg Array.toList d1
  subst this
  exact r.inj r'
end

/-! ### another wish about exceptions -/
abbrev Cx.wish (X : Cx) (E : Value → Shared → Prop) : Cx := { X with xe := E }
/-- no exception leaves -/
abbrev Cx.nox (X : Cx) : Cx := X.wish fun _ _ => False
theorem Cx.Ok.wish {X : Cx} (ok : X.Ok) (E : Value → Shared → Prop) : (X.wish E).Ok :=
  ⟨ok.mod, ok.kind, ok.glob, ok.blt, ok.above, ok.inj, ok.has, ok.cab, ok.hd, ok.frames, ok.stk, ok.exf, ok.bs, ok.bsz, ok.noex, ok.exfs, ok.funs, ok.frf⟩
theorem Cx.Ok.unwish {X : Cx} {E : Value → Shared → Prop} (ok : (X.wish E).Ok) : X.Ok :=
  ⟨ok.mod, ok.kind, ok.glob, ok.blt, ok.above, ok.inj, ok.has, ok.cab, ok.hd, ok.frames, ok.stk, ok.exf, ok.bs, ok.bsz, ok.noex, ok.exfs, ok.funs, ok.frf⟩
section
variable {X : Cx} {pins : List (Addr × Obj)} {σ : St} {H : Hp} {s : Shared} {E : Value → Shared → Prop}
theorem Inv.wish (I : Inv X pins σ H s) (E : Value → Shared → Prop) : Inv (X.wish E) pins σ H s := ⟨I.ok.wish E, I.os, I.bare, I.base, I.loc, I.cell, I.free, I.freeC, I.pin, I.hok, I.len⟩
theorem Inv.unwish (I : Inv (X.wish E) pins σ H s) : Inv X pins σ H s := ⟨I.ok.unwish, I.os, I.bare, I.base, I.loc, I.cell, I.free, I.freeC, I.pin, I.hok, I.len⟩
theorem SP.unwish {D : Ends} {f : Flow} {s' : Shared} (h : SP (X.wish E) pins D f s') : SP X pins D f s' := by
  cases f with
  | next => obtain ⟨σ', H', I, q⟩ := h; exact ⟨σ', H', I.unwish, q⟩
  | brk => obtain ⟨σ', H', I, q⟩ := h; exact ⟨σ', H', I.unwish, q⟩
  | cont => obtain ⟨σ', H', I, q⟩ := h; exact ⟨σ', H', I.unwish, q⟩
  | ret u => obtain ⟨v, σ', H', I, r, q⟩ := h; exact ⟨v, σ', H', I.unwish, r, q⟩
theorem PSs.nox {st : List Stmt} {t : TS} (h : PSs X.nox st t) : PSs X st t := ⟨fun pins s σ H D I hw =>
  wpAny_mono (h pins s σ H D (I.wish _) hw) (fun _ _ q => q.unwish) fun _ _ z => False.elim z⟩
end

/-! ### blocks and small statements -/
section
variable {X : Cx} {st : Stmt} {rest : List Stmt} {t u : TS} {e : Expr} {te : TE} {pos : Pos}
def tNext : TS := fun D σ H => D.nx σ H
def tSeq (t u : TS) : TS := fun D σ H => t { D with nx := u D } σ H
theorem pss_nil : PSs X [] tNext := ⟨fun _ _ σ H _ I h => wpAny_execs_nil ⟨σ, H, I, h⟩⟩
theorem pss_cons (h1 : PS X st t) (h2 : PSs X rest u) : PSs X (st :: rest) (tSeq t u) := by
  refine ⟨?_⟩
  intro pins s σ H D I h
  refine wpAny_execs_cons (thn (h1 pins s σ H { D with nx := u D } I h) fun f s1 q => ?_)
  cases f with
  | next =>
    obtain ⟨σ', H', I', q⟩ := q
    exact h2 pins s1 σ' H' D I' q
  | ret v => exact q
  | brk => exact q
  | cont => exact q
theorem pss_one (h1 : PS X st t) : PSs X [st] t := by
  refine ⟨?_⟩
  intro pins s σ H D I h
  refine wpAny_execs_cons (thn (h1 pins s σ H D I h) fun f s1 q => ?_)
  cases f with
  | next => exact wpAny_execs_nil q
  | ret v => exact q
  | brk => exact q
  | cont => exact q
/-- in a def's body nothing is shown -/
theorem Inv.quiet {pins : List (Addr × Obj)} {σ : St} {H : Hp} {s : Shared} (I : Inv X pins σ H s) : interactive X.env = false := by simp [interactive, I.ok.kind]
/-- an expression whose value is dropped -/
def tDrop (te : TE) : TS := fun D σ H => te σ H fun _ H1 => D.nx σ H1
theorem ps_expr (he : PE X e te) (hs : swapsWith e none pos.line X.env = pure false := by rfl) : PS X (.Expr e pos) (tDrop te) := by
  refine ⟨?_⟩
  intro pins s σ H D I h
  exact wpAny_Expr_any (thn (he pins s σ H _ I h) fun v s1 ⟨x, H1, I1, r1, q1⟩ => ⟨σ, H1, I1, q1⟩) I.quiet hs
def tRet (te : TE) : TS := fun D σ H => te σ H D.rt
theorem ps_ret (he : PE X e te) : PS X (.Return (some e) pos) (tRet te) := by
  refine ⟨?_⟩
  intro pins s σ H D I h
  exact wpAny_Return_some (thn (he pins s σ H _ I h) fun v s1 ⟨x, H1, I1, r1, q1⟩ => ⟨x, σ, H1, I1, r1, q1⟩)
def tIfS (c : TT) (t u : TS) : TS := fun D σ H => c σ H fun b H1 => if b = true then t D σ H1 else u D σ H1
theorem ps_if {c : Expr} {a b : List Stmt} {tc : TT} (hc : PT X c tc) (ha : PSs X a t) (hb : PSs X b u) : PS X (.If c a b pos) (tIfS tc t u) := by
  refine ⟨?_⟩
  intro pins s σ H D I h
  refine wpAny_If (thn (hc pins s σ H _ I h) fun d s1 ⟨H1, I1, q1⟩ => ?_)
  cases d with
  | true => exact ha pins s1 σ H1 D I1 q1
  | false => exact hb pins s1 σ H1 D I1 q1
end

/-! ### targets -/
abbrev TG := V → St → Hp → (St → Hp → Prop) → Prop
abbrev TGs := List V → St → Hp → (St → Hp → Prop) → Prop
structure PG (X : Cx) (target : Expr) (t : TG) : Prop where
  run : ∀ (pins : List (Addr × Obj)) (s : Shared) (σ : St) (H : Hp) (v : V) (u : Value) (Q : St → Hp → Prop), Inv X pins σ H s → RelV v u → t v σ H Q →
    wpAny (model X.prog X.w) X.A (assign target X.env u) (fun _ s' => ∃ σ' H', Inv X pins σ' H' s' ∧ Q σ' H') X.xe s
instance {X : Cx} {target : Expr} {t : TG} : CoeFun (PG X target t) (fun _ => ∀ (pins : List (Addr × Obj)) (s : Shared) (σ : St) (H : Hp) (v : V) (u : Value) (Q : St → Hp → Prop), Inv X pins σ H s → RelV v u → t v σ H Q →
    wpAny (model X.prog X.w) X.A (assign target X.env u) (fun _ s' => ∃ σ' H', Inv X pins σ' H' s' ∧ Q σ' H') X.xe s) := ⟨PG.run⟩

/-- several targets, one after another -/
structure PGs (X : Cx) (ts : List Expr) (t : TGs) : Prop where
  run : ∀ (pins : List (Addr × Obj)) (s : Shared) (σ : St) (H : Hp) (vs : List V) (us : List Value) (Q : St → Hp → Prop), Inv X pins σ H s → Vals vs us → t vs σ H Q →
    wpAny (model X.prog X.w) X.A (assignInOrder ((assignEach ts X.env).map (·.2)) us) (fun _ s' => ∃ σ' H', Inv X pins σ' H' s' ∧ Q σ' H') X.xe s
instance {X : Cx} {ts : List Expr} {t : TGs} : CoeFun (PGs X ts t) (fun _ => ∀ (pins : List (Addr × Obj)) (s : Shared) (σ : St) (H : Hp) (vs : List V) (us : List Value) (Q : St → Hp → Prop), Inv X pins σ H s → Vals vs us → t vs σ H Q →
    wpAny (model X.prog X.w) X.A (assignInOrder ((assignEach ts X.env).map (·.2)) us) (fun _ s' => ∃ σ' H', Inv X pins σ' H' s' ∧ Q σ' H') X.xe s) := ⟨PGs.run⟩

section
variable {X : Cx} {pos : Pos}
def gName (i : Nat) : TG := fun v σ H Q => Q (σ.set i (some v)) H
theorem pg_name {i : Nat} {x : Str} (hN : X.N.Nodup) (hi : X.N[i]? = some x) (hx : Loc X.env.scope x) (hf : X.fn x = true ∨ X.env.scope.names.lookup x = some .local := by first | exact .inl rfl | exact .inr rfl | assumption) : PG X (.Name x pos) (gName i) := by
  refine ⟨?_⟩
  intro pins s σ H v u Q I r h
  exact wpAny_assign_Name (store_ok I hN hi hx r (fun s' I' => ⟨_, H, I', h⟩) hf)
def gNil : TGs := fun vs σ H Q => vs = [] ∧ Q σ H
def gCons (t : TG) (u : TGs) : TGs := fun vs σ H Q => ∃ v r, vs = v :: r ∧ t v σ H fun σ' H' => u r σ' H' Q
theorem pgs_nil : PGs X [] gNil := by
  refine ⟨?_⟩
  intro pins s σ H vs us Q I r h
  obtain ⟨e, h⟩ := h
  subst e
  cases r
  exact assignInOrder_nil ⟨σ, H, I, h⟩
theorem pgs_cons {e : Expr} {es : List Expr} {t : TG} {u : TGs} (h1 : PG X e t) (h2 : PGs X es u)
    (hs : (assignEach (e :: es) X.env).map (·.2) = assign e X.env :: (assignEach es X.env).map (·.2) := by rfl) : PGs X (e :: es) (gCons t u) := by
  refine ⟨?_⟩
  intro pins s σ H vs us Q I r h
  obtain ⟨v, vr, e1, h⟩ := h
  subst e1
  cases r with
  | cons r rr =>
    rw [hs]
    refine assignInOrder_cons (thn (h1 pins s σ H _ _ _ I r h) fun _ s1 ⟨σ1, H1, I1, q1⟩ => ?_)
    exact h2 pins s1 σ1 H1 _ _ Q I1 rr q1
/-- (a, b, ..) = a tuple of that length -/
def gTup (K : PySem.W.Frag) (n : Nat) (t : TGs) : TG := fun v σ H Q => ∃ a xs, v = .ref a ∧ SqT K H a xs ∧ xs.length = n ∧ t xs σ H Q
theorem pg_tup {es : List Expr} {k : Nat} {t : TGs} {n : Nat} (hc : X.calm = true) (h : PGs X es t)
    (hn : (assignEach es X.env).length = n := by rfl) (hst : (assignEach es X.env).findIdx? (·.1) = none := by rfl) : PG X (.Tuple es k pos) (gTup X.K n t) := by
  refine ⟨?_⟩
  intro pins s σ H v u Q I r hw
  obtain ⟨a, xs, e1, hq, hl, hw⟩ := hw
  subst e1
  cases r
  obtain ⟨its, rv, ht, hz⟩ := I.tuple hq
  refine assign_Tuple_tuple (I.ok.hd hc) ht (by simp [hn, ← hl, rv.length]) hst fun h' hx => ?_
  have I1 : Inv X pins σ H { s with heap := h' } := I.kept (t' := s.toks) fun b o e => hx b o (Nat.ne_of_lt (Heap.lt_size e)) e
  exact h pins _ σ H xs _ Q I1 (by simpa using rv) hw
/-- target = value -/
def tAsg (te : TE) (g : TG) : TS := fun D σ H => te σ H fun x H1 => g x σ H1 D.nx
theorem ps_asg {tg e : Expr} {te : TE} {g : TG} (he : PE X e te) (hg : PG X tg g) (hs : swapsWithSole [tg] e pos.line X.env = pure false := by rfl) (hw : swappedStores [tg] e X.env = pure none := by rfl)
    (h1 : (assignEach [tg] X.env).map (·.2) = [assign tg X.env] := by rfl) : PS X (.Assign [tg] e pos) (tAsg te g) := by
  refine ⟨?_⟩
  intro pins s σ H D I h
  refine wpAny_Assign_stores (thn (he pins s σ H _ I h) fun v s1 ⟨x, H1, I1, r1, q1⟩ => ?_) hs hw
  rw [h1]
  exact thn (hg pins s1 σ H1 x v _ I1 r1 q1) fun _ s2 q => q
/-- name = value -/
theorem ps_set {i : Nat} {x : Str} {e : Expr} {te : TE} {pos' : Pos} (hN : X.N.Nodup) (hi : X.N[i]? = some x) (hx : Loc X.env.scope x) (he : PE X e te) (hs : swapsWith e (some (.Name x pos')) pos.line X.env = pure false := by rfl) (hf : X.fn x = true ∨ X.env.scope.names.lookup x = some .local := by first | exact .inl rfl | exact .inr rfl | assumption) :
    PS X (.Assign [.Name x pos'] e pos) (tAsg te (gName i)) := by
  refine ⟨?_⟩
  intro pins s σ H D I h
  refine wpAny_Assign_Name (thn (he pins s σ H _ I h) fun v s1 ⟨y, H1, I1, r1, q1⟩ => ?_) hs
  exact store_ok I1 hN hi hx r1 (fun s2 I2 => ⟨_, H1, I2, q1⟩) hf
end

/-! ### while -/
section
variable {X : Cx} {pos : Pos}
end

/-! ### what a loop or a comprehension walks -/
/-- at turn i: it yields x (the heap may grow), or it stops -/
structure It where
  go : Nat → Hp → Prop
  yld : Nat → Hp → V → Hp → Prop
  stop : Nat → Hp → Prop
/-- the iterator's own objects may turn: they are not the frame's, not pinned, younger than the entry (or a comprehension's own) -/
def FpOk (X : Cx) (pins : List (Addr × Obj)) (H : Hp) (b : Addr) : Prop :=
  H b = none ∧ b ≠ X.env.locals ∧ b ∉ X.fs ∧ (b ∈ X.ex ∨ X.s₀.heap.objs.size ≤ b) ∧ (∀ x c, X.env.cells.lookup x = some c → c ≠ b) ∧ ∀ p ∈ X.pn ++ pins, p.1 ≠ b
theorem Inv.fpOk {X : Cx} {pins : List (Addr × Obj)} {σ : St} {H H' : Hp} {s : Shared} {b : Addr} (I : Inv X pins σ H s) (hb : s.heap.objs.size ≤ b) (hn : H' b = none) : FpOk X pins H' b := by
  refine ⟨hn, Nat.ne_of_gt (Nat.lt_of_lt_of_le I.lt hb), I.nofs hb, .inr (Nat.le_trans I.sz hb), fun x c e z => ?_, fun p hp z => ?_⟩
  · obtain ⟨v, q⟩ := I.cell x c e
    exact absurd (Nat.lt_of_lt_of_le q.lt (by rw [z]; exact hb)) (Nat.lt_irrefl _)
  · exact absurd (Nat.lt_of_lt_of_le (Heap.lt_size (I.pin p hp).1) (by rw [z]; exact hb)) (Nat.lt_irrefl _)
structure Turn (P : Program) (w : World) (K : PySem.W.Frag) (tg : Expr) (J : It) (fp : List Addr) (it : Addr) (tn : Nat → Heap → Prop) : Prop where
  mem : it ∈ fp
  obj : ∀ i h, tn i h → ∀ b ∈ fp, ∃ o, h.get? b = some o ∧ ∀ v, o.data ≠ .cell v
  keep : ∀ i h h', tn i h → (∀ b ∈ fp, ∀ o, h.get? b = some o → h'.get? b = some o) → tn i h'
  item : ∀ (X : Cx), X.prog = P → X.w = w → X.K = K → X.calm = true → ∀ (i : Nat) (pins : List (Addr × Obj)) (s : Shared) (σ : St) (H : Hp) (E : Value → Shared → Prop), Inv X pins σ H s → (∀ b ∈ fp, FpOk X pins H b) → tn i s.heap → J.go i H →
    wpAny (model P w) X.A (pyNext (.ref it)) (fun r s1 => ∃ u, r = some u ∧
      wpAny (model P w) X.A (letOwnedTupleGo tg (.ref it) u) (fun _ s2 => ∃ x H', Inv X pins σ H' s2 ∧ RelV x u ∧ J.yld i H x H' ∧ tn (i + 1) s2.heap ∧ ∀ b ∈ fp, H' b = none) E s1) E s
  done : ∀ (X : Cx), X.prog = P → X.w = w → X.K = K → X.calm = true → ∀ (i : Nat) (pins : List (Addr × Obj)) (s : Shared) (σ : St) (H : Hp) (E : Value → Shared → Prop), Inv X pins σ H s → (∀ b ∈ fp, FpOk X pins H b) → tn i s.heap → J.stop i H →
    wpAny (model P w) X.A (pyNext (.ref it)) (fun r s1 => r = none ∧ Inv X pins σ H s1) E s
  self : ∀ (A : Around) (i : Nat) (s : Shared) (Q : Value → Shared → Prop) (E : Value → Shared → Prop), tn i s.heap → Q (.ref it) s → wpAny (model P w) A (pyIter (.ref it)) Q E s
abbrev TI := St → Hp → (It → Hp → Prop) → Prop
/-- an iterator has come -/
def PIE (X : Cx) (pins : List (Addr × Obj)) (σ : St) (tg : Expr) (R : It → Hp → Prop) (itv : Value) (s2 : Shared) : Prop :=
  ∃ (it : Addr) (fp : List Addr) (tn : Nat → Heap → Prop) (J : It) (H' : Hp), itv = .ref it ∧ Inv X pins σ H' s2 ∧ Turn X.prog X.w X.K tg J fp it tn ∧ tn 0 s2.heap ∧ (∀ b ∈ fp, FpOk X pins H' b) ∧ R J H'
structure PI (X : Cx) (tg iter : Expr) (wi : TI) : Prop where
  run : ∀ (pins : List (Addr × Obj)) (s : Shared) (σ : St) (H : Hp) (R : It → Hp → Prop), Inv X pins σ H s → wi σ H R →
    wpAny (model X.prog X.w) X.A (eval iter X.env) (fun v s1 => wpAny (model X.prog X.w) X.A (pyIter v) (PIE X pins σ tg R) X.xe s1) X.xe s
instance {X : Cx} {tg iter : Expr} {wi : TI} : CoeFun (PI X tg iter wi) (fun _ => ∀ (pins : List (Addr × Obj)) (s : Shared) (σ : St) (H : Hp) (R : It → Hp → Prop), Inv X pins σ H s → wi σ H R →
    wpAny (model X.prog X.w) X.A (eval iter X.env) (fun v s1 => wpAny (model X.prog X.w) X.A (pyIter v) (PIE X pins σ tg R) X.xe s1) X.xe s) := ⟨PI.run⟩

/-- the step ahead of the store is nothing for an iterator that keeps no tuple -/
theorem go_of {M : Model} {A : Around} {E : Value → Shared → Prop} {s : Shared} {tg : Expr} {it : Addr} {u : Value} {o : Obj} {n : String} {vs : Array Value} {Q : Unit → Shared → Prop} (ho : s.heap.get? it = some o) (hc : o.cls = .type n) (hd : o.data = .fields vs)
    (hn : ["enumerate", "zip", "dict_itemiterator", "dict_reverseitemiterator", "odict_iterator", "itertools.zip_longest", "itertools.pairwise"].contains n = false) (hQ : Q () s) : wpAny M A (letOwnedTupleGo tg (.ref it) u) Q E s := by
  unfold letOwnedTupleGo
  cases tg <;> first
    | exact wpAny_pure hQ
    | (cases u <;> first
        | exact wpAny_pure hQ
        | (refine wpAny_bind (wpAny_load ho ?_)
           rw [hc, hd]
           show wpAny M A (if (["enumerate", "zip", "dict_itemiterator", "dict_reverseitemiterator", "odict_iterator", "itertools.zip_longest", "itertools.pairwise"].contains n && vs[0]? == some (rawInt _)) = true then _ else _) Q E s
           rw [if_neg (by intro h; rw [hn, Bool.false_and] at h; cases h)]
           exact wpAny_pure hQ))

/-- the list at a, as it stands at each turn (a loop may append to it) -/
def Itl (K : PySem.W.Frag) (a : Addr) : It :=
  ⟨fun i H => ∃ xs x, SqL K H a xs ∧ xs[i]? = some x, fun i H x H' => H' = H ∧ ∀ xs, SqL K H a xs → xs[i]? = some x, fun i H => ∃ xs, SqL K H a xs ∧ xs.length ≤ i⟩
/-- lo, lo + 1, .. (n of them) -/
def Itr (lo : Int) (n : Nat) : It := ⟨fun i _ => i < n, fun i H x H' => H' = H ∧ x = .int (lo + i), fun i _ => n ≤ i⟩
theorem turn_list {P : Program} {w : World} {K : PySem.W.Frag} {tg : Expr} (a it : Addr) : Turn P w K tg (Itl K a) [it] it (fun i h => h.IsListIter it a i) where
  mem := by simp
  obj := fun i h st b hb => by
    have e : b = it := by simpa using hb
    subst e
    obtain ⟨o, e, c, d⟩ := st
    exact ⟨o, e, fun v z => by rw [d] at z; cases z⟩
  keep := fun i h h' st k => st.at fun o e => k it (by simp) o e
  item := by
    intro X hP hw hK hc i pins s σ H E I hf st hg
    subst hP hw hK
    obtain ⟨xs, x, hq, hx⟩ := hg
    obtain ⟨its, rv, p, hz⟩ := I.list hq
    obtain ⟨u, hu, ru⟩ := rv.get hx
    obtain ⟨f0, f1, f2, f3, f4, f5⟩ := hf it (by simp)
    refine wpAny_pyNext_list_item st p.isList (x := u) (by simpa using hu) fun h' st' sb => ?_
    have I1 : Inv X pins σ H { s with heap := h' } := I.turned (t' := s.toks) (fun b o hb e => (sb.2 b hb).trans e) f0 f1 f3 f4 f5
    obtain ⟨o, e, c, d⟩ := id st'
    exact ⟨u, rfl, go_of (s := { s with heap := h' }) e c d (by decide) ⟨x, H, I1, ru, ⟨rfl, fun ys hy => by rw [I.list_inj hy hq]; exact hx⟩, st', fun b hb => (hf b hb).1⟩⟩
  done := by
    intro X hP hw hK hc i pins s σ H E I hf st hg
    subst hP hw hK
    obtain ⟨xs, hq, hx⟩ := hg
    obtain ⟨its, rv, p, hz⟩ := I.list hq
    obtain ⟨f0, f1, f2, f3, f4, f5⟩ := hf it (by simp)
    have hl := rv.length
    exact wpAny_pyNext_list_end (I.ok.hd hc) st p.isList (by simp; omega) fun h' eb => ⟨rfl, I.turned (t' := s.toks) (fun b o hb e => eb b o hb e) f0 f1 f3 f4 f5⟩
  self := fun _ _ _ _ _ st h => wpAny_pyIter_listiter st h
theorem turn_range {P : Program} {w : World} {K : PySem.W.Frag} {tg : Expr} (it : Addr) (lo : Int) (n : Nat) : Turn P w K tg (Itr lo n) [it] it (fun i h => IsRangeIter h it (lo + (i : Nat) * 1) ((n : Int) - (i : Nat)) 1) where
  mem := by simp
  obj := fun i h st b hb => by
    have e : b = it := by simpa using hb
    subst e
    exact ⟨_, st, fun v z => by
      have z' : Data.fields _ = Data.cell v := z
      cases z'⟩
  keep := fun i h h' st k => k it (by simp) _ st
  item := by
    intro X hP hw hK hc i pins s σ H E I hf st hg
    subst hP hw hK
    obtain ⟨f0, f1, f2, f3, f4, f5⟩ := hf it (by simp)
    have W := Walks.range (prog := X.prog) (w := X.w) (I.ok.hd hc) it lo 1 n
    refine W.item i s _ _ hg st fun v h' tk hv st' kk => ?_
    obtain ⟨t, rfl⟩ := hv
    have I1 : Inv X pins σ H { s with heap := h', toks := tk } := I.turned (fun b o hb e => kk b o (by simpa using hb) e) f0 f1 f3 f4 f5
    refine ⟨_, rfl, go_of (s := { s with heap := h', toks := tk }) (n := "range_iterator") st' rfl rfl (by decide) ⟨.int (lo + i), H, I1, ⟨t, ?_⟩, ⟨rfl, rfl⟩, st', fun b hb => (hf b hb).1⟩⟩
    rw [Int.mul_one]
  done := by
    intro X hP hw hK hc i pins s σ H E I hf st hg
    subst hP hw hK
    obtain ⟨f0, f1, f2, f3, f4, f5⟩ := hf it (by simp)
    exact wpAny_pyNext_range_end (I.ok.hd hc) st (by have : n ≤ i := hg; omega) fun h' eb => ⟨rfl, I.turned (t' := s.toks) (fun b o hb e => eb b o hb e) f0 f1 f3 f4 f5⟩
  self := fun _ _ _ _ _ st h => wpAny_pyIter_rangeiter st h
end L2

namespace L2
open PySem PySem.Spec PyProof.Rows
section
variable {X : Cx} {tg : Expr}
def iList (K : PySem.W.Frag) (tl : TE) : TI := fun σ H R => tl σ H fun x H1 => ∃ a, x = .ref a ∧ (∃ xs, SqL K H1 a xs) ∧ R (Itl K a) H1
theorem pi_list {l : Expr} {tl : TE} (hl : PE X l tl) : PI X tg l (iList X.K tl) := by
  refine ⟨?_⟩
  intro pins s σ H R I h
  refine thn (hl pins s σ H _ I h) fun v s1 ⟨x, H1, I1, r1, q1⟩ => ?_
  obtain ⟨a, e, ⟨xs, hq⟩, q⟩ := q1
  subst e
  cases r1
  obtain ⟨its, rv, p, hz⟩ := I1.list hq
  refine wpAny_pyIter_list p.isList ?_
  refine ⟨s1.heap.objs.size, [s1.heap.objs.size], _, _, H1, rfl, I1.kept (t' := s1.toks) fun b o e => Heap.get?_push_of_some _ e, turn_list a _, ⟨_, Heap.get?_push_size _ rfl, rfl, rfl⟩, fun b hb => ?_, q⟩
  have e : b = s1.heap.objs.size := by simpa using hb
  subst e
  exact I1.fpOk (Nat.le_refl _) (I1.hok.fresh (Nat.le_refl _))
/-- a range object just made, walked -/
theorem range_it {pins : List (Addr × Obj)} {σ : St} {H : Hp} {s : Shared} {R : It → Hp → Prop} {E : Value → Shared → Prop} {lo hi : Int} {t u v : Tok} {tk : Nat} (I : Inv X pins σ H s) (h1 : -(2 ^ 62) ≤ lo) (h2 : lo < 2 ^ 62) (h3 : -(2 ^ 62) ≤ hi) (h4 : hi < 2 ^ 62)
    (q : R (Itr lo (hi - lo).toNat) H) : wpAny (model X.prog X.w) X.A (pyIter (.ref s.heap.objs.size)) (PIE X pins σ tg R) E { s with heap := s.heap.push { cls := .type "range", data := .fields #[.int lo t, .int hi u, .int 1 v] }, toks := tk } := by
  refine wpAny_pyIter_range (IsRange.new ..) (small_one h1 h2 h3 h4) ?_
  have I1 : Inv X pins σ H { s with heap := s.heap.push { cls := .type "range", data := .fields #[.int lo t, .int hi u, .int 1 v] }, toks := tk } := I.kept fun b o e => Heap.get?_push_of_some _ e
  refine ⟨(s.heap.push { cls := .type "range", data := .fields #[.int lo t, .int hi u, .int 1 v] }).objs.size, [(s.heap.push { cls := .type "range", data := .fields #[.int lo t, .int hi u, .int 1 v] }).objs.size], _, _, H, rfl,
    I1.kept (t' := tk) fun b o e => Heap.get?_push_of_some _ e, turn_range _ lo (hi - lo).toNat, ?_, fun b hb => ?_, q⟩
  · have e1 : lo + ((0 : Nat) : Int) * 1 = lo := by simp
    have e2 : (((hi - lo).toNat : Nat) : Int) - ((0 : Nat) : Int) = Builtin.Range.rangeSize lo hi 1 := by rw [rangeSize_one]; split <;> omega
    show IsRangeIter _ _ (lo + ((0 : Nat) : Int) * 1) ((((hi - lo).toNat : Nat) : Int) - ((0 : Nat) : Int)) 1
    rw [e1, e2]
    exact Heap.get?_push_size _ rfl
  · have e : b = (s.heap.push { cls := .type "range", data := .fields #[.int lo t, .int hi u, .int 1 v] }).objs.size := by simpa using hb
    subst e
    exact I1.fpOk (Nat.le_refl _) (I1.hok.fresh (Nat.le_refl _))
def iRng1 (ta : TA) : TI := fun σ H R => ta σ H fun vs H1 => ∃ j : Int, vs = [.int j] ∧ -(2 ^ 62) ≤ j ∧ j < 2 ^ 62 ∧ R (Itr 0 j.toNat) H1
def iRng2 (ta : TA) : TI := fun σ H R => ta σ H fun vs H1 => ∃ i j : Int, vs = [.int i, .int j] ∧ (-(2 ^ 62) ≤ i ∧ i < 2 ^ 62 ∧ -(2 ^ 62) ≤ j ∧ j < 2 ^ 62) ∧ R (Itr i (j - i).toNat) H1
theorem pi_range1 {a : Expr} {ta : TA} {p pos : Pos} (hg : Gl X "range") (hm : X.mg "range" = none) (ha : PA X [a] ta) (hs : starEach [a] X.env = [(false, eval a X.env)] := by rfl) : PI X tg (.Call (.Name "range" p) [a] [] pos) (iRng1 ta) := by
  refine ⟨?_⟩
  intro pins s σ H R I h
  refine Call_ (ld_blt I hg hm boot_range (PyProof.Rows.callWith_type1 (thn (ha pos pins s σ H _ I h) fun us s1 ⟨vs, H1, I1, r1, q1⟩ => ?_) hs rfl))
  obtain ⟨j, e, q1, q2, q⟩ := q1
  subst e
  cases r1 with
  | cons r rr =>
    cases rr
    obtain ⟨t, rfl⟩ := r
    exact call_range_1 (range_it I1 (by omega) (by omega) q1 q2 (by simpa using q))
theorem pi_range2 {a b : Expr} {ta : TA} {p pos : Pos} (hg : Gl X "range") (hm : X.mg "range" = none) (ha : PA X [a, b] ta) (hs : starEach [a, b] X.env = [(false, eval a X.env), (false, eval b X.env)] := by rfl) (hs2 : starEach [b] X.env = [(false, eval b X.env)] := by rfl) :
    PI X tg (.Call (.Name "range" p) [a, b] [] pos) (iRng2 ta) := by
  refine ⟨?_⟩
  intro pins s σ H R I h
  refine Call_ (ld_blt I hg hm boot_range (PyProof.Rows.callWith_type1 (thn (ha pos pins s σ H _ I h) fun us s1 ⟨vs, H1, I1, r1, q1⟩ => ?_) (by rw [hs, hs2]) (by rw [hs2]; rfl)))
  obtain ⟨i, j, e, ⟨q1, q2, q3, q4⟩, q⟩ := q1
  subst e
  cases r1 with
  | cons r rr =>
    cases rr with
    | cons r' rr =>
      cases rr
      obtain ⟨t, rfl⟩ := r
      obtain ⟨t', rfl⟩ := r'
      exact call_range_2 (range_it I1 q1 q2 q3 q4 q)

/-! ### for -/
/-- W: the invariant by the turn and a measure; N: what the body is to reach -/
def tFor (wi : TI) (g : TG) (tb : TS) : TS := fun D σ H => wi σ H fun J H1 => ∃ W : Nat → Nat → St → Hp → Prop, (∃ m, W 0 m σ H1) ∧ ∀ i m σ H, W i m σ H →
  (J.stop i H ∧ D.nx σ H) ∨ (J.go i H ∧ ∃ N : St → Hp → Prop, (∀ σ' H', N σ' H' → ∃ m', m' < m ∧ W (i + 1) m' σ' H') ∧ ∀ x H', J.yld i H x H' → g x σ H' fun σ2 H2 => tb { D with nx := N, ct := N, bk := D.nx } σ2 H2)
/-- the records at fp as they stand -/
def pinsAt (fp : List Addr) (h : Heap) : List (Addr × Obj) := fp.filterMap fun b => (h.get? b).map fun o => (b, o)
theorem mem_pinsAt {fp : List Addr} {h : Heap} {b : Addr} {o : Obj} (hb : b ∈ fp) (e : h.get? b = some o) : (b, o) ∈ pinsAt fp h := List.mem_filterMap.mpr ⟨b, hb, by rw [e]; rfl⟩
theorem of_pinsAt {fp : List Addr} {h : Heap} {p : Addr × Obj} (hp : p ∈ pinsAt fp h) : p.1 ∈ fp ∧ h.get? p.1 = some p.2 := by
  obtain ⟨b, hb, e⟩ := List.mem_filterMap.mp hp
  cases q : h.get? b with
  | none => rw [q] at e; cases e
  | some o =>
    rw [q] at e
    have e' : (b, o) = p := Option.some.inj e
    subst e'
    exact ⟨hb, q⟩
theorem Inv.pinned {pins : List (Addr × Obj)} {σ : St} {H : Hp} {s : Shared} {fp : List Addr} (I : Inv X pins σ H s) (hf : ∀ b ∈ fp, FpOk X pins H b) (ho : ∀ b ∈ fp, ∃ o, s.heap.get? b = some o ∧ ∀ v, o.data ≠ .cell v) : Inv X (pins ++ pinsAt fp s.heap) σ H s :=
  I.pins_of fun p hp => (List.mem_append.mp hp).elim (fun z => I.pin p (List.mem_append_right _ z)) fun z => by
    obtain ⟨hb, e⟩ := of_pinsAt z
    obtain ⟨f0, f1, f2, _⟩ := hf p.1 hb
    obtain ⟨o, e', d⟩ := ho p.1 hb
    rw [e] at e'; cases e'
    exact ⟨e, f0, f1, f2, d⟩
theorem Inv.unpinned {pins pl : List (Addr × Obj)} {σ : St} {H : Hp} {s : Shared} (I : Inv X (pins ++ pl) σ H s) : Inv X pins σ H s := I.pins_of fun p hp => I.pin p (List.mem_append_right _ (List.mem_append_left _ hp))
theorem ps_for {iter : Expr} {body : List Stmt} {wi : TI} {g : TG} {tb : TS} {pos : Pos} (hp : PassesOwn (model X.prog X.w) X.A X.env X.xe) (hc : X.calm = true) (hi : PI X tg iter wi) (hg : PG X tg g) (hb : PSs X body tb)
    (hs : ∀ x, foldedSetIterable iter X.env x = pure x := by intro _; rfl) : PS X (.For tg iter body [] pos) (tFor wi g tb) := by
  refine ⟨?_⟩
  intro pins s σ H D I h
  refine wpAny_For (thn (hi pins s σ H _ I h) fun v s1 h1 => thn h1 fun itv s2 h2 => ?_) hs
  obtain ⟨it, fp, tn, J, H2, e, I2, T, st2, f2, W, ⟨m0, w0⟩, turn⟩ := h2
  subst e
  -- what stays true of the iterator's objects through the loop
  have stat : ∀ {H' : Hp}, (∀ b ∈ fp, H' b = none) → ∀ b ∈ fp, FpOk X pins H' b := fun hn b hb => ⟨hn b hb, (f2 b hb).2⟩
  refine codeAny_forLoop_any (fun n s' => ∃ i σ' H', Inv X pins σ' H' s' ∧ tn i s'.heap ∧ (∀ b ∈ fp, H' b = none) ∧ W i n σ' H') ?_ m0 ⟨0, σ, H2, I2, st2, fun b hb => (f2 b hb).1, w0⟩
  rintro n s3 ⟨i, σ3, H3, I3, st3, fr3, w3⟩
  rcases turn i n σ3 H3 w3 with ⟨stop, qn⟩ | ⟨go, N, hN, step⟩
  · refine wpAny_passesOwn hp (thn (T.done X rfl rfl rfl hc i pins s3 σ3 H3 X.xe I3 (stat fr3) st3 stop) fun r s4 ⟨hr, I4⟩ => ?_)
    subst hr
    exact wpAny_execs_nil ⟨σ3, H3, I4, qn⟩
  · refine wpAny_passesOwn hp (thn (T.item X rfl rfl rfl hc i pins s3 σ3 H3 X.xe I3 (stat fr3) st3 go) fun r s4 ⟨u, hr, h4⟩ => ?_)
    subst hr
    refine wpAny_passesOwn hp (thn h4 fun _ s5 ⟨x, H5, I5, r5, y5, st5, fr5⟩ => ?_)
    have I5' := I5.pinned (stat fr5) (T.obj _ _ st5)
    refine wpAny_passesOwn hp (thn (hg _ s5 σ3 H5 x u _ I5' r5 (step x H5 y5)) fun _ s6 ⟨σ6, H6, I6, q6⟩ => ?_)
    refine wpAny_passesOwn hp (thn (hb _ s6 σ6 H6 _ I6 q6) fun f s7 q7 => ?_)
    have again : ∀ {σ7 : St} {H7 : Hp}, Inv X (pins ++ pinsAt fp s5.heap) σ7 H7 s7 → N σ7 H7 → ∃ m, m < n ∧ ∃ i σ' H', Inv X pins σ' H' s7 ∧ tn i s7.heap ∧ (∀ b ∈ fp, H' b = none) ∧ W i m σ' H' := fun {σ7 H7} I7 n7 => by
      obtain ⟨m', hm, w7⟩ := hN σ7 H7 n7
      refine ⟨m', hm, i + 1, σ7, H7, I7.unpinned, T.keep _ _ _ st5 fun b hb o e => (I7.pin (b, o) (List.mem_append_right _ (List.mem_append_right _ (mem_pinsAt hb e)))).1, fun b hb => ?_, w7⟩
      obtain ⟨o, e, d⟩ := T.obj _ _ st5 b hb
      exact (I7.pin (b, o) (List.mem_append_right _ (List.mem_append_right _ (mem_pinsAt hb e)))).2.1
    cases f with
    | next => obtain ⟨σ7, H7, I7, n7⟩ := q7; exact again I7 n7
    | cont => obtain ⟨σ7, H7, I7, n7⟩ := q7; exact again I7 n7
    | brk => obtain ⟨σ7, H7, I7, q7⟩ := q7; exact ⟨σ7, H7, I7.unpinned, q7⟩
    | ret v => obtain ⟨x7, σ7, H7, I7, r7, q7⟩ := q7; exact ⟨x7, σ7, H7, I7.unpinned, r7, q7⟩
end

/-! ### the forms one uses -/
/-- over a list that the body leaves as it is -/
theorem for_list {K : PySem.W.Frag} {a : Addr} {xs : List V} {g : TG} {tb : TS} {D : Ends} {σ : St} {H : Hp} (Pv : Nat → St → Hp → Prop) (h0 : Pv 0 σ H) (hl : ∀ i σ H, i ≤ xs.length → Pv i σ H → SqL K H a xs)
    (hs : ∀ i x σ H, xs[i]? = some x → Pv i σ H → g x σ H fun σ2 H2 => tb { D with nx := Pv (i + 1), ct := Pv (i + 1), bk := D.nx } σ2 H2) (hd : ∀ σ H, Pv xs.length σ H → D.nx σ H) :
    ∃ W : Nat → Nat → St → Hp → Prop, (∃ m, W 0 m σ H) ∧ ∀ i m σ H, W i m σ H →
      ((Itl K a).stop i H ∧ D.nx σ H) ∨ ((Itl K a).go i H ∧ ∃ N : St → Hp → Prop, (∀ σ' H', N σ' H' → ∃ m', m' < m ∧ W (i + 1) m' σ' H') ∧ ∀ x H', (Itl K a).yld i H x H' → g x σ H' fun σ2 H2 => tb { D with nx := N, ct := N, bk := D.nx } σ2 H2) := by
  refine ⟨fun i m σ H => m = xs.length - i ∧ i ≤ xs.length ∧ Pv i σ H, ⟨xs.length, by simp, Nat.zero_le _, h0⟩, ?_⟩
  rintro i m σ H ⟨rfl, hi, p⟩
  have q := hl i σ H hi p
  by_cases hlt : i < xs.length
  · refine .inr ⟨⟨xs, xs[i], q, by simp [hlt]⟩, Pv (i + 1), fun σ' H' p' => ⟨xs.length - (i + 1), by omega, rfl, hlt, p'⟩, fun x H' y => ?_⟩
    obtain ⟨e, y⟩ := y
    subst e
    exact hs i x σ _ (y xs q) p
  · have e : i = xs.length := by omega
    subst e
    exact .inl ⟨⟨xs, q, Nat.le_refl _⟩, hd σ H p⟩
theorem for_range {lo : Int} {n : Nat} {g : TG} {tb : TS} {D : Ends} {σ : St} {H : Hp} (Pv : Nat → St → Hp → Prop) (h0 : Pv 0 σ H)
    (hs : ∀ i σ H, i < n → Pv i σ H → g (.int (lo + i)) σ H fun σ2 H2 => tb { D with nx := Pv (i + 1), ct := Pv (i + 1), bk := D.nx } σ2 H2) (hd : ∀ σ H, Pv n σ H → D.nx σ H) :
    ∃ W : Nat → Nat → St → Hp → Prop, (∃ m, W 0 m σ H) ∧ ∀ i m σ H, W i m σ H →
      ((Itr lo n).stop i H ∧ D.nx σ H) ∨ ((Itr lo n).go i H ∧ ∃ N : St → Hp → Prop, (∀ σ' H', N σ' H' → ∃ m', m' < m ∧ W (i + 1) m' σ' H') ∧ ∀ x H', (Itr lo n).yld i H x H' → g x σ H' fun σ2 H2 => tb { D with nx := N, ct := N, bk := D.nx } σ2 H2) := by
  refine ⟨fun i m σ H => m = n - i ∧ i ≤ n ∧ Pv i σ H, ⟨n, by simp, Nat.zero_le _, h0⟩, ?_⟩
  rintro i m σ H ⟨rfl, hi, p⟩
  by_cases hlt : i < n
  · refine .inr ⟨hlt, Pv (i + 1), fun σ' H' p' => ⟨n - (i + 1), by omega, rfl, hlt, p'⟩, fun x H' y => ?_⟩
    obtain ⟨e, y⟩ := y
    subst e y
    exact hs i σ _ hlt p
  · have e : i = n := by omega
    subst e
    exact .inl ⟨Nat.le_refl _, hd σ H p⟩
end L2

namespace L2
open PySem PySem.Spec PyProof.Rows

abbrev R2 := V → V → Hp → VK → Prop
/-- a two-place operation on values: f is binaryOp op, inplaceOp op or compareOp op -/
def OpR (X : Cx) (f : Value → Value → Sem Value) (r : R2) : Prop :=
  ∀ (pins : List (Addr × Obj)) (s : Shared) (σ : St) (H : Hp) (x y : V) (v u : Value) (Q : VK), Inv X pins σ H s → RelV x v → RelV y u → r x y H Q →
    wpAny (model X.prog X.w) X.A (f v u) (EP X pins σ Q) X.xe s
/-- a call of a value that is known (a builtin, a type) with values -/
def CallR (X : Cx) (f : Value) (r : List V → Hp → VK → Prop) : Prop :=
  ∀ (pins : List (Addr × Obj)) (s : Shared) (σ : St) (H : Hp) (xs : List V) (us : List Value) (Q : VK), Inv X pins σ H s → Vals xs us → r xs H Q →
    wpAny (model X.prog X.w) X.A (call f us) (EP X pins σ Q) X.xe s
def tOp (r : R2) (ta tb : TE) : TE := fun σ H Q => ta σ H fun x H1 => tb σ H1 fun y H2 => r x y H2 Q
/-- ints in, under C, and a value out -/
def rI (C : Int → Int → Prop) (g : Int → Int → V) : R2 := fun x y H Q => ∃ i j, x = .int i ∧ y = .int j ∧ C i j ∧ Q (g i j) H
def rI0 (g : Int → Int → V) : R2 := fun x y H Q => ∃ i j, x = .int i ∧ y = .int j ∧ Q (g i j) H
section
variable {X : Cx} {a b c : Expr} {ta tb tc : TE} {pos : Pos}

theorem binT (ha : PE X a ta) (hb : PE X b tb) {pins : List (Addr × Obj)} {s : Shared} {σ : St} {H : Hp} {R : V → V → Hp → Prop} (I : Inv X pins σ H s)
    (h : ta σ H fun x H1 => tb σ H1 fun y H2 => R x y H2) {Q : Value → Shared → Prop} {f : Value → Value → Sem Value}
    (hf : ∀ v u s2 x y H2, Inv X pins σ H2 s2 → RelV x v → RelV y u → R x y H2 → wpAny (model X.prog X.w) X.A (f v u) Q X.xe s2) :
    wpAny (model X.prog X.w) X.A (eval a X.env) (fun v s₁ => wpAny (model X.prog X.w) X.A (eval b X.env) (fun u s₂ => wpAny (model X.prog X.w) X.A (f v u) Q X.xe s₂) X.xe s₁) X.xe s := by
  refine thn (ha pins s σ H _ I h) fun v s1 ⟨x, H1, I1, r1, q1⟩ => ?_
  refine thn (hb pins s1 σ H1 _ I1 q1) fun u s2 ⟨y, H2, I2, r2, q2⟩ => ?_
  exact hf v u s2 x y H2 I2 r1 r2 q2

theorem pe_op {op : Operator} {r : R2} (ho : OpR X (binaryOp op) r) (ha : PE X a ta) (hb : PE X b tb) : PE X (.BinOp a op b pos) (tOp r ta tb) := by
  refine ⟨?_⟩
  intro pins s σ H Q I h
  exact wpAny_BinOp (binT ha hb I h fun v u s2 x y H2 I2 rx ry q => ho pins s2 σ H2 x y v u Q I2 rx ry q)
/-! ### ints -/
theorem opI {f : Value → Value → Sem Value} {C : Int → Int → Prop} {g : Int → Int → Int}
    (rule : ∀ (i j : Int) (t u : Tok) (s : Shared) (Q : Value → Shared → Prop) (E : Value → Shared → Prop), C i j → Q (.int (g i j) s.toks) { s with toks := s.toks + 1 } → wpAny (model X.prog X.w) X.A (f (.int i t) (.int j u)) Q E s) :
    OpR X f (rI C fun i j => .int (g i j)) := by
  intro pins s σ H x y v u Q I rx ry h
  obtain ⟨i, j, rfl, rfl, hc, q⟩ := h
  obtain ⟨t, rfl⟩ := rx
  obtain ⟨t', rfl⟩ := ry
  exact rule i j t t' s _ _ hc ⟨.int (g i j), H, I.tok _, ⟨_, rfl⟩, q⟩
theorem opI0 {f : Value → Value → Sem Value} {g : Int → Int → Int}
    (rule : ∀ (i j : Int) (t u : Tok) (s : Shared) (Q : Value → Shared → Prop) (E : Value → Shared → Prop), Q (.int (g i j) s.toks) { s with toks := s.toks + 1 } → wpAny (model X.prog X.w) X.A (f (.int i t) (.int j u)) Q E s) :
    OpR X f (rI0 fun i j => .int (g i j)) := by
  intro pins s σ H x y v u Q I rx ry h
  obtain ⟨i, j, rfl, rfl, q⟩ := h
  obtain ⟨t, rfl⟩ := rx
  obtain ⟨t', rfl⟩ := ry
  exact rule i j t t' s _ _ ⟨.int (g i j), H, I.tok _, ⟨_, rfl⟩, q⟩
theorem opB0 {f : Value → Value → Sem Value} {g : Int → Int → Bool}
    (rule : ∀ (i j : Int) (t u : Tok) (s : Shared) (Q : Value → Shared → Prop) (E : Value → Shared → Prop), Q (.bool (g i j)) s → wpAny (model X.prog X.w) X.A (f (.int i t) (.int j u)) Q E s) :
    OpR X f (rI0 fun i j => .bl (g i j)) := by
  intro pins s σ H x y v u Q I rx ry h
  obtain ⟨i, j, rfl, rfl, q⟩ := h
  obtain ⟨t, rfl⟩ := rx
  obtain ⟨t', rfl⟩ := ry
  exact rule i j t t' s _ _ ⟨.bl (g i j), H, I, rfl, q⟩

def CDiv (i j : Int) : Prop := 0 < j ∧ j < 1073741824
theorem op_add : OpR X (binaryOp .Add) (rI0 fun i j => .int (i + j)) := opI0 fun _ _ _ _ _ _ _ q => add_int q
/-- // by a positive divisor -/
theorem op_fdiv : OpR X (binaryOp .FloorDiv) (rI CDiv fun i j => .int (i / j)) := opI fun i j _ _ _ _ _ hc q => by
  have h1 : (0 : Int) < j := hc.1
  have h2 : j < 1073741824 := hc.2
  exact floordiv_int (by omega) (by rw [Int.fdiv_eq_ediv_of_nonneg i (by omega)]; exact q) (.inl (PyProof.noPylong_small (by omega)))
/-- % by a positive divisor of any size -/
theorem op_mod : OpR X (binaryOp .Mod) (rI (fun _ j => 0 < j) fun i j => .int (i % j)) := opI fun i j _ _ _ _ _ hc q => by
  have h1 : (0 : Int) < j := hc
  exact mod_int' (by omega) (by rw [Int.fmod_eq_emod_of_nonneg i (by omega)]; exact q)
/-! ### bools among ints: n += (a < b) -/
end

/-! ### comparisons -/
/-- the scalars that == tells apart as data does -/
def scal : V → V → Bool
  | .non, .non => true | .non, .int _ => true | .int _, .non => true | .non, .bl _ => true | .bl _, .non => true | .non, .str _ => true | .str _, .non => true
  | .int _, .int _ => true | .bl _, .bl _ => true | .str _, .str _ => true | .byt _, .byt _ => true
  | .int _, .str _ => true | .str _, .int _ => true | .bl _, .str _ => true | .str _, .bl _ => true
  | _, _ => false
def rEq : R2 := fun x y H Q => scal x y = true ∧ Q (.bl (decide (x = y))) H
def rNe : R2 := fun x y H Q => scal x y = true ∧ Q (.bl (!decide (x = y))) H

theorem dec_int {i j : Int} : decide (V.int i = V.int j) = (i == j) := by
  rw [Bool.eq_iff_iff]
  simp
theorem dec_bl {i j : Bool} : decide (V.bl i = V.bl j) = (i == j) := by
  rw [Bool.eq_iff_iff]
  simp
theorem dec_str {i j : Str} : decide (V.str i = V.str j) = (i == j) := by
  rw [Bool.eq_iff_iff]
  simp
theorem dec_byt {i j : Array UInt8} : decide (V.byt i = V.byt j) = (i.toList == j.toList) := by
  rw [Bool.eq_iff_iff]
  cases i
  cases j
  simp

section
variable {X : Cx} {a b c : Expr} {ta tb tc : TE} {pos : Pos}
theorem fin_bl {pins : List (Addr × Obj)} {σ : St} {H : Hp} {s : Shared} {Q : VK} {k k' : Bool} (I : Inv X pins σ H s) (q : Q (.bl k) H) (e : k = k') : EP X pins σ Q (.bool k') s := by
  subst e
  exact ⟨.bl k, H, I, rfl, q⟩
theorem op_eq : OpR X (compareOp .Eq) rEq := by
  intro pins s σ H x y v u Q I rx ry h
  obtain ⟨hs, q⟩ := h
  cases x with
  | non =>
    cases rx
    cases y with
    | non => cases ry; exact PySem.EqNone.eq_none_none (fin_bl I q (by simp))
    | bl j => cases ry; exact PySem.EqNone.eq_none_bool (fin_bl I q (by simp))
    | int j => obtain ⟨t', rfl⟩ := ry; exact PySem.EqNone.eq_none_int (fin_bl I q (by simp))
    | str j => obtain ⟨t', rfl⟩ := ry; exact PySem.EqNone.eq_none_str (fin_bl I q (by simp))
    | _ => exact absurd (show false = true from hs) Bool.false_ne_true
  | bl i =>
    cases rx
    cases y with
    | non => cases ry; exact PySem.EqNone.eq_bool_none (fin_bl I q (by simp))
    | bl j => cases ry; exact eq_bool (fin_bl I q dec_bl)
    | str j => obtain ⟨t', rfl⟩ := ry; exact PySem.EqMixed.eq_bool_str (fin_bl I q (by simp))
    | _ => exact absurd (show false = true from hs) Bool.false_ne_true
  | int i =>
    obtain ⟨t, rfl⟩ := rx
    cases y with
    | non => cases ry; exact PySem.EqNone.eq_int_none (fin_bl I q (by simp))
    | int j => obtain ⟨t', rfl⟩ := ry; exact eq_int (fin_bl I q dec_int)
    | str j => obtain ⟨t', rfl⟩ := ry; exact PySem.EqMixed.eq_int_str (fin_bl I q (by simp))
    | _ => exact absurd (show false = true from hs) Bool.false_ne_true
  | str i =>
    obtain ⟨t, rfl⟩ := rx
    cases y with
    | non => cases ry; exact PySem.EqNone.eq_str_none (fin_bl I q (by simp))
    | bl j => cases ry; exact PySem.EqMixed.eq_str_bool (fin_bl I q (by simp))
    | int j => obtain ⟨t', rfl⟩ := ry; exact PySem.EqMixed.eq_str_int (fin_bl I q (by simp))
    | str j => obtain ⟨t', rfl⟩ := ry; exact eq_str (fin_bl I q dec_str)
    | _ => exact absurd (show false = true from hs) Bool.false_ne_true
  | byt i =>
    obtain ⟨t, rfl⟩ := rx
    cases y with
    | byt j => obtain ⟨t', rfl⟩ := ry; exact PySem.W.eq_bytes (fin_bl I q dec_byt)
    | _ => exact absurd (show false = true from hs) Bool.false_ne_true
  | _ => cases y <;> exact absurd (show false = true from hs) Bool.false_ne_true
theorem op_ne : OpR X (compareOp .NotEq) rNe := by
  intro pins s σ H x y v u Q I rx ry h
  obtain ⟨hs, q⟩ := h
  cases x with
  | non =>
    cases rx
    cases y with
    | non => cases ry; exact PySem.EqNone.ne_none_none (fin_bl I q (by simp))
    | bl j => cases ry; exact PySem.EqNone.ne_none_bool (fin_bl I q (by simp))
    | int j => obtain ⟨t', rfl⟩ := ry; exact PySem.EqNone.ne_none_int (fin_bl I q (by simp))
    | str j => obtain ⟨t', rfl⟩ := ry; exact PySem.EqNone.ne_none_str (fin_bl I q (by simp))
    | _ => exact absurd (show false = true from hs) Bool.false_ne_true
  | bl i =>
    cases rx
    cases y with
    | non => cases ry; exact PySem.EqNone.ne_bool_none (fin_bl I q (by simp))
    | bl j => cases ry; exact ne_bool (fin_bl I q (congrArg not dec_bl))
    | str j => obtain ⟨t', rfl⟩ := ry; exact PySem.EqMixed.ne_bool_str (fin_bl I q (by simp))
    | _ => exact absurd (show false = true from hs) Bool.false_ne_true
  | int i =>
    obtain ⟨t, rfl⟩ := rx
    cases y with
    | non => cases ry; exact PySem.EqNone.ne_int_none (fin_bl I q (by simp))
    | int j => obtain ⟨t', rfl⟩ := ry; exact ne_int (fin_bl I q (congrArg not dec_int))
    | str j => obtain ⟨t', rfl⟩ := ry; exact PySem.EqMixed.ne_int_str (fin_bl I q (by simp))
    | _ => exact absurd (show false = true from hs) Bool.false_ne_true
  | str i =>
    obtain ⟨t, rfl⟩ := rx
    cases y with
    | non => cases ry; exact PySem.EqNone.ne_str_none (fin_bl I q (by simp))
    | bl j => cases ry; exact PySem.EqMixed.ne_str_bool (fin_bl I q (by simp))
    | int j => obtain ⟨t', rfl⟩ := ry; exact PySem.EqMixed.ne_str_int (fin_bl I q (by simp))
    | str j => obtain ⟨t', rfl⟩ := ry; exact ne_str (fin_bl I q (congrArg not dec_str))
    | _ => exact absurd (show false = true from hs) Bool.false_ne_true
  | byt i =>
    obtain ⟨t, rfl⟩ := rx
    cases y with
    | byt j => obtain ⟨t', rfl⟩ := ry; exact PySem.W.ne_bytes (fin_bl I q (congrArg not dec_byt))
    | _ => exact absurd (show false = true from hs) Bool.false_ne_true
  | _ => cases y <;> exact absurd (show false = true from hs) Bool.false_ne_true

theorem op_lt : OpR X (compareOp .Lt) (rI0 fun i j => .bl (decide (i < j))) := opB0 fun _ _ _ _ _ _ _ q => lt_int q
theorem op_le : OpR X (compareOp .LtE) (rI0 fun i j => .bl (decide (i ≤ j))) := opB0 fun _ _ _ _ _ _ _ q => le_int q
theorem op_gt : OpR X (compareOp .Gt) (rI0 fun i j => .bl (decide (j < i))) := opB0 fun _ _ _ _ _ _ _ q => gt_int q
/-- the one string within the other -/
theorem op_in_str : OpR X (compareOp .In) (fun x y H Q => ∃ i j, x = .str i ∧ y = .str j ∧ Q (.bl (!(Builtin.Str.occurrences j i 0 j.length 1).isEmpty)) H) := by
  intro pins s σ H x y v u Q I rx ry h
  obtain ⟨i, j, rfl, rfl, q⟩ := h
  obtain ⟨t, rfl⟩ := rx
  obtain ⟨t', rfl⟩ := ry
  exact in_str (fin_bl I q rfl)

/-- two rules for one operation: by cases -/
theorem OpR.or {f : Value → Value → Sem Value} {r r' : R2} (h : OpR X f r) (h' : OpR X f r') : OpR X f (fun x y H Q => r x y H Q ∨ r' x y H Q) := by
  intro pins s σ H x y v u Q I rx ry q
  rcases q with q | q
  · exact h pins s σ H x y v u Q I rx ry q
  · exact h' pins s σ H x y v u Q I rx ry q

theorem nomark (b : Expr) {op : CmpOp} (h : op ≠ .In := by decide) (h2 : op ≠ .NotIn := by decide) : behindInMarks op b = false := by
  have e1 : (op == CmpOp.In) = false := by cases op <;> first | rfl | exact absurd rfl h
  have e2 : (op == CmpOp.NotIn) = false := by cases op <;> first | rfl | exact absurd rfl h2
  cases b <;> simp [behindInMarks, e1, e2]
/-- a comparison as a value; hm: nomark b, or (for in, not in) by with_unfolding_all rfl -/
theorem pe_cmpR {op : CmpOp} {r : R2} (ho : OpR X (compareOp op) r) (ha : PE X a ta) (hb : PE X b tb) (hm : behindInMarks op b = false) : PE X (.Compare a [op] [b] pos) (tOp r ta tb) := by
  refine ⟨?_⟩
  intro pins s σ H Q I h
  exact wpAny_Compare1 (binT ha hb I h fun v u s2 x y H2 I2 rx ry q => ho pins s2 σ H2 x y v u Q I2 rx ry q) hm
/-- a reading of a value as a test -/
def tTest (t : TE) : TT := fun σ H Q => t σ H fun x H' => ∃ k, x = .bl k ∧ Q k H'
theorem pt_cmpR {op : CmpOp} {r : R2} (ho : OpR X (compareOp op) r) (ha : PE X a ta) (hb : PE X b tb) (hm : behindInMarks op b = false) : PT X (.Compare a [op] [b] pos) (tTest (tOp r ta tb)) := by
  refine ⟨?_⟩
  intro pins s σ H Q I h
  refine wpAny_isTrue_Compare1 (thn (ha pins s σ H _ I h) fun v s1 ⟨x, H1, I1, r1, q1⟩ => thn (hb pins s1 σ H1 _ I1 q1) fun u s2 ⟨y, H2, I2, r2, q2⟩ =>
    thn (ho pins s2 σ H2 x y v u _ I2 r1 r2 q2) fun c s3 ⟨z, H3, I3, r3, k, e, q3⟩ => ?_) hm
  subst e
  cases r3
  exact wpAny_truthy_bool ⟨H3, I3, q3⟩
/-- a op1 b op2 c -/
def tChain (r r' : R2) (ta tb tc : TE) : TE := fun σ H Q => ta σ H fun x H1 => tb σ H1 fun y H2 => r x y H2 fun z H3 => ∃ k, z = .bl k ∧
  (if k = true then tc σ H3 fun w' H4 => r' y w' H4 Q else Q (.bl false) H3)
theorem pt_chain {op op' : CmpOp} {r r' : R2} (ho : OpR X (compareOp op) r) (ho' : OpR X (compareOp op') r') (ha : PE X a ta) (hb : PE X b tb) (hc : PE X c tc)
    (hm : lastMarks [op, op'] [b, c] = false := by with_unfolding_all rfl) : PT X (.Compare a [op, op'] [b, c] pos) (tTest (tChain r r' ta tb tc)) := by
  refine ⟨?_⟩
  intro pins s σ H Q I h
  refine isTrue_chain (thn (ha pins s σ H _ I h) fun v s1 ⟨x, H1, I1, r1, q1⟩ => test_link (thn (hb pins s1 σ H1 _ I1 q1) fun u s2 ⟨y, H2, I2, r2, q2⟩ =>
    thn (ho pins s2 σ H2 x y v u _ I2 r1 r2 q2) fun d s3 ⟨z, H3, I3, r3, k, e, q3⟩ => ?_)) hm
  subst e
  cases r3
  refine wpAny_truthy_bool ?_
  cases k with
  | false =>
    obtain ⟨k', e', q'⟩ := q3
    cases e'
    exact ite_ff ⟨H3, I3, q'⟩
  | true =>
    refine ite_tt (test_last (thn (hc pins s3 σ H3 _ I3 q3) fun w' s4 ⟨z', H4, I4, r4, q4⟩ => thn (ho' pins s4 σ H4 y z' u w' _ I4 r2 r4 q4) fun d' s5 ⟨z2, H5, I5, r5, k2, e2, q5⟩ => ?_))
    subst e2
    cases r5
    exact wpAny_truthy_bool ⟨H5, I5, q5⟩

/-! ### truth -/
theorem line63 : (sizeLine : Nat) < 2 ^ 63 := by rw [sizeLine_eq]; decide
/-! ### strs and bytes -/
/-! ### scalar builtins, by CallR -/
theorem vals1 {x : V} {us : List Value} (r : Vals [x] us) : ∃ u, us = [u] ∧ RelV x u := by
  cases r with
  | cons r1 r2 => cases r2; exact ⟨_, rfl, r1⟩
theorem vals2 {x y : V} {us : List Value} (r : Vals [x, y] us) : ∃ u w', us = [u, w'] ∧ RelV x u ∧ RelV y w' := by
  cases r with
  | cons r1 r2 =>
    cases r2 with
    | cons r3 r4 => cases r4; exact ⟨_, _, rfl, r1, r3⟩
end
end L2

namespace L2
open PySem PySem.Spec PyProof.Rows

/-! ### an instance, its attributes a map -/
structure ObjM (h : Heap) (x dx C : Addr) (mA : Str → Option Value) : Prop where
  obj : h.get? x = some (PySem.W.instObj C dx)
  ns : h.Ns1 dx mA
  ne : dx ≠ x

theorem lookIn_ns {h : Heap} {dx : Addr} {mA : Str → Option Value} (n : h.Ns1 dx mA) : ∃ od, h.get? dx = some od ∧ ∀ name, PySem.W.lookIn name od = some (mA name) := by
  obtain ⟨o, es, ep, ho, hd, hk, _, hm⟩ := n
  refine ⟨o, ho, fun name => ?_⟩
  have e := hm name
  unfold nsFind findBy at e
  rw [← Array.find?_toList] at e
  unfold PySem.W.lookIn
  rw [hd]
  dsimp only
  split
  · rename_i y q
    rw [q] at e
    exact congrArg some e
  · rename_i q
    rw [q] at e
    have a : es.toList.any (·.refKey) = false := by
      rw [List.any_eq_false]
      intro y hy
      obtain ⟨z, t, hkey⟩ := hk y (Array.mem_toList_iff.mp hy)
      simp [DictEntry.refKey, hkey]
    have a' : ¬ es.toList.any (·.refKey) = true := by rw [a]; exact Bool.false_ne_true
    rw [if_neg a']
    exact congrArg some e

theorem ObjM.look {h : Heap} {x dx C : Addr} {mA : Str → Option Value} (I : ObjM h x dx C mA) : ∃ od, PySem.W.InstAt h x (PySem.W.instObj C dx) C (some od) ∧ ∀ name, PySem.W.lookIn name od = some (mA name) :=
  let ⟨od, ho, hl⟩ := lookIn_ns I.ns
  ⟨od, ⟨I.obj, rfl, rfl, ho⟩, hl⟩

section
variable {prog : Program} {w : World} {A : Around} {E : Value → Shared → Prop} {s : Shared} {K : PySem.W.Frag} {x dx C f : Addr} {mA : Str → Option Value} {name : Str} {v : Value}

theorem get_map {expr : Bool} {Q : Value → Shared → Prop} (X : K.In s.heap) (I : ObjM s.heap x dx C mA) (hg : PySem.W.plainGet K C name = true) (hh : PySem.W.hasDictIn K C = true)
    (ha : PySem.W.findIn K (.ref C) name = some none) (hv : mA name = some v) (hv' : PySem.W.handedIn v = true) (h : Q v { s with toks := s.toks + 1 }) :
    wpAny (model prog w) A (getAttr (.ref x) name expr) Q E s := by
  obtain ⟨od, J, hl⟩ := I.look
  exact PySem.W.get_value X J (PySem.W.plainGet_of hg).1 (PySem.W.findObj_own hh ha rfl (by rw [hl, hv])) hv' h

theorem get_meth {pl : Sem Bool} {Q : Value × List Value → Shared → Prop} (X : K.In s.heap) (I : ObjM s.heap x dx C mA) (hg : PySem.W.plainGet K C name = true)
    (hf : PySem.W.findIn K (.ref C) name = some (some (.ref f))) (ht : PySem.W.isFn K (.ref f) = true) (hv : mA name = none) (h : Q (.ref f, [.ref x]) s) :
    wpAny (model prog w) A (getMethod (.ref x) name pl) Q E s := by
  obtain ⟨od, J, hl⟩ := I.look
  exact PySem.W.method_fn X J (PySem.W.plainGet_of hg).1 (PySem.W.plainGet_of hg).2 hf (beq_iff_eq.mp ht) (by show (PySem.W.lookIn name od).map (·.isSome) = some false; rw [hl, hv]; rfl) h

theorem set_map {ns : List Str} {Q : Unit → Shared → Prop} (X : K.In s.heap) (I : ObjM s.heap x dx C mA)
    (hs : PySem.W.findIn K (.ref C) "__setattr__" = some (some (.builtin "object.__setattr__"))) (hp : PySem.W.plainOver K C = true) (ht : PySem.W.takerIn K C name = some none) (hh : PySem.W.hasDictIn K C = true)
    (hw : PySem.Within mA ns) (hsz : ns.length ≤ sizeLine)
    (h : ∀ h', ObjM h' x dx C (fun y => if y = name then some v else mA y) → Heap.SameBut dx s.heap h' → Q () { s with heap := h', toks := s.toks + 2 }) :
    wpAny (model prog w) A (setAttr (.ref x) name v) Q E s := by
  obtain ⟨od, J, hl⟩ := I.look
  refine PySem.W.set_plain X J hs (PySem.W.osa_open (s := { s with toks := s.toks + 1 }) (r := none) X J hp ht fun b => ?_)
  obtain ⟨cd, hc, hd'⟩ := PySem.W.any_some hh
  have hx : s.heap.get? x = some ⟨.ref C, some dx, .plain, #[]⟩ := I.obj
  refine wpAny_bind (wpAny_pure (wpAny_bind (wpAny_bind (wpAny_loadPart hx (wpAny_bind (PySem.W.Looks.here (s := { s with toks := s.toks + 1 }) (PySem.W.looks_clsIn X hc) ?_))))))
  rw [hd']
  refine wpAny_pure (a := some dx) (wpAny_bind (wpAny_pure (wpAny_bind ?_)))
  refine wpAny_nsSet1 (s := { s with toks := s.toks + 1 }) I.ns fun h' hn2 hs2 => ?_
  obtain ⟨oD, esD, epD, hoD, hdD, hcD⟩ := hn2.count (PySem.Within.cons name v hw)
  refine wpAny_bind (wpAny_lookBehind hoD (by rw [hdD]; exact pastItsLine_dict (Nat.le_trans hcD (by rw [List.length_cons]; omega))) ?_)
  exact wpAny_pure (h _ ⟨(hs2.2 _ (Ne.symm I.ne)).trans I.obj, hn2, I.ne⟩ hs2)

/-- C(..): the dict at the heap's end, the instance behind it; then its __init__ -/
theorem make_map {R : Result → Shared → Prop} {vs : List Value} {kw : List (Str × Value)} (X : K.In s.heap) (hm : PySem.W.makesIn K C = true)
    (hi : PySem.W.findIn K (.ref C) "__init__" = some (some (.ref f))) (hf : PySem.W.typeIn K (.ref f) = some (.type "function"))
    (h : codeAny (model prog w) (A.under (.builtin "type.__call__" ⟨.ref C :: vs, kw⟩)) (.call (.ref f) ⟨.ref (s.heap.objs.size + 1) :: vs, kw⟩) (PySem.W.InitBack (s.heap.objs.size + 1) R)
      { s with heap := (s.heap.push PySem.W.emptyDict).push (PySem.W.instObj C s.heap.objs.size) }) :
    codeAny (model prog w) A (.call (.ref C) ⟨vs, kw⟩) R s := by
  obtain ⟨hh, g, d, t, os⟩ := s
  exact PySem.W.make_core (PySem.W.makes_of X hm) (PySem.W.looks_findIn X hi) (fun self => PySem.W.bind_fn X self hf) (.inl rfl) h
end

/-! ### the attributes as a list of pairs -/
def putF (f : Str) (v : V) : List (Str × V) → List (Str × V)
  | [] => [(f, v)]
  | (g, x) :: r => if g = f then (g, v) :: r else (g, x) :: putF f v r
theorem lookup_putF (f g : Str) (v : V) : ∀ fs : List (Str × V), (putF f v fs).lookup g = if g = f then some v else fs.lookup g
  | [] => by
    show List.lookup g [(f, v)] = _
    by_cases h : g = f
    · have hb : (g == f) = true := beq_iff_eq.mpr h
      simp only [List.lookup, hb, if_pos h]
    · have hb : (g == f) = false := beq_eq_false_iff_ne.mpr h
      simp only [List.lookup, hb, if_neg h]
  | (k, x) :: r => by
    have ih := lookup_putF f g v r
    rw [show putF f v ((k, x) :: r) = (if k = f then (k, v) :: r else (k, x) :: putF f v r) from rfl]
    by_cases hk : k = f
    · rw [if_pos hk]
      by_cases h : g = k
      · have hb : (g == k) = true := beq_iff_eq.mpr h
        simp only [List.lookup, hb, if_pos (h.trans hk)]
      · have hb : (g == k) = false := beq_eq_false_iff_ne.mpr h
        simp only [List.lookup, hb, if_neg (fun e : g = f => h (e.trans hk.symm))]
    · rw [if_neg hk]
      by_cases h : g = k
      · have hb : (g == k) = true := beq_iff_eq.mpr h
        simp only [List.lookup, hb, if_neg (fun e : g = f => hk (h.symm.trans e))]
      · have hb : (g == k) = false := beq_eq_false_iff_ne.mpr h
        simp only [List.lookup, hb]
        exact ih
theorem keys_putF (f : Str) (v : V) : ∀ fs : List (Str × V), f ∈ (putF f v fs).map (·.1) ∧ ∀ g, g ∈ fs.map (·.1) → g ∈ (putF f v fs).map (·.1)
  | [] => ⟨by simp [putF], fun g h => by simp at h⟩
  | (k, x) :: r => by
    obtain ⟨i1, i2⟩ := keys_putF f v r
    rw [show putF f v ((k, x) :: r) = (if k = f then (k, v) :: r else (k, x) :: putF f v r) from rfl]
    by_cases hk : k = f
    · rw [if_pos hk]
      subst hk
      exact ⟨by simp, fun g h => by simpa using h⟩
    · rw [if_neg hk]
      refine ⟨?_, fun g h => ?_⟩
      · rw [List.map_cons]
        exact List.mem_cons_of_mem _ i1
      · rw [List.map_cons] at h ⊢
        rcases List.mem_cons.mp h with e | e
        · exact List.mem_cons.mpr (.inl e)
        · exact List.mem_cons_of_mem _ (i2 g e)
theorem length_putF (f : Str) (v : V) : ∀ fs : List (Str × V), (putF f v fs).length ≤ fs.length + 1
  | [] => by simp [putF]
  | (k, x) :: r => by
    have ih := length_putF f v r
    rw [show putF f v ((k, x) :: r) = (if k = f then (k, v) :: r else (k, x) :: putF f v r) from rfl]
    by_cases hk : k = f
    · rw [if_pos hk, List.length_cons, List.length_cons]; omega
    · rw [if_neg hk, List.length_cons, List.length_cons]; omega

theorem RelO.some_of {v : V} {o : Option Value} (r : RelO (some v) o) : ∃ u, o = some u ∧ RelV v u := by
  cases o with
  | none => exact (show False from r).elim
  | some u => exact ⟨u, rfl, r⟩
theorem RelO.none_of {o : Option Value} (r : RelO none o) : o = none := by
  cases o with
  | none => rfl
  | some u => exact (show False from r).elim
theorem handed_of {v : V} {u : Value} (r : RelV v u) : PySem.W.handedIn u = true := by
  cases v with
  | non => cases (show u = Value.none from r); rfl
  | bl b => cases (show u = Value.bool b from r); rfl
  | int i => obtain ⟨t, e⟩ := (show ∃ t, u = Value.int i t from r); cases e; rfl
  | str x => obtain ⟨t, e⟩ := (show ∃ t, u = Value.str x t from r); cases e; rfl
  | byt b => obtain ⟨t, e⟩ := (show ∃ t, u = Value.bytes b t from r); cases e; rfl
  | flt b => obtain ⟨t, e⟩ := (show ∃ t, u = Value.float b t from r); cases e; rfl
  | ref a => cases (show u = Value.ref a from r); rfl
  | ty n => cases (show u = Value.type n from r); rfl

section
variable {P : Program} {w : World} {H H' : Hp} {h h' : Heap} {a C dx : Addr} {fs fs' : List (Str × V)}
theorem ins_get (hok : HOk P w H h) (e : H a = some (.ins C dx fs)) : ∃ mA, ObjM h a dx C mA ∧ (∀ f, RelO (fs.lookup f) (mA f)) ∧ PySem.Within mA (fs.map (·.1)) ∧ fs.length ≤ 1000 ∧ H dx = some (.own a) := by
  obtain ⟨d, z, ne, ob, mA, n, r, q⟩ := (show ObjOk P w H h a (.ins C dx fs) from hok a _ e)
  exact ⟨mA, ⟨ob, n, ne⟩, r, q, z, d⟩
end

/-! ### what of the text a class must have -/
structure Cls (K : PySem.W.Frag) (C : Addr) : Prop where
  pg : PySem.W.plainGet K C Str.empty = true
  hd : PySem.W.hasDictIn K C = true
  po : PySem.W.plainOver K C = true
  sa : PySem.W.findIn K (.ref C) "__setattr__" = some (some (.builtin "object.__setattr__"))
theorem Cls.get {K : PySem.W.Frag} {C : Addr} (c : Cls K C) (f : Str) : PySem.W.plainGet K C f = true := c.pg
/-- no class of it has the name -/
def NoAttr (K : PySem.W.Frag) (C : Addr) (f : Str) : Prop := PySem.W.findIn K (.ref C) f = some none
theorem NoAttr.taker {K : PySem.W.Frag} {C : Addr} {f : Str} (n : NoAttr K C f) : PySem.W.takerIn K C f = some none := by
  unfold PySem.W.takerIn
  rw [show PySem.W.findIn K (.ref C) f = some none from n]
  rfl
/-- a method: a plain def of the class or of one above it -/
structure Meth (K : PySem.W.Frag) (C : Addr) (m : Str) (f : Addr) : Prop where
  at_ : PySem.W.findIn K (.ref C) m = some (some (.ref f))
  fn : PySem.W.isFn K (.ref f) = true
  kp : PySem.W.keepIn K (.ref f) = true

section
variable {X : Cx} {pins : List (Addr × Obj)} {σ : St} {H : Hp} {s : Shared} {a C dx : Addr} {fs : List (Str × V)} {f : Str} {v : V} {A : Around} {E : Value → Shared → Prop}

theorem getattr_ok {b : Bool} {Q : Value → Shared → Prop} (I : Inv X pins σ H s) (e : H a = some (.ins C dx fs)) (c : Cls X.K C) (n : NoAttr X.K C f) (l : fs.lookup f = some v)
    (h : ∀ u s', Inv X pins σ H s' → RelV v u → Q u s') : wpAny (model X.prog X.w) A (getAttr (.ref a) f b) Q E s := by
  obtain ⟨mA, O, r, _, _, _⟩ := ins_get I.hok e
  obtain ⟨u, hu, ru⟩ := RelO.some_of (v := v) (o := mA f) (by rw [← l]; exact r f)
  exact get_map I.kIn O (c.get f) c.hd n hu (handed_of ru) (h u _ (I.tok _) ru)

theorem getmeth_ok {m : Str} {g : Addr} {pl : Sem Bool} {Q : Value × List Value → Shared → Prop} (I : Inv X pins σ H s) (e : H a = some (.ins C dx fs)) (c : Cls X.K C) (k : Meth X.K C m g) (l : fs.lookup m = none)
    (h : Q (.ref g, [.ref a]) s) : wpAny (model X.prog X.w) A (getMethod (.ref a) m pl) Q E s := by
  obtain ⟨mA, O, r, _, _, _⟩ := ins_get I.hok e
  have hn : mA m = none := RelO.none_of (by rw [← l]; exact r m)
  exact get_meth I.kIn O (c.get m) k.at_ k.fn hn h

theorem setattr_ok {y : V} {u : Value} {Q : Unit → Shared → Prop} (I : Inv X pins σ H s) (e : H a = some (.ins C dx fs)) (c : Cls X.K C) (n : NoAttr X.K C f) (hl : fs.length < 1000) (ry : RelV y u)
    (h : ∀ s', Inv X pins σ (upd H a (.ins C dx (putF f y fs))) s' → Q () s') : wpAny (model X.prog X.w) A (setAttr (.ref a) f u) Q E s := by
  obtain ⟨mA, O, r, wi, _, ho⟩ := ins_get I.hok e
  have hz : (fs.map (·.1)).length ≤ sizeLine := by rw [List.length_map, sizeLine_eq]; omega
  refine set_map I.kIn O c.sa c.po n.taker c.hd wi hz fun h' O' sb => h _ ?_
  have hd : ∃ o, h'.get? dx = some o := let ⟨o, _, _, e', _⟩ := O'.ns; ⟨o, e'⟩
  refine I.write (x := a) (e := dx) (by rw [e]; exact True.intro) (.inr ho) (fun b q hb z => (sb.2 b hb).trans z) hd ?_
  refine ⟨by rw [upd_ne O.ne]; exact ho, ?_, O.ne, O'.obj, _, O'.ns, fun g => ?_, fun g hg => ?_⟩
  · have := length_putF f y fs; omega
  · show RelO ((putF f y fs).lookup g) (if g = f then some u else mA g)
    rw [lookup_putF]
    by_cases q : g = f
    · rw [if_pos q, if_pos q]; exact ry
    · rw [if_neg q, if_neg q]; exact r g
  · by_cases q : g = f
    · rw [q]; exact (keys_putF f y fs).1
    · refine (keys_putF f y fs).2 g (wi g fun z => hg ?_)
      show (if g = f then some u else mA g) = none
      rw [if_neg q]; exact z

/-- a new instance, tracked, without attributes -/
theorem Inv.made (I : Inv X pins σ H s) : Inv X pins σ (upd (upd H s.heap.objs.size (.own (s.heap.objs.size + 1))) (s.heap.objs.size + 1) (.ins C s.heap.objs.size []))
    { s with heap := (s.heap.push PySem.W.emptyDict).push (PySem.W.instObj C s.heap.objs.size) } := by
  have e1 : (s.heap.push PySem.W.emptyDict).get? s.heap.objs.size = some PySem.W.emptyDict := Heap.get?_push_size s.heap rfl
  have e2 : ((s.heap.push PySem.W.emptyDict).push (PySem.W.instObj C s.heap.objs.size)).get? (s.heap.objs.size + 1) = some (PySem.W.instObj C s.heap.objs.size) := by
    have := Heap.get?_push_size (s.heap.push PySem.W.emptyDict) (o := PySem.W.instObj C s.heap.objs.size) rfl
    rwa [Heap.size_push] at this
  have e3 : (s.heap.push PySem.W.emptyDict).Ns s.heap.objs.size (fun _ => none) := ⟨PySem.W.emptyDict, #[], _, e1, rfl, (fun e he => absurd he (by simp)), fun _ => rfl⟩
  have I1 := I.laid (a := s.heap.objs.size) (o := .own (s.heap.objs.size + 1)) (h' := s.heap.push PySem.W.emptyDict) (t' := s.toks) (fun b u q => Heap.get?_push_of_some _ q) (Nat.le_refl _) ⟨_, e1⟩
  refine I1.laid (a := s.heap.objs.size + 1) (o := .ins C s.heap.objs.size []) (t' := s.toks) (fun b u q => Heap.get?_push_of_some _ q) (Nat.le_of_eq (Heap.size_push _ _)) ?_
  have ne : s.heap.objs.size ≠ s.heap.objs.size + 1 := Nat.ne_of_lt (Nat.lt_succ_self _)
  refine ⟨by rw [upd_ne ne, upd_same], Nat.zero_le _, ne, e2, fun _ => none, (Heap.Ns1.of_empty e3).at fun o q => Heap.get?_push_of_some _ q, fun _ => True.intro, fun y hy => absurd rfl hy⟩

/-- e.f where nothing but the object is asked: through attributeBase (super) and the last hold -/
theorem attr_of {prog : Program} {w : World} {env : Env} {e : Expr} {f : Str} {pos : Pos} {s : Shared} {Q : Value → Shared → Prop} (hb : attributeBase e f env (eval e env) = eval e env)
    (h : wpAny (model prog w) A (eval e env) (fun o s₁ => wpAny (model prog w) A (getAttr o f true) Q E s₁) E s) : wpAny (model prog w) A (eval (.Attribute e f pos) env) Q E s :=
  Attribute_any_ h (by rw [arm_eval_Attribute, hb])
end

/-! ### readings and rules -/
/-- e.f, an attribute of the instance -/
def tFld (K : PySem.W.Frag) (ta : TE) (f : Str) : TE := fun σ H Q => ta σ H fun x H1 => ∃ a C dx fs v, x = .ref a ∧ H1 a = some (.ins C dx fs) ∧ Cls K C ∧ NoAttr K C f ∧ fs.lookup f = some v ∧ Q v H1
/-- e.f = value -/
def sFld (K : PySem.W.Frag) (ta tv : TE) (f : Str) : TS := fun D σ H => tv σ H fun y H1 => ta σ H1 fun x H2 => ∃ a C dx fs, x = .ref a ∧ H2 a = some (.ins C dx fs) ∧ Cls K C ∧ NoAttr K C f ∧ fs.length < 1000 ∧
  D.nx σ (upd H2 a (.ins C dx (putF f y fs)))
section
variable {X : Cx} {o e value : Expr} {f : Str} {pos pos' tpos : Pos} {ta tv : TE}
theorem pe_fld (he : PE X e ta) (hb : attributeBase e f X.env (eval e X.env) = eval e X.env) : PE X (.Attribute e f pos) (tFld X.K ta f) := by
  refine ⟨?_⟩
  intro pins s σ H Q I h
  refine attr_of hb (thn (he pins s σ H _ I h) fun u s1 ⟨x, H1, I1, rx, a, C, dx, fs, v, ex, ea, c, n, l, q⟩ => ?_)
  subst ex
  obtain rfl : u = Value.ref a := rx
  exact getattr_ok I1 ea c n l fun u' s2 I2 ru => ⟨v, H1, I2, ru, q⟩
theorem ps_fld (ha : PE X o ta) (hv : PE X value tv) (hs : swapsWith value (some (.Attribute o f pos')) pos.line X.env = pure false) : PS X (.Assign [.Attribute o f pos'] value pos) (sFld X.K ta tv f) := by
  refine ⟨?_⟩
  intro pins s σ H D I h
  refine plainObj_wpAny_Assign_Attribute (thn (hv pins s σ H _ I h) fun u s1 ⟨y, H1, I1, ry, q⟩ => thn (ha pins s1 σ H1 _ I1 q) fun ov s2 ⟨x, H2, I2, rx, a, C, dx, fs, ex, ea, c, n, l, q2⟩ => ?_) hs
  subst ex
  obtain rfl : ov = Value.ref a := rx
  exact setattr_ok I2 ea c n l ry fun s3 I3 => ⟨σ, _, I3, q2⟩
/-- what is between an instance and its method: the tree of a method call -/
theorem methcall_of {pl : Sem Bool} {m : Str} {apos : Pos} {args : List Expr} {pins : List (Addr × Obj)} {s : Shared} {σ : St} {H : Hp} {Q : Value → Shared → Prop} {te : TE} (he : PE X e te) (I : Inv X pins σ H s)
    (h : te σ H fun x H1 => ∃ a C dx fs g, x = .ref a ∧ H1 a = some (.ins C dx fs) ∧ Cls X.K C ∧ Meth X.K C m g ∧ fs.lookup m = none ∧
      ∀ s1, Inv X pins σ H1 s1 → wpAny (model X.prog X.w) X.A (callWith pos (.ref g) [.ref a] (backTo pos (starEach args X.env)) (backToKw pos (keywordEach [] X.env))) Q X.xe s1)
    (ht : eval (.Call (.Attribute e m apos) args [] pos) X.env = (do
      let ov ← eval e X.env
      standAt apos.atName
      let (f, first) ← holding [ov] (getMethod ov m pl)
      callWith pos f first (backTo pos (starEach args X.env)) (backToKw pos (keywordEach [] X.env)))) :
    wpAny (model X.prog X.w) X.A (eval (.Call (.Attribute e m apos) args [] pos) X.env) Q X.xe s := by
  refine PySem.W.methodCall_KW (pl := pl) (thn (he pins s σ H _ I h) fun u s1 ⟨x, H1, I1, rx, a, C, dx, fs, g, ex, ea, c, k, l, q⟩ => ?_) ht
  subst ex
  obtain rfl : u = Value.ref a := rx
  exact getmeth_ok I1 ea c k l (q s1 I1)
end

/-! ### isinstance -/
section
variable {X : Cx} {pins : List (Addr × Obj)} {σ : St} {H : Hp} {s : Shared} {A : Around} {E : Value → Shared → Prop} {Q : Value → Shared → Prop} {c : Value} {b : Bool}
/-- the type of a value, as the fragment's deciders take it; for an instance its class -/
inductive TyOf (K : PySem.W.Frag) (H : Hp) : V → Value → Prop where
  | non : TyOf K H .non (.type "NoneType")
  | bl (x : Bool) : TyOf K H (.bl x) (.type "bool")
  | int (i : Int) : TyOf K H (.int i) (.type "int")
  | str (x : Str) : TyOf K H (.str x) (.type "str")
  | flt (x : UInt64) : TyOf K H (.flt x) (.type "float")
  | lst {a : Addr} {xs : List V} (e : H a = some (.lst xs)) : TyOf K H (.ref a) (.type "list")
  | frz {a : Addr} {o : Obj} {xs : List V} (e : H a = some (.frz o (.lst xs))) : TyOf K H (.ref a) (.type "list")
  | tup {a : Addr} {xs : List V} (e : H a = some (.tup xs)) : TyOf K H (.ref a) (.type "tuple")
  | dK {a : Addr} {kvs : List (Key × V)} (e : H a = some (.dK kvs)) : TyOf K H (.ref a) (.type "dict")
  | dT {a : Addr} {kvs : List (List Key × V)} (e : H a = some (.dT kvs)) : TyOf K H (.ref a) (.type "dict")
  | ins {a C dx : Addr} {fs : List (Str × V)} (e : H a = some (.ins C dx fs)) (cl : Cls K C) (ha : PySem.W.findIn K (.ref C) "__class__" = some (some (.builtin "object.__class__")))
      (hn : PySem.W.specialIn K (.builtin "object.__class__") "__get__" = some (some (.builtin "getset_descriptor.__get__"))) (htk : PySem.W.takesIn K (.builtin "object.__class__") = some true)
      (hm : PySem.W.mroIn K C (.type "object") = some true) : TyOf K H (.ref a) (.ref C)
/-- isinstance(x, c) for one class c, a built-in or an own one: kitOne's answer -/
theorem isinst_ok {x : V} {u t : Value} (I : Inv X pins σ H s) (rx : RelV x u) (ty : TyOf X.K H x t) (e : PySem.W.kitOne X.K t c = some b) (h : ∀ tk, Q (.bool b) { s with toks := tk }) :
    wpAny (model X.prog X.w) A (call (.builtin "isinstance") [u, c]) Q E s := by
  cases ty with
  | non => cases (show u = Value.none from rx); exact PySem.W.kia_one PySem.W.kitx_none I.kIn True.intro e (fun z => nomatch z) h
  | bl y => cases (show u = Value.bool y from rx); exact PySem.W.kia_one PySem.W.kitx_bool I.kIn True.intro e (fun z => nomatch z) h
  | int i => obtain ⟨t, q⟩ := (show ∃ t, u = Value.int i t from rx); cases q; exact PySem.W.kia_one PySem.W.kitx_int I.kIn True.intro e (fun z => nomatch z) h
  | str y => obtain ⟨t, q⟩ := (show ∃ t, u = Value.str y t from rx); cases q; exact PySem.W.kia_one PySem.W.kitx_str I.kIn True.intro e (fun z => nomatch z) h
  | flt y => obtain ⟨t, q⟩ := (show ∃ t, u = Value.float y t from rx); cases q; exact PySem.W.kia_one PySem.W.kitx_float I.kIn True.intro e (fun z => nomatch z) h
  | @lst a xs ea =>
    cases (show u = Value.ref a from rx)
    obtain ⟨_, _, n, _, h1⟩ := (show ObjOk X.prog X.w H s.heap a (.lst xs) from I.hok a _ ea)
    exact PySem.W.kia_one PySem.W.kitx_list I.kIn ⟨_, h1, rfl⟩ e (fun z => nomatch z) h
  | @frz a ob xs ea =>
    cases (show u = Value.ref a from rx)
    obtain ⟨_, _, _, n, _, h1⟩ := (show ObjOk X.prog X.w H s.heap a (.frz ob (.lst xs)) from I.hok a _ ea)
    exact PySem.W.kia_one PySem.W.kitx_list I.kIn ⟨_, h1, rfl⟩ e (fun z => nomatch z) h
  | @tup a xs ea =>
    cases (show u = Value.ref a from rx)
    obtain ⟨_, _, _, p⟩ := (show ObjOk X.prog X.w H s.heap a (.tup xs) from I.hok a _ ea)
    obtain ⟨o, h1, h2, _⟩ := p
    exact PySem.W.kia_one PySem.W.kitx_tuple I.kIn ⟨o, h1, h2⟩ e (fun z => nomatch z) h
  | @dK a kvs ea =>
    cases (show u = Value.ref a from rx)
    obtain ⟨_, _, vs, _, p⟩ := (show ObjOk X.prog X.w H s.heap a (.dK kvs) from I.hok a _ ea)
    obtain ⟨o, es, ep, h1, h2, _⟩ := p
    exact PySem.W.kia_one PySem.W.kitx_dict I.kIn ⟨o, h1, h2.1⟩ e (fun z => nomatch z) h
  | @dT a kvs ea =>
    cases (show u = Value.ref a from rx)
    obtain ⟨_, _, xs, _, o, es, ep, h1, h2, _⟩ := (show ObjOk X.prog X.w H s.heap a (.dT kvs) from I.hok a _ ea)
    exact PySem.W.kia_one PySem.W.kitx_dict I.kIn ⟨o, h1, h2.1⟩ e (fun z => nomatch z) h
  | @ins a C dx fs ea cl ha hn htk hm =>
    cases (show u = Value.ref a from rx)
    obtain ⟨mA, O, _⟩ := ins_get I.hok ea
    obtain ⟨od, J, _⟩ := O.look
    exact PySem.W.kia_one (PySem.W.kitx_own (cl.get _) cl.hd ha hn htk hm) I.kIn J e (fun z => nomatch z) h
end
end L2

namespace L2
open PySem PySem.Spec PyProof.Rows

/-! ### room -/
structure Room (k : Nat) (A : Around) : Prop where
  hd : A.handled = none
  dp : A.depth + 3 * k + 5 < recursionLimit
  un : A.units + 16 * k + 200 < cLine
theorem Room.mono {j k : Nat} {A : Around} (r : Room k A) (h : j ≤ k) : Room j A := ⟨r.hd, by have := r.dp; omega, by have := r.un; omega⟩
theorem Room.deeper {k : Nat} {A : Around} (r : Room (k + 1) A) (env : Env) : Room k (A.deeper env) :=
  ⟨r.hd, by have := r.dp; show A.depth + 1 + 3 * k + 5 < _; omega, by have := r.un; show A.units + 3 + 16 * k + 200 < _; omega⟩
theorem make_depth {A : Around} {C : Addr} {us : List Value} {kw : List (Str × Value)} : (A.under (.builtin "type.__call__" ⟨.ref C :: us, kw⟩)).depth = A.depth + 1 := by
  first | rfl | simp [Around.under, Code.weight, Code.isCreation, Code.isGuard, Code.isCaller, Code.frames, Code.isFrame, guardIds]
theorem make_units {A : Around} {C : Addr} {us : List Value} {kw : List (Str × Value)} : (A.under (.builtin "type.__call__" ⟨.ref C :: us, kw⟩)).units = A.units + 1 := by
  first | rfl | simp [Around.under, Code.cUnits, Code.frames, Code.isFrame]
theorem Room.make {k : Nat} {A : Around} (r : Room (k + 1) A) (C : Addr) (us : List Value) (kw : List (Str × Value)) : Room k (A.under (.builtin "type.__call__" ⟨.ref C :: us, kw⟩)) :=
  ⟨r.hd, by have := r.dp; rw [make_depth]; omega, by have := r.un; rw [make_units]; omega⟩
theorem Room.depth {k : Nat} {A : Around} (r : Room k A) : A.depth < recursionLimit := by have := r.dp; omega
theorem Room.units {k : Nat} {A : Around} (r : Room k A) : A.units + 64 < cLine := by have := r.un; omega
theorem Room.units0 {k : Nat} {A : Around} (r : Room k A) : A.units < cLine := by have := r.un; omega

/-! ### argument lists and displays -/
def tNil : TA := fun _ H Q => Q [] H
def tCons (ta : TE) (tr : TA) : TA := fun σ H Q => ta σ H fun x H1 => tr σ H1 fun xs H2 => Q (x :: xs) H2
section
variable {X : Cx} {e : Expr} {es : List Expr} {te : TE} {t : TA} {pos : Pos}
theorem pa_nil : PA X [] tNil := ⟨fun _ _ _ _ H Q I h => Calls.spliced_nil ⟨[], H, I, .nil, h⟩⟩
theorem pa_cons (ha : PE X e te) (hr : PA X es t) (hs : starEach (e :: es) X.env = (false, eval e X.env) :: starEach es X.env := by rfl) : PA X (e :: es) (tCons te t) := by
  refine ⟨?_⟩
  intro pos pins s σ H Q I h
  rw [hs]
  show wpAny _ _ (spliced ((false, eval e X.env) :: backTo pos (starEach es X.env))) _ _ s
  refine Calls.spliced_cons (thn (ha pins s σ H _ I h) fun u s1 ⟨x, H1, I1, r1, q1⟩ => ?_)
  exact thn (hr pos pins s1 σ H1 _ I1 q1) fun us s2 ⟨xs, H2, I2, r2, q2⟩ => ⟨x :: xs, H2, I2, .cons r1 r2, q2⟩

/-- a tuple, a list of written items -/
def tTup (t : TA) : TE := fun σ H Q => t σ H fun xs H1 => xs.length ≤ sizeLine ∧ ∀ p, H1 p = none → Q (.ref p) (upd H1 p (.tup xs))
def tLst (t : TA) : TE := fun σ H Q => t σ H fun xs H1 => xs.length ≤ sizeLine ∧ ∀ p, H1 p = none → Q (.ref p) (upd H1 p (.lst xs))
theorem pe_tup {x1} (h : PA X es t) : PE X (.Tuple es x1 pos) (tTup t) := by
  refine ⟨?_⟩
  intro pins s σ H Q I hq
  refine wpAny_Tuple_spliced (thn (h pos pins s σ H _ I hq) fun us s1 ⟨xs, H1, I1, r, z, q⟩ => ⟨by rw [← r.length]; exact z, ?_⟩)
  have hf : H1 s1.heap.objs.size = none := I1.hok.fresh (Nat.le_refl _)
  refine ⟨.ref s1.heap.objs.size, upd H1 s1.heap.objs.size (.tup xs), I1.laid (t' := s1.toks) (fun b u e => Heap.get?_push_of_some _ e) (Nat.le_refl _) ?_, rfl, q _ hf⟩
  exact ⟨z, us, r, ⟨_, Heap.get?_push_size _ rfl, rfl, _, rfl⟩⟩
theorem pe_lst (h : PA X es t) : PE X (.List es pos) (tLst t) := by
  refine ⟨?_⟩
  intro pins s σ H Q I hq
  refine wpAny_List_spliced (thn (h pos pins s σ H _ I hq) fun us s1 ⟨xs, H1, I1, r, z, q⟩ => ⟨by rw [← r.length]; exact z, ?_⟩)
  have hf : H1 s1.heap.objs.size = none := I1.hok.fresh (Nat.le_refl _)
  refine ⟨.ref s1.heap.objs.size, upd H1 s1.heap.objs.size (.lst xs), I1.laid (t' := s1.toks) (fun b u e => Heap.get?_push_of_some _ e) (Nat.le_refl _) ?_, rfl, q _ hf⟩
  exact ⟨z, us, 0, r, Heap.get?_push_size _ rfl⟩
end

/-! ### what a def promises -/
/-- a def's promise: the bound arguments in the parameters' order, the heap, the wanted end, the wanted exception -/
abbrev Sp := List V → Hp → VK → XK → Prop
/-- how an exception lies behind a call (file 08 gives it): the callers' frames, abstract heap and state ahead of the call, the wish, the exception, the state -/
abbrev CXT := List Env → Hp → Shared → XK → Value → Shared → Prop

/-- the state at a call -/
structure Env0 (P : Program) (w : World) (K : PySem.W.Frag) (mg : Str → Option Value) (base : Heap) (A : Around) (outer : List Env) (s : Shared) (H : Hp) : Prop where
  frames : A.frames = some outer
  mod : Mod K mg base
  bs : ∀ b o, base.get? b = some o → s.heap.get? b = some o ∧ H b = none
  bsz : base.objs.size ≤ s.heap.objs.size
  funs : s.heap.FunFrames base outer
  frf : ∀ b ∈ frs outer, H b = none
  hok : HOk P w H s.heap
  bare : AllBare s.gens
/-- a call's end -/
def CE (outer : List Env) (P : Program) (w : World) (H : Hp) (s : Shared) (Q : VK) (u : Value) (s' : Shared) : Prop :=
  ∃ v H', s'.os = s.os ∧ AllBare s'.gens ∧ Un (frs outer) [] H H' s.heap s'.heap ∧ HOk P w H' s'.heap ∧ RelV v u ∧ Q v H'
def CR (CX : CXT) (outer : List Env) (P : Program) (w : World) (H : Hp) (s : Shared) (Q : VK) (E : XK) (r : Result) (s' : Shared) : Prop :=
  match r with
  | .ok (.ret u) => CE outer P w H s Q u s'
  | .ok _ => False
  | .error e => CX outer H s E e s'
structure FnOk (P : Program) (w : World) (K : PySem.W.Frag) (mg : Str → Option Value) (base : Heap) (CX : CXT) (k : Nat) (f : Addr) (fd : FuncData) (ps : List Str) (sp : Sp) : Prop where
  len : ∀ vs H Q E, sp vs H Q E → vs.length = ps.length
  run : ∀ (A : Around) (outer : List Env) (s : Shared) (H : Hp) (args : Args) (us : List Value) (vs : List V) (Q : VK) (E : XK), Room k A → Env0 P w K mg base A outer s H → BindsTo s fd args (ps.zip us) → Vals vs us → sp vs H Q E →
    codeAny (model P w) A (.call (.ref f) args) (CR CX outer P w H s Q E) s
theorem Env0.make {P : Program} {w : World} {K : PySem.W.Frag} {mg : Str → Option Value} {base : Heap} {A : Around} {outer : List Env} {s : Shared} {H : Hp} (e : Env0 P w K mg base A outer s H) (C : Addr) (us : List Value) (kw : List (Str × Value)) :
    Env0 P w K mg base (A.under (.builtin "type.__call__" ⟨.ref C :: us, kw⟩)) outer s H := ⟨by first | exact e.frames | (simpa [Around.under, Code.envs, Code.isFrame, pushEnvs] using e.frames), e.mod, e.bs, e.bsz, e.funs, e.frf, e.hok, e.bare⟩
section
variable {X : Cx} {pins : List (Addr × Obj)} {σ : St} {H : Hp} {s s' : Shared}
/-- from a body: what a callee wants -/
theorem Inv.env0 (I : Inv X pins σ H s) : Env0 X.prog X.w X.K X.mg X.base X.A X.stack s H :=
  ⟨I.ok.frames, I.ok.mod, I.bs, Nat.le_trans I.ok.bsz I.sz, I.stack, I.stkFree, I.hok, I.bare⟩
/-- behind a call -/
theorem Inv.after {Q : VK} {u : Value} (I : Inv X pins σ H s) (h : CE X.stack X.prog X.w H s Q u s') : EP X pins σ Q u s' := by
  obtain ⟨v, H', os, bare, un, hok, r, q⟩ := h
  obtain ⟨hh, g, d, t, os'⟩ := s'
  obtain rfl : os' = s.os := os
  exact ⟨v, H', I.call (h' := hh) (g' := g) (d' := d) (t' := t) (ch := []) un hok bare (fun b z => absurd z (by simp)), r, q⟩
end

/-! ### calls -/
/-- f(..): the written arguments, then the defaults dvs; E: what is wanted of an exception -/
def tCall (sp : Sp) (dvs : List V) (E : XK) (t : TA) : TE := fun σ H Q => t σ H fun vs H1 => sp (vs ++ dvs) H1 Q E
/-- o.m(..) of an instance of the class at C -/
def tMeth (C : Addr) (m : Str) (sp : Sp) (dvs : List V) (E : XK) (ta : TE) (t : TA) : TE := fun σ H Q => ta σ H fun x H1 => ∃ a dx fs, x = .ref a ∧ H1 a = some (.ins C dx fs) ∧ fs.lookup m = none ∧
  t σ H1 fun vs H2 => sp (x :: (vs ++ dvs)) H2 Q E
/-- C(..): a new instance and its dict, then __init__ -/
def tMake (C : Addr) (sp : Sp) (dvs : List V) (E : XK) (t : TA) : TE := fun σ H Q => t σ H fun vs H1 => ∀ x dx, H1 x = none → H1 dx = none → dx ≠ x →
  sp (.ref x :: (vs ++ dvs)) (upd (upd H1 dx (.own x)) x (.ins C dx [])) (fun v H2 => v = .non ∧ Q (.ref x) H2) E

/-- how the parameters are bound: us the positional arguments, kw the keywords' values by name, ds the defaults that fill up -/
def Binds (K : PySem.W.Frag) (fd : FuncData) (ps : List Str) (ds : List Value) : Prop :=
  ∀ (s : Shared) (us : List Value), K.In s.heap → (us ++ ds).length = ps.length → BindsTo s fd ⟨us, []⟩ (ps.zip (us ++ ds))
/-- every parameter is given -/
theorem Binds.all {K : PySem.W.Frag} {fd : FuncData} {ps : List Str} (h : ∀ us : List Value, us.length = ps.length → bindArgs fd ⟨us, []⟩ = pure (ps.zip us)) : Binds K fd ps [] := fun s us _ hl => by
  rw [List.append_nil] at hl ⊢
  exact .of_eq (h us hl)

/-- an exception of a callee reaches what this body wants of exceptions -/
def Passes (CX : CXT) (X : Cx) (E : XK) : Prop := ∀ (pins : List (Addr × Obj)) (σ : St) (H : Hp) (s : Shared) (e : Value) (s' : Shared), Inv X pins σ H s → CX X.stack H s E e s' → X.xe e s'

section
variable {X : Cx} {CX : CXT} {k : Nat} {f C : Addr} {fd : FuncData} {ps : List Str} {sp : Sp} {dvs : List V} {ds : List Value} {E : XK} {x m : Str} {p pos apos : Pos} {e o : Expr} {es : List Expr} {ta : TE} {t : TA}

/-- the callee runs -/
theorem run_fn {pins : List (Addr × Obj)} {σ : St} {H : Hp} {s : Shared} {Q : VK} {us : List Value} {vs : List V} (F : FnOk X.prog X.w X.K X.mg X.base CX k f fd ps sp) (hr : Room k X.A) (hb : Binds X.K fd ps ds) (hd : Vals dvs ds) (hx : Passes CX X E)
    (I : Inv X pins σ H s) (r : Vals vs us) (h : sp (vs ++ dvs) H Q E) : wpAny (model X.prog X.w) X.A (call (.ref f) us) (EP X pins σ Q) X.xe s := by
  have r2 : Vals (vs ++ dvs) (us ++ ds) := r.append hd
  have hl : (us ++ ds).length = ps.length := by rw [← r2.length]; exact F.len _ _ _ _ h
  refine wpAny_call (codeAny_mono (F.run X.A X.stack s H ⟨us, []⟩ (us ++ ds) (vs ++ dvs) Q E hr I.env0 (hb s us I.kIn hl) r2 h) fun r s' hq => ?_)
  cases r with
  | error e => exact hx pins σ H s e s' I hq
  | ok fl =>
    cases fl with
    | ret u => exact I.after hq
    | next => exact False.elim hq
    | brk => exact False.elim hq
    | cont => exact False.elim hq

theorem pe_call (F : FnOk X.prog X.w X.K X.mg X.base CX k f fd ps sp) (hr : Room k X.A) (hg : Gl X x) (hm : X.mg x = some (.ref f)) (hk : PySem.W.keepIn X.K (.ref f) = true) (hb : Binds X.K fd ps ds) (hd : Vals dvs ds) (hx : Passes CX X E)
    (ha : PA X (e :: es) t) (hdb : (x == ("__debug__" : Str)) = false := by decide) (he : starEach (e :: es) X.env = (false, eval e X.env) :: starEach es X.env := by rfl) (hpl : (backTo pos (starEach es X.env)).any (·.1) = false := by rfl) :
    PE X (.Call (.Name x p) (e :: es) [] pos) (tCall sp dvs E t) := by
  refine ⟨?_⟩
  intro pins s σ H Q I h
  refine wpAny_Call_Name_kw (ld_glob I hg hm ?_ hdb)
  refine PySem.W.callWith_K (h₀ := X.base) I.ok.mod.kin hk (thn (ha pos pins s σ H _ I h) fun us s1 ⟨vs, H1, I1, r, q⟩ => ⟨I1.kIn, ?_⟩) he hpl
  exact run_fn F hr hb hd hx I1 r q
/-- o.m(e, ..) -/
theorem pe_meth {pl : Sem Bool} (he : PE X o ta) (c : Cls X.K C) (hm : Meth X.K C m f) (F : FnOk X.prog X.w X.K X.mg X.base CX k f fd ps sp) (hr : Room k X.A) (hb : Binds X.K fd ps ds) (hd : Vals dvs ds) (hx : Passes CX X E) (ha : PA X (e :: es) t)
    (hst : starEach (e :: es) X.env = (false, eval e X.env) :: starEach es X.env := by rfl) (hpl : (backTo pos (starEach es X.env)).any (·.1) = false := by rfl)
    (ht : eval (.Call (.Attribute o m apos) (e :: es) [] pos) X.env = (do
      let ov ← eval o X.env
      standAt apos.atName
      let (f, first) ← holding [ov] (getMethod ov m pl)
      callWith pos f first (backTo pos (starEach (e :: es) X.env)) (backToKw pos (keywordEach [] X.env))) := by rfl) :
    PE X (.Call (.Attribute o m apos) (e :: es) [] pos) (tMeth C m sp dvs E ta t) := by
  refine ⟨?_⟩
  intro pins s σ H Q I h
  refine PySem.W.methodCall_KW (pl := pl) (thn (he pins s σ H _ I h) fun u s1 ⟨x, H1, I1, rx, a, dx, fs, ex, ea, l, q⟩ => ?_) ht
  subst ex
  obtain rfl : u = Value.ref a := rx
  refine getmeth_ok I1 ea c hm l ?_
  refine PySem.W.callWith_K (first := [.ref a]) (h₀ := X.base) I.ok.mod.kin hm.kp (thn (ha pos pins s1 σ H1 _ I1 q) fun us s2 ⟨vs, H2, I2, r, q2⟩ => ⟨I2.kIn, ?_⟩) hst hpl
  exact run_fn (us := .ref a :: us) (vs := .ref a :: vs) F hr hb hd hx I2 (.cons rfl r) q2
/-- o.m() -/
theorem pe_meth0 {pl : Sem Bool} (he : PE X o ta) (c : Cls X.K C) (hm : Meth X.K C m f) (F : FnOk X.prog X.w X.K X.mg X.base CX k f fd ps sp) (hr : Room k X.A) (hb : Binds X.K fd ps ds) (hd : Vals dvs ds) (hx : Passes CX X E)
    (ht : eval (.Call (.Attribute o m apos) [] [] pos) X.env = (do
      let ov ← eval o X.env
      standAt apos.atName
      let (f, first) ← holding [ov] (getMethod ov m pl)
      callWith pos f first (backTo pos (starEach [] X.env)) (backToKw pos (keywordEach [] X.env))) := by rfl) :
    PE X (.Call (.Attribute o m apos) [] [] pos) (tMeth C m sp dvs E ta tNil) := by
  refine ⟨?_⟩
  intro pins s σ H Q I h
  refine PySem.W.methodCall_KW (pl := pl) (thn (he pins s σ H _ I h) fun u s1 ⟨x, H1, I1, rx, a, dx, fs, ex, ea, l, q⟩ => ?_) ht
  subst ex
  obtain rfl : u = Value.ref a := rx
  refine getmeth_ok I1 ea c hm l ?_
  exact PySem.W.callWith_K0 (first := [.ref a]) I1.kIn hm.kp (run_fn (us := [.ref a]) (vs := [.ref a]) F hr hb hd hx I1 (.cons rfl .nil) q)

/-- what a class must have to be made -/
structure Mk (K : PySem.W.Frag) (C f : Addr) : Prop where
  makes : PySem.W.makesIn K C = true
  init : PySem.W.findIn K (.ref C) "__init__" = some (some (.ref f))
  fn : PySem.W.isFn K (.ref f) = true
  kp : PySem.W.keepIn K (.ref C) = true

theorem run_make {pins : List (Addr × Obj)} {σ : St} {H : Hp} {s : Shared} {Q : VK} {us : List Value} {vs : List V} (M : Mk X.K C f) (F : FnOk X.prog X.w X.K X.mg X.base CX k f fd ps sp) (hr : Room (k + 1) X.A) (hb : Binds X.K fd ps ds) (hd : Vals dvs ds)
    (hx : Passes CX X E) (I : Inv X pins σ H s) (r : Vals vs us)
    (h : ∀ x dx, H x = none → H dx = none → dx ≠ x → sp (.ref x :: (vs ++ dvs)) (upd (upd H dx (.own x)) x (.ins C dx [])) (fun v H2 => v = .non ∧ Q (.ref x) H2) E) :
    wpAny (model X.prog X.w) X.A (call (.ref C) us) (EP X pins σ Q) X.xe s := by
  have hq := h (s.heap.objs.size + 1) s.heap.objs.size (I.hok.fresh (Nat.le_succ _)) (I.hok.fresh (Nat.le_refl _)) (Nat.ne_of_lt (Nat.lt_succ_self _))
  have I2 := Inv.made (C := C) I
  have r2 : Vals (V.ref (s.heap.objs.size + 1) :: (vs ++ dvs)) (Value.ref (s.heap.objs.size + 1) :: (us ++ ds)) := .cons rfl (r.append hd)
  have hl : (Value.ref (s.heap.objs.size + 1) :: us ++ ds).length = ps.length := by
    have e := r2.length
    rw [F.len _ _ _ _ hq] at e
    exact e.symm
  refine wpAny_call (make_map (f := f) I.kIn M.makes M.init (beq_iff_eq.mp M.fn) (codeAny_mono (F.run _ X.stack _ _ ⟨Value.ref (s.heap.objs.size + 1) :: us, []⟩ (Value.ref (s.heap.objs.size + 1) :: (us ++ ds)) _ _ E (hr.make C us [])
    (I2.env0.make C us []) (hb _ (Value.ref (s.heap.objs.size + 1) :: us) I2.kIn hl) r2 hq) fun r s' hq' => ?_))
  cases r with
  | error e => exact hx pins σ _ _ e s' I2 hq'
  | ok fl =>
    cases fl with
    | ret u =>
      obtain ⟨v, H', I3, rv, ev, q3⟩ := I2.after hq'
      subst ev
      exact ⟨rv, ⟨V.ref (s.heap.objs.size + 1), H', I3, rfl, q3⟩⟩
    | next => exact False.elim hq'
    | brk => exact False.elim hq'
    | cont => exact False.elim hq'
theorem pe_make (M : Mk X.K C f) (F : FnOk X.prog X.w X.K X.mg X.base CX k f fd ps sp) (hr : Room (k + 1) X.A) (hg : Gl X x) (hm : X.mg x = some (.ref C)) (hb : Binds X.K fd ps ds) (hd : Vals dvs ds) (hx : Passes CX X E)
    (ha : PA X (e :: es) t) (hdb : (x == ("__debug__" : Str)) = false := by decide) (he : starEach (e :: es) X.env = (false, eval e X.env) :: starEach es X.env := by rfl) (hpl : (backTo pos (starEach es X.env)).any (·.1) = false := by rfl) :
    PE X (.Call (.Name x p) (e :: es) [] pos) (tMake C sp dvs E t) := by
  refine ⟨?_⟩
  intro pins s σ H Q I h
  refine wpAny_Call_Name_kw (ld_glob I hg hm ?_ hdb)
  refine PySem.W.callWith_K (h₀ := X.base) I.ok.mod.kin M.kp (thn (ha pos pins s σ H _ I h) fun us s1 ⟨vs, H1, I1, r, q⟩ => ⟨I1.kIn, ?_⟩) he hpl
  exact run_make M F hr hb hd hx I1 r q
end

/-! ### keywords -/
section
variable {X : Cx} {CX : CXT} {k : Nat} {f C : Addr} {fd : FuncData} {ps ks : List Str} {sp : Sp} {E : XK} {x m : Str} {p pos apos kpos : Pos} {e o : Expr} {es : List Expr} {kws : List Keyword} {te ta : TE} {t tk : TA} {nm : Option Str}
/-- how a call with keywords binds: g puts the positional values us and the keywords' values ws (names ks) in the parameters' order, defaults among them -/
structure KBinds (K : PySem.W.Frag) (fd : FuncData) (ps ks : List Str) (g : List Value → List Value → List Value) (gV : List V → List V → List V) : Prop where
  to : ∀ (s : Shared) (us ws : List Value), K.In s.heap → (g us ws).length = ps.length → BindsTo s fd ⟨us, ks.zip ws⟩ (ps.zip (g us ws))
  rel : ∀ {vs : List V} {us : List Value} {zs : List V} {ws : List Value}, Vals vs us → Vals zs ws → Vals (gV vs zs) (g us ws)
variable {g : List Value → List Value → List Value} {gV : List V → List V → List V}
end

/-! ### a def's body keeps its promise -/
/-- names: the parameters first -/
structure FnScope (N P : List Str) (sc : Scope) : Prop where
  kind : sc.kind = .function
  co : sc.isCoroutine = false
  gen : sc.isGenerator = false
  nd : N.Nodup
  pre : N.take P.length = P
  par : ∀ x ∈ P, sc.names.lookup x = some .local ∨ sc.names.lookup x = some .cell
  nofree : ∀ y ∈ sc.names, y.2 ≠ .free

theorem bindL_out {kindOf : Str → Option NameKind} {x : Str} : ∀ {binds : List (Str × Value)} {m : Str → Option Value}, (∀ v, (x, v) ∉ binds) → bindL kindOf binds m x = m x
  | [], _, _ => rfl
  | (n, v) :: r, m, h => by
    unfold bindL
    rw [bindL_out fun w hw => h w (List.mem_cons_of_mem _ hw)]
    split
    · have : x ≠ n := by rintro rfl; exact h v List.mem_cons_self
      simp [this]
    · rfl
theorem bindC_out {kindOf : Str → Option NameKind} {x : Str} : ∀ {binds : List (Str × Value)} {m : Str → Option Value}, (∀ v, (x, v) ∉ binds) → bindC kindOf binds m x = m x
  | [], _, _ => rfl
  | (n, v) :: r, m, h => by
    unfold bindC
    rw [bindC_out fun w hw => h w (List.mem_cons_of_mem _ hw)]
    split
    · rfl
    · have : x ≠ n := by rintro rfl; exact h v List.mem_cons_self
      simp [this]
theorem bindL_get {kindOf : Str → Option NameKind} {x : Str} {v : Value} : ∀ {P : List Str} {vs : List Value} {i : Nat} {m : Str → Option Value}, P.Nodup → P[i]? = some x → vs[i]? = some v → kindOf x = some .local →
    bindL kindOf (P.zip vs) m x = some v
  | [], _, _, _, _, h, _, _ => by simp at h
  | _ :: _, [], _, _, _, _, h, _ => by simp at h
  | p :: P, w :: vs, 0, m, nd, h1, h2, hk => by
    simp at h1 h2; subst h1; subst h2
    show bindL kindOf ((p, w) :: P.zip vs) m p = _
    unfold bindL
    rw [bindL_out fun v hv => (List.nodup_cons.mp nd).1 (List.of_mem_zip hv).1, if_pos hk]
    simp
  | p :: P, w :: vs, i + 1, m, nd, h1, h2, hk => by
    show bindL kindOf ((p, w) :: P.zip vs) m x = _
    unfold bindL
    exact bindL_get (i := i) (List.nodup_cons.mp nd).2 (by simpa using h1) (by simpa using h2) hk
theorem bindC_get {kindOf : Str → Option NameKind} {x : Str} {v : Value} : ∀ {P : List Str} {vs : List Value} {i : Nat} {m : Str → Option Value}, P.Nodup → P[i]? = some x → vs[i]? = some v → kindOf x ≠ some .local →
    bindC kindOf (P.zip vs) m x = some v
  | [], _, _, _, _, h, _, _ => by simp at h
  | _ :: _, [], _, _, _, _, h, _ => by simp at h
  | p :: P, w :: vs, 0, m, nd, h1, h2, hk => by
    simp at h1 h2; subst h1; subst h2
    show bindC kindOf ((p, w) :: P.zip vs) m p = _
    unfold bindC
    rw [bindC_out fun v hv => (List.nodup_cons.mp nd).1 (List.of_mem_zip hv).1, if_neg hk]
    simp
  | p :: P, w :: vs, i + 1, m, nd, h1, h2, hk => by
    show bindC kindOf ((p, w) :: P.zip vs) m x = _
    unfold bindC
    exact bindC_get (i := i) (List.nodup_cons.mp nd).2 (by simpa using h1) (by simpa using h2) hk

/-- the names' values at the entry -/
def start (N : List Str) (vs : List V) : St := vs.map some ++ List.replicate (N.length - vs.length) none

/-- the context of a def's body, at its entry; an exception leaves the frame, then lies as CX says -/
def cxOf (CX : CXT) (P : Program) (w : World) (K : PySem.W.Frag) (mg : Str → Option Value) (base : Heap) (N : List Str) (qual : Str) (scope : Scope) (f : Addr) (cd : Value) (A : Around) (outer : List Env) (s : Shared) (H : Hp) (E : XK) : Cx where
  prog := P
  w := w
  K := K
  mg := mg
  base := base
  A := A.deeper (envOfC qual scope s.heap.objs.size f cd)
  N := N
  s₀ := s
  H₀ := H
  env := envOfC qual scope s.heap.objs.size f cd
  outer := outer
  stack := envOfC qual scope s.heap.objs.size f cd :: outer
  ex := []
  calm := true
  fn := fun _ => true
  pn := []
  xe := fun e s' => wpAny (model P w) (A.deeper (envOfC qual scope s.heap.objs.size f cd)) (leaving (envOfC qual scope s.heap.objs.size f cd) e) (fun _ s'' => CX outer H s E e s'') (fun e' s'' => CX outer H s E e' s'') s'

theorem cell_has {sc : Scope} {n : Nat} {x : Str} (h : sc.names.lookup x = some .cell) : ∃ c, (cellsFrom n sc.names []).lookup x = some c := by
  have q := PySem.W.cellsFrom_some sc.names n [] (.inl h)
  exact Option.isSome_iff_exists.mp q

theorem inv_start {CX : CXT} {P : Program} {w : World} {K : PySem.W.Frag} {mg : Str → Option Value} {base : Heap} {N ps : List Str} {qual : Str} {scope : Scope} {f : Addr} {cd : Value} {A : Around} {outer : List Env} {s s1 : Shared} {H : Hp} {E : XK} {us : List Value} {vs : List V}
    (S : FnScope N ps scope) (hd : A.handled = none) (e0 : Env0 P w K mg base A outer s H) (hl : vs.length = ps.length) (r : Vals vs us)
    (x : InCallC s s.heap.objs.size (bindL (envOfC qual scope s.heap.objs.size f cd).kindOf (ps.zip us) fun _ => none) (cellsFrom (s.heap.objs.size + 1) scope.names []) (bindC (envOfC qual scope s.heap.objs.size f cd).kindOf (ps.zip us) fun _ => none) s1) :
    Inv (cxOf CX P w K mg base N qual scope f cd A outer s H E) [] (start N vs) H s1 := by
  have hpl : ps.length ≤ N.length := by have := congrArg List.length S.pre; rw [List.length_take] at this; omega
  obtain ⟨h1, tk, rfl, hk⟩ := x.done
  have noA : ∀ b : Addr, b ∉ (cxOf CX P w K mg base N qual scope f cd A outer s H E).ex := fun b z => absurd (show b ∈ ([] : List Addr) from z) (by simp)
  refine ⟨⟨e0.mod, S.kind, rfl, rfl, Nat.le_refl _, fun y z c h1 h2 => ?_, fun y hy => ?_, fun y c _ h => ?_, fun _ => hd, Around.frames_deeper e0.frames, .inr ⟨rfl, rfl⟩, fun b z => absurd z (noA b), e0.bs, e0.bsz, fun b _ _ => noA b, fun b z => absurd z (noA b), e0.funs, e0.frf⟩,
    rfl, e0.bare, Un.kept hk, ⟨_, x.toInCall.ns, fun i y v h1 h2 h3 => ?_⟩, fun y c h => ⟨_, x.cell y c h⟩, e0.hok.fresh (Nat.le_refl _), fun y c h => ?_, fun p hp => absurd (show p ∈ ([] : List (Addr × Obj)) from hp) (by simp), e0.hok.kept hk, ?_⟩
  · exact name_of_addr x.apart (PySem.mem_of_lookup h1) (PySem.mem_of_lookup h2)
  · have hy : scope.names.lookup y = some .cell ∨ scope.names.lookup y = some .free := hy
    rcases hy with hy | hy
    · exact cell_has hy
    · exact absurd rfl (S.nofree _ (PySem.mem_of_lookup hy))
  · exact Nat.le_of_lt (x.above y c (PySem.mem_of_lookup h))
  · have hi : i < vs.length := by
      unfold start at h2
      by_cases hi : i < vs.length
      · exact hi
      · rw [List.getElem?_append_right (by simpa using hi)] at h2
        rw [List.getElem?_replicate] at h2
        split at h2 <;> cases h2
    have ha : vs[i]? = some v := by
      unfold start at h2
      rw [List.getElem?_append_left (by simpa using hi), List.getElem?_map] at h2
      cases e : vs[i]? with
      | none => rw [e] at h2; cases h2
      | some a => rw [e] at h2; cases h2; rfl
    obtain ⟨u, hu, rv⟩ := r.get ha
    have hp : ps[i]? = some y := by
      rw [← S.pre, List.getElem?_take_of_lt (by omega)]; exact h1
    have ndP : ps.Nodup := by rw [← S.pre]; exact S.nd.sublist (List.take_sublist _ _)
    refine ⟨u, rv, ?_⟩
    rcases S.par y (List.mem_of_getElem? hp) with k | k
    · exact .inl ⟨k, bindL_get ndP hp hu k⟩
    · obtain ⟨c, e⟩ := cell_has (n := s.heap.objs.size + 1) k
      refine .inr ⟨.inl k, c, e, ?_⟩
      have q := x.cell y c e
      rw [bindC_get ndP hp hu (by show scope.names.lookup y ≠ _; rw [k]; decide)] at q
      exact q
  · exact e0.hok.fresh (Nat.le_of_lt (x.above y c (PySem.mem_of_lookup h)))
  · unfold start
    show _ = N.length
    rw [List.length_append, List.length_map, List.length_replicate]
    omega

/-- THE RULE: a def (or a method) of the text, by its body. The body's reading t is chosen for each entry; it is run at the parameters' values -/
theorem fn_of {CX : CXT} {P : Program} {w : World} {K : PySem.W.Frag} {mg : Str → Option Value} {base : Heap} {k : Nat} {f : Addr} {name qual : Str} {params : Arguments} {body : List Stmt} {scope : Scope} {dV kV doc pm cdv ct oc : Value} {an od : Option Addr}
    {osl : Array (Option Value)} {N ps : List Str} {sp : Sp} (lk : K.lookup f = some ⟨oc, od, .func (PySem.W.fnOf name qual params body scope dV kV doc pm an cdv ct), osl⟩) (hcd : PySem.W.codeIn K cdv qual = true) (S : FnScope N ps scope)
    (len : ∀ vs H Q E, sp vs H Q E → vs.length = ps.length)
    (hbody : ∀ (A : Around) (outer : List Env) (s : Shared) (H : Hp) (vs : List V) (Q : VK) (E : XK), Room k (A.deeper (envOfC qual scope s.heap.objs.size f cdv)) → sp vs H Q E →
      ∃ t, PSs (cxOf CX P w K mg base N qual scope f cdv A outer s H E) body t ∧ t { nx := fun _ H' => Q .non H', rt := Q } (start N vs) H) :
    FnOk P w K mg base CX (k + 1) f (PySem.W.fnOf name qual params body scope dV kV doc pm an cdv ct) ps sp := by
  refine ⟨len, fun A outer s H args us vs Q E hr e0 hb r hsp => ?_⟩
  have hl := len _ _ _ _ hsp
  have KX : K.In s.heap := e0.mod.kin.keeps fun b o e => (e0.bs b o e).1
  have lim : s.heap.NoLimit := e0.mod.nolimit.keeps fun b o e => (e0.bs b o e).1
  have hkind : ∀ y ∈ ps.zip us, scope.names.lookup y.1 = some .local ∨ (scope.names.lookup y.1 = some .cell ∧ ((cellsFrom (s.heap.objs.size + 1) scope.names []).lookup y.1).isSome = true) := fun ⟨n, v⟩ hy => by
    rcases S.par n (List.of_mem_zip hy).1 with q | q
    · exact .inl q
    · exact .inr ⟨q, PySem.W.cellsFrom_some _ _ _ (.inl q)⟩
  refine codeAny_call_function hr.depth (KX _ _ lk) rfl S.co S.gen rfl (PySem.W.codeRec_of KX hcd) (hb _ _ _ _ ?_)
  refine wpAny_newFunctionEnv_cells S.kind hkind fun env he s1 x => ?_
  subst he
  refine ⟨lim.keeps x.toInCall.keep, codeAny_func ?_⟩
  obtain ⟨t, ht, hq⟩ := hbody A outer s H vs Q E (hr.deeper _) hsp
  have I : Inv (cxOf CX P w K mg base N qual scope f cdv A outer s H E) [] (start N vs) H s1 := inv_start S hr.hd e0 hl r x
  refine wpAny_mono (ht [] s1 (start N vs) H _ I hq) (fun fl s' hs => ?_) fun e s' hs => hs
  have fin : ∀ {σ' : St} {H' : Hp} {v : V} {u : Value}, Inv (cxOf CX P w K mg base N qual scope f cdv A outer s H E) [] σ' H' s' → RelV v u → Q v H' → CE outer P w H s Q u s' :=
    fun {σ' H' v u} J rv q => ⟨v, H', J.os, J.bare, J.base, J.hok, rv, q⟩
  cases fl with
  | ret u =>
    obtain ⟨v, σ', H', J, rv, q⟩ := hs
    exact fin J rv q
  | next =>
    obtain ⟨σ', H', J, q⟩ := hs
    exact fin (v := V.non) (u := Value.none) J rfl q
  | brk =>
    obtain ⟨_, _, _, q⟩ := hs
    exact False.elim q
  | cont =>
    obtain ⟨_, _, _, q⟩ := hs
    exact False.elim q
end L2

namespace L2
open PySem PySem.Spec PyProof.Rows
section
variable {X : Cx} {x : Str} {p pos : Pos} {e : Expr} {es : List Expr} {t : TA} {id T : String} {r : List V → Hp → VK → Prop}

def tCB (r : List V → Hp → VK → Prop) (t : TA) : TE := fun σ H Q => t σ H fun vs H1 => r vs H1 Q
/-- f(e, ..), f a built-in function -/
theorem pe_callB (hc : CallR X (.builtin id) r) (hg : Gl X x) (hm : X.mg x = none) (hv : bootBuiltins x = some (.builtin id)) (ha : PA X (e :: es) t) (hn : x ≠ "__name__" := by decide) (hdb : (x == ("__debug__" : Str)) = false := by decide)
    (he : starEach (e :: es) X.env = (false, eval e X.env) :: starEach es X.env := by rfl) (hpl : (backTo pos (starEach es X.env)).any (·.1) = false := by rfl) : PE X (.Call (.Name x p) (e :: es) [] pos) (tCB r t) := by
  refine ⟨?_⟩
  intro pins s σ H Q I h
  refine wpAny_Call_Name_kw (ld_blt I hg hm hv ?_ hn hdb)
  exact PyProof.Rows.callWith_builtin1 (thn (ha pos pins s σ H _ I h) fun us s1 ⟨vs, H1, I1, r1, q1⟩ => hc pins s1 σ H1 vs us Q I1 r1 q1) he hpl
/-- T(e, ..), T a built-in type -/
theorem pe_callTy (hc : CallR X (.type T) r) (hg : Gl X x) (hm : X.mg x = none) (hv : bootBuiltins x = some (.type T)) (ha : PA X (e :: es) t) (hn : x ≠ "__name__" := by decide) (hdb : (x == ("__debug__" : Str)) = false := by decide)
    (he : starEach (e :: es) X.env = (false, eval e X.env) :: starEach es X.env := by rfl) (hpl : (backTo pos (starEach es X.env)).any (·.1) = false := by rfl) : PE X (.Call (.Name x p) (e :: es) [] pos) (tCB r t) := by
  refine ⟨?_⟩
  intro pins s σ H Q I h
  refine wpAny_Call_Name_kw (ld_blt I hg hm hv ?_ hn hdb)
  exact PyProof.Rows.callWith_type1 (thn (ha pos pins s σ H _ I h) fun us s1 ⟨vs, H1, I1, r1, q1⟩ => hc pins s1 σ H1 vs us Q I1 r1 q1) he hpl
/-- T() -/
theorem pe_callTy0 (hc : CallR X (.type T) r) (hg : Gl X x) (hm : X.mg x = none) (hv : bootBuiltins x = some (.type T)) (hn : x ≠ "__name__" := by decide) (hdb : (x == ("__debug__" : Str)) = false := by decide) :
    PE X (.Call (.Name x p) [] [] pos) (tCB r tNil) := by
  refine ⟨?_⟩
  intro pins s σ H Q I h
  refine wpAny_Call_Name_kw (ld_blt I hg hm hv ?_ hn hdb)
  exact PyProof.Rows.callWith_type0 (hc pins s σ H [] [] Q I .nil h)
end
end L2

namespace HT
open PySem PyProof.Rows

section
open PySem.SeqAt
open PySem.AutoSeq1 (wpAny_loadPart')
open PySem.MeetsSeq PySem.MeetsSeq2 PySem.MeetsSeq3

end

section
variable {prog : Program} {w : World} {A : Around} {E : Value → Shared → Prop} {s : Shared}

/-! ### t[a:b], not the whole -/
/-- a slice's bound as a place among n (d where it is left out) -/
def sIx (n d : Nat) : Option Int → Nat
  | none => d
  | some v => if v < 0 then (v + (n : Int)).toNat else min v.toNat n
theorem sIx_none (n d : Nat) : sIx n d none = d := rfl
theorem sIx_nat (n d k : Nat) : sIx n d (some (k : Int)) = min k n := by
  show (if (k : Int) < 0 then ((k : Int) + (n : Int)).toNat else min (k : Int).toNat n) = min k n
  rw [if_neg (by omega), Int.toNat_natCast]
end
end HT

namespace L2
open PySem PySem.Spec PyProof.Rows

/-! ### the parts of a slice -/
abbrev TO := St → Hp → (Option Int → Hp → Prop) → Prop
/-- a slice's part (left out, or an int) -/
structure PO (X : Cx) (e : Option Expr) (t : TO) : Prop where
  run : ∀ (pins : List (Addr × Obj)) (s : Shared) (σ : St) (H : Hp) (Q : Option Int → Hp → Prop), Inv X pins σ H s → t σ H Q →
    wpAny (model X.prog X.w) X.A (evalPart e X.env) (fun u s' => ∃ o H', Inv X pins σ H' s' ∧ IsPart u o ∧ Q o H') X.xe s
instance {X : Cx} {e : Option Expr} {t : TO} : CoeFun (PO X e t) (fun _ => ∀ (pins : List (Addr × Obj)) (s : Shared) (σ : St) (H : Hp) (Q : Option Int → Hp → Prop), Inv X pins σ H s → t σ H Q →
    wpAny (model X.prog X.w) X.A (evalPart e X.env) (fun u s' => ∃ o H', Inv X pins σ H' s' ∧ IsPart u o ∧ Q o H') X.xe s) := ⟨PO.run⟩

def tNoPart : TO := fun _ H Q => Q none H
def tPart (t : TE) : TO := fun σ H Q => t σ H fun x H1 => ∃ i, x = .int i ∧ Q (some i) H1

section
variable {X : Cx} {e : Expr} {te : TE} {lo hi : Option Expr} {tl th : TO} {pos p2 : Pos}

theorem po_none : PO X none tNoPart := by
  refine ⟨?_⟩
  intro pins s σ H Q I h
  rw [evalPart_none]
  exact wpAny_pure ⟨none, H, I, .none, h⟩
theorem po_some (h : PE X e te) : PO X (some e) (tPart te) := by
  refine ⟨?_⟩
  intro pins s σ H Q I hw
  rw [evalPart_some]
  refine thn (h pins s σ H _ I hw) fun u s1 ⟨x, H1, I1, r1, q1⟩ => ?_
  obtain ⟨i, rfl, q⟩ := q1
  obtain ⟨t, rfl⟩ := r1
  exact ⟨some i, H1, I1, .int i t, q⟩

/-- what a slice of a value is, by values: the slice object stands at sl -/
def SlR (X : Cx) (r : V → Option Int → Option Int → Hp → VK → Prop) : Prop :=
  ∀ (pins : List (Addr × Obj)) (s : Shared) (σ : St) (H : Hp) (x : V) (v vl vu : Value) (lo hi : Option Int) (sl : Addr) (Q : VK), Inv X pins σ H s → RelV x v → s.heap.IsSliceOf sl vl vu .none → IsPart vl lo → IsPart vu hi → r x lo hi H Q →
    ∃ T id, typeLookup (.type T) "__getitem__" = pure (some (.builtin id)) ∧ s.TypeIs v T ∧ wpAny (model X.prog X.w) X.A (getItem v (.ref sl)) (EP X pins σ Q) X.xe s
def tSl (r : V → Option Int → Option Int → Hp → VK → Prop) (te : TE) (tl th : TO) : TE := fun σ H Q => te σ H fun x H1 => tl σ H1 fun l H2 => th σ H2 fun u H3 => r x l u H3 Q
/-- a[lo:hi], any a -/
theorem pe_slice {r : V → Option Int → Option Int → Hp → VK → Prop} (hr : SlR X r) (he : PE X e te) (hl : PO X lo tl) (hu : PO X hi th) : PE X (.Subscript e (.Slice lo hi none p2) pos) (tSl r te tl th) := by
  refine ⟨?_⟩
  intro pins s σ H Q I h
  refine Subscript_ (thn (he pins s σ H _ I h) fun v s1 ⟨x, H1, I1, r1, q1⟩ => ?_)
  refine wpAny_Slice (thn (hl pins s1 σ H1 _ I1 q1) fun vl s2 ⟨l, H2, I2, pl, q2⟩ => thn (hu pins s2 σ H2 _ I2 q2) fun vu s3 ⟨u, H3, I3, pu, q3⟩ => ?_)
  rw [evalPart_none]
  refine wpAny_pure ?_
  have I4 : Inv X pins σ H3 { s3 with heap := s3.heap.push { cls := .type "slice", data := .fields #[vl, vu, .none] } } := I3.kept (t' := s3.toks) fun b ob q => Heap.get?_push_of_some _ q
  obtain ⟨T, id, hT, ht, hg⟩ := hr pins { s3 with heap := s3.heap.push { cls := .type "slice", data := .fields #[vl, vu, .none] } } σ H3 x v vl vu l u s3.heap.objs.size Q I4 r1 (Heap.IsSliceOf.new ..) pl pu q3
  show wpAny (model X.prog X.w) X.A (subscriptTail e (.Slice lo hi none p2) v (.ref s3.heap.objs.size)) (EP X pins σ Q) X.xe { s3 with heap := s3.heap.push { cls := .type "slice", data := .fields #[vl, vu, .none] } }
  exact tail_any (ops := [.ref s3.heap.objs.size, v]) ht hT hg (by with_unfolding_all rfl)

/-- the items of xs[lo:hi] -/
def cutV (xs : List V) (lo hi : Option Int) : List V := (xs.drop (HT.sIx xs.length 0 lo)).take (HT.sIx xs.length xs.length hi - HT.sIx xs.length 0 lo)
theorem cutV_length (xs : List V) (lo hi : Option Int) : (cutV xs lo hi).length ≤ xs.length := by
  unfold cutV
  rw [List.length_take, List.length_drop]
  omega
/-! ### t < u, t + u -/
end
end L2

namespace L2
open PySem PySem.Spec PyProof.Rows

/-! ### places -/
/-- the place that an index of any sign means -/
def ixN (n : Nat) (i : Int) : Option Nat := if 0 ≤ i then (if i < n then some i.toNat else none) else if -(n : Int) ≤ i then some (i + n).toNat else none
def atI {α : Type} (xs : List α) (i : Int) : Option α := (ixN xs.length i).bind fun j => xs[j]?
theorem ixN_seq {n : Nat} {i : Int} {j : Nat} (h : ixN n i = some j) : seqIndex? i n = some j ∧ j < n ∧ -(n : Int) ≤ i ∧ i < n := by
  unfold ixN at h
  by_cases h0 : 0 ≤ i
  · rw [if_pos h0] at h
    by_cases h1 : i < n
    · rw [if_pos h1] at h
      have e : i.toNat = j := Option.some.inj h
      exact ⟨by rw [seqIndex_of h0 h1, e], by omega, by omega, h1⟩
    · rw [if_neg h1] at h; cases h
  · rw [if_neg h0] at h
    by_cases h1 : -(n : Int) ≤ i
    · rw [if_pos h1] at h
      have e : (i + n).toNat = j := Option.some.inj h
      exact ⟨by rw [seqIndex_neg (by omega) h1, e], by omega, h1, by omega⟩
    · rw [if_neg h1] at h; cases h
theorem atI_get {α : Type} {xs : List α} {i : Int} {v : α} (h : atI xs i = some v) : ∃ j, seqIndex? i xs.length = some j ∧ xs[j]? = some v ∧ j < xs.length ∧ -(xs.length : Int) ≤ i ∧ i < xs.length := by
  unfold atI at h
  cases e : ixN xs.length i with
  | none => rw [e] at h; cases h
  | some j =>
    rw [e] at h
    obtain ⟨h1, h2, h3, h4⟩ := ixN_seq e
    exact ⟨j, h1, h, h2, h3, h4⟩
theorem atI_nat {α : Type} {xs : List α} {j : Nat} {v : α} (h : xs[j]? = some v) : atI xs (j : Int) = some v := by
  have hj : j < xs.length := (List.getElem?_eq_some_iff.mp h).1
  have e : ixN xs.length (j : Int) = some j := by
    unfold ixN
    rw [if_pos (by omega), if_pos (by omega)]; simp
  unfold atI; rw [e]; exact h
/-! ### what may be subscripted -/
/-- what stands as an index of a plain subscript -/
def PlainIx (b : Expr) : Prop := ∀ o i, subscripted b false o i = operate [o, i] (getItem o i)
/-- a subscript by values -/
def IxR (X : Cx) (r : R2) : Prop :=
  ∀ (value slice : Expr) (pins : List (Addr × Obj)) (s : Shared) (σ : St) (H : Hp) (x y : V) (v u : Value) (Q : VK), Inv X pins σ H s → RelV x v → RelV y u → r x y H Q →
    subscripted slice false v u = operate [v, u] (getItem v u) → wpAny (model X.prog X.w) X.A (subscriptTail value slice v u) (EP X pins σ Q) X.xe s
/-- a call of a builtin's method by values: the receiver, the arguments -/
def MtR (X : Cx) (id : String) (r : V → List V → Hp → VK → Prop) : Prop :=
  ∀ (pins : List (Addr × Obj)) (s : Shared) (σ : St) (H : Hp) (x : V) (xs : List V) (v : Value) (us : List Value) (Q : VK), Inv X pins σ H s → RelV x v → Vals xs us → r x xs H Q →
    wpAny (model X.prog X.w) X.A (call (.builtin id) (v :: us)) (EP X pins σ Q) X.xe s
section
variable {X : Cx} {a b : Expr} {ta tb : TE} {pos : Pos}
/-- a[b] -/
theorem pe_ix {r : R2} (hr : IxR X r) (ha : PE X a ta) (hb : PE X b tb) (hs : PlainIx b) : PE X (.Subscript a b pos) (tOp r ta tb) := by
  refine ⟨?_⟩
  intro pins s σ H Q I h
  exact Subscript_ (binT ha hb I h fun v u s2 x y H2 I2 rx ry q => hr a b pins s2 σ H2 x y v u Q I2 rx ry q (hs _ _))

def rIxL (K : PySem.W.Frag) : R2 := fun x y H Q => ∃ p xs i v, x = .ref p ∧ y = .int i ∧ SqL K H p xs ∧ atI xs i = some v ∧ Q v H
def rIxT (K : PySem.W.Frag) : R2 := fun x y H Q => ∃ p xs i v, x = .ref p ∧ y = .int i ∧ SqT K H p xs ∧ atI xs i = some v ∧ Q v H
def rIxS : R2 := fun x y H Q => ∃ z i c, x = .str z ∧ y = .int i ∧ z.length ≤ sizeLine ∧ atI z.cps.toList i = some c ∧ Q (.str ⟨#[c]⟩) H
theorem ix_list : IxR X (rIxL X.K) := by
  intro value slice pins s σ H x y v u Q I rx ry h hs
  obtain ⟨p, xs, i, z, rfl, rfl, hq, he, q⟩ := h
  cases rx
  obtain ⟨t, rfl⟩ := ry
  obtain ⟨its, r, pl, hz⟩ := I.list hq
  obtain ⟨j, h1, h2, h3, h4, h5⟩ := atI_get he
  obtain ⟨w, ew, rw'⟩ := r.get h2
  have hl := r.length
  have hn := line63
  have fin : EP X pins σ Q w s := ⟨z, H, I, rw', q⟩
  by_cases h0 : 0 ≤ i
  · have hj : i.toNat = j := by
      rw [seqIndex_of h0 h5] at h1
      exact Option.some.inj h1
    exact item_listR pl.isList h0 (by omega) (by rw [hj]; simpa using ew) fin hs
  · have hj : (i + (its.toArray.size : Int)).toNat = j := by
      rw [seqIndex_neg (by omega) h4] at h1
      rw [List.size_toArray, ← hl]
      exact Option.some.inj h1
    exact subscriptTail_builtinR (x := w) pl.isList.typeIs slot_list_getitem.lookup
      (wpAny_getItem_list_neg (Q := fun r s' => r = w ∧ EP X pins σ Q r s') pl.isList (by omega) (by rw [List.size_toArray] <;> omega) (by omega) (by rw [hj]; simpa using ew) ⟨rfl, fin⟩) hs
theorem ix_tup : IxR X (rIxT X.K) := by
  intro value slice pins s σ H x y v u Q I rx ry h hs
  obtain ⟨p, xs, i, z, rfl, rfl, hq, he, q⟩ := h
  cases rx
  obtain ⟨t, rfl⟩ := ry
  obtain ⟨its, r, pl, hz⟩ := I.tuple hq
  obtain ⟨j, h1, h2, h3, h4, h5⟩ := atI_get he
  obtain ⟨w, ew, rw'⟩ := r.get h2
  have hl := r.length
  have hn := line63
  have fin : EP X pins σ Q w s := ⟨z, H, I, rw', q⟩
  exact subscriptTail_builtinR (x := w) pl.typeIs slot_tuple_getitem.lookup
    (getItem_tuple (j := j) (Q := fun r s' => r = w ∧ EP X pins σ Q r s') pl (by omega) (by omega) (by rw [List.size_toArray, ← hl]; exact h1) (by simpa using ew) ⟨rfl, fin⟩) hs
theorem ix_str : IxR X rIxS := by
  intro value slice pins s σ H x y v u Q I rx ry h hs
  obtain ⟨z, i, c, rfl, rfl, hz, he, q⟩ := h
  obtain ⟨t, rfl⟩ := rx
  obtain ⟨t', rfl⟩ := ry
  obtain ⟨j, h1, h2, h3, h4, h5⟩ := atI_get he
  have hl : z.cps.toList.length = z.length := by simp [Str.length]
  rw [hl] at h1 h4 h5
  have hn := line63
  exact tail_any (typeIs_str s z t) slot_str_getitem.lookup (getItem_str (c := c) (by
    have e1 : decide (i < -(2 ^ 63 : Int)) = false := decide_eq_false (by omega)
    have e2 : decide (i ≥ 2 ^ 63) = false := decide_eq_false (by omega)
    rw [e1, e2, Bool.or_false]) (by rw [h1]; simpa using h2) ⟨.str ⟨#[c]⟩, H, I.tok _, ⟨_, rfl⟩, q⟩) hs
/-! ### xs[i] = v, any sign -/
/-! ### slices -/
theorem slice_bounds (lo hi : Option Int) (n : Nat) : (sliceBounds lo hi none n).1 = ((HT.sIx n 0 lo : Nat) : Int) ∧ (sliceBounds lo hi none n).2.1 = ((HT.sIx n n hi : Nat) : Int) ∧ (sliceBounds lo hi none n).2.2 = 1 := by
  refine ⟨?_, ?_, rfl⟩
  · cases lo with
    | none => simp [sliceBounds, HT.sIx]
    | some i =>
      simp only [sliceBounds, HT.sIx, Option.getD_none, show (1 : Int) > 0 by decide, if_true]
      by_cases h : i < 0
      · simp only [h, if_true] <;> omega
      · simp only [h, if_false] <;> omega
  · cases hi with
    | none => simp [sliceBounds, HT.sIx]
    | some i =>
      simp only [sliceBounds, HT.sIx, Option.getD_none, show (1 : Int) > 0 by decide, if_true]
      by_cases h : i < 0
      · simp only [h, if_true] <;> omega
      · simp only [h, if_false] <;> omega
theorem slicePick_cut (its : List Value) (lo hi : Option Int) : slicePick its.toArray lo hi none = ((its.drop (HT.sIx its.length 0 lo)).take (HT.sIx its.length its.length hi - HT.sIx its.length 0 lo)).toArray := by
  obtain ⟨h1, h2, h3⟩ := slice_bounds lo hi its.toArray.size
  unfold slicePick
  rw [h1, h2, h3]
  simp only [sliceRange_one, pick_run, List.size_toArray] <;> rfl
/-- xs[lo:hi] of a list: a new list -/
def rSlL (K : PySem.W.Frag) : V → Option Int → Option Int → Hp → VK → Prop := fun x lo hi H Q => ∃ a xs, x = .ref a ∧ SqL K H a xs ∧ ∀ p, H p = none → Q (.ref p) (upd H p (.lst (cutV xs lo hi)))
theorem sl_list : SlR X (rSlL X.K) := by
  intro pins s σ H x v vl vu lo hi sl Q I rx hs pl pu h
  obtain ⟨a, xs, rfl, hx, q⟩ := h
  cases rx
  obtain ⟨its, r, ht, hz⟩ := I.list hx
  have hlen := r.length
  refine ⟨"list", _, slot_list_getitem.lookup, ht.isList.typeIs, ?_⟩
  refine wpAny_getItem_list_slice ht.isList hs pl pu .none (by simp) ?_ (by rw [List.size_toArray] <;> omega)
  rw [slicePick_cut, ← hlen]
  refine ⟨.ref s.heap.objs.size, _, I.laid (t' := s.toks) (o := .lst (cutV xs lo hi)) (fun b ob q => Heap.get?_push_of_some _ q) (Nat.le_refl _) ?_, rfl, q _ (I.hok.fresh (Nat.le_refl _))⟩
  exact ⟨Nat.le_trans (cutV_length xs lo hi) hz, _, 0, (r.drop (HT.sIx xs.length 0 lo)).take (HT.sIx xs.length xs.length hi - HT.sIx xs.length 0 lo), Heap.get?_push_size _ rfl⟩

/-! ### in, not in: flat items -/
def flatV : V → Bool
  | .non => true
  | .bl _ => true
  | .int _ => true
  | .str _ => true
  | _ => false
/-- == of flat values -/
def eqV : V → V → Bool
  | .non, .non => true
  | .bl a, .bl b => a == b
  | .bl a, .int b => (if a then 1 else 0) == b
  | .int a, .bl b => a == (if b then 1 else 0)
  | .int a, .int b => a == b
  | .str a, .str b => a == b
  | _, _ => false
theorem eqAt_V {A : Around} {s : Shared} {y x : V} {u v : Value} (ry : RelV y u) (rx : RelV x v) (fy : flatV y = true) (fx : flatV x = true) : SeqAt.EqAt A s u v (eqV y x) := by
  cases y with
  | non =>
    cases ry
    cases x with
    | non => cases rx; exact SeqAt.EqAt.same _
    | bl b => cases rx; exact SeqAt.EqAt.none_bool b
    | int b => obtain ⟨t, rfl⟩ := rx; exact SeqAt.EqAt.none_int b t
    | str b => obtain ⟨t, rfl⟩ := rx; exact SeqAt.EqAt.none_str b t
    | _ => exact absurd (show false = true from fx) Bool.false_ne_true
  | bl a =>
    cases ry
    cases x with
    | non => cases rx; exact SeqAt.EqAt.bool_none a
    | bl b => cases rx; exact SeqAt.EqAt.bool_bool a b
    | int b => obtain ⟨t, rfl⟩ := rx; exact SeqAt.EqAt.bool_int a b t
    | str b => obtain ⟨t, rfl⟩ := rx; exact SeqAt.EqAt.bool_str a b t
    | _ => exact absurd (show false = true from fx) Bool.false_ne_true
  | int a =>
    obtain ⟨t', rfl⟩ := ry
    cases x with
    | non => cases rx; exact SeqAt.EqAt.int_none a t'
    | bl b => cases rx; exact SeqAt.EqAt.int_bool a t' b
    | int b => obtain ⟨t, rfl⟩ := rx; exact SeqAt.EqAt.int_int a t' b t
    | str b => obtain ⟨t, rfl⟩ := rx; exact SeqAt.EqAt.int_str a t' b t
    | _ => exact absurd (show false = true from fx) Bool.false_ne_true
  | str a =>
    obtain ⟨t', rfl⟩ := ry
    cases x with
    | non => cases rx; exact SeqAt.EqAt.str_none a t'
    | bl b => cases rx; exact SeqAt.EqAt.str_bool a t' b
    | int b => obtain ⟨t, rfl⟩ := rx; exact SeqAt.EqAt.str_int a t' b t
    | str b => obtain ⟨t, rfl⟩ := rx; exact SeqAt.EqAt.str_str a t' b t
    | _ => exact absurd (show false = true from fx) Bool.false_ne_true
  | _ => exact absurd (show false = true from fy) Bool.false_ne_true
/-- the items' answers, read off the values (a value's own answer does not lean on its token) -/
def eqU (x : V) (u : Value) : Bool := match u with
  | .none => eqV .non x
  | .bool b => eqV (.bl b) x
  | .int i _ => eqV (.int i) x
  | .str z _ => eqV (.str z) x
  | _ => false
theorem eqU_of {x y : V} {u : Value} (r : RelV y u) (f : flatV y = true) : eqU x u = eqV y x := by
  cases y with
  | non => cases r; rfl
  | bl b => cases r; rfl
  | int i => obtain ⟨t, rfl⟩ := r; rfl
  | str z => obtain ⟨t, rfl⟩ := r; rfl
  | _ => exact absurd (show false = true from f) Bool.false_ne_true
theorem any_eqU {x : V} : ∀ {xs : List V} {us : List Value}, Vals xs us → xs.all flatV = true → us.any (eqU x) = xs.any fun y => eqV y x
  | _, _, .nil, _ => rfl
  | y :: xs, u :: us, .cons r t, f => by
    rw [List.all_cons, Bool.and_eq_true] at f
    rw [List.any_cons, List.any_cons, eqU_of r f.1, any_eqU t f.2]
theorem mem_eqAt {A : Around} {s : Shared} {x : V} {v : Value} (rx : RelV x v) (fx : flatV x = true) : ∀ {xs : List V} {us : List Value}, Vals xs us → xs.all flatV = true → ∀ u ∈ us, SeqAt.EqAt A s u v (eqU x u)
  | _, _, .nil, _ => fun u hu => by cases hu
  | y :: xs, u :: us, .cons r t, f => fun u' hu => by
    rw [List.all_cons, Bool.and_eq_true] at f
    rcases List.mem_cons.mp hu with rfl | hu
    · rw [eqU_of r f.1]; exact eqAt_V r rx f.1 fx
    · exact mem_eqAt rx fx t f.2 u' hu
def inV (x : V) (xs : List V) : Bool := xs.any fun y => eqV y x
/-- x in a list or tuple of flat items -/
def rIn (K : PySem.W.Frag) (neg : Bool) : R2 := fun x y H Q => ∃ p xs, y = .ref p ∧ (SqL K H p xs ∨ SqT K H p xs) ∧ flatV x = true ∧ xs.all flatV = true ∧ Q (.bl (if neg then !inV x xs else inV x xs)) H
theorem op_in_seq : OpR X (compareOp .In) (rIn X.K false) := by
  intro pins s σ H x y v u Q I rx ry h
  obtain ⟨p, xs, rfl, hq, fx, fs, q⟩ := h
  cases ry
  rcases hq with hq | hq
  · obtain ⟨its, r, pl, hz⟩ := I.list hq
    refine SeqAt.in_listAt (eqU x) pl.isList (fun w hw => mem_eqAt rx fx r fs w (by simpa using hw)) ⟨.bl _, H, I, rfl, ?_⟩
    rw [show its.toArray.any (eqU x) = its.any (eqU x) by simp, any_eqU r fs]
    exact q
  · obtain ⟨its, r, pl, hz⟩ := I.tuple hq
    refine SeqAt.in_tupleAt (eqU x) pl (fun w hw => mem_eqAt rx fx r fs w (by simpa using hw)) ⟨.bl _, H, I, rfl, ?_⟩
    rw [show its.toArray.any (eqU x) = its.any (eqU x) by simp, any_eqU r fs]
    exact q
theorem op_notIn_seq : OpR X (compareOp .NotIn) (rIn X.K true) := by
  intro pins s σ H x y v u Q I rx ry h
  obtain ⟨p, xs, rfl, hq, fx, fs, q⟩ := h
  cases ry
  rcases hq with hq | hq
  · obtain ⟨its, r, pl, hz⟩ := I.list hq
    refine SeqAt.notIn_listAt (eqU x) pl.isList (fun w hw => mem_eqAt rx fx r fs w (by simpa using hw)) ⟨.bl _, H, I, rfl, ?_⟩
    rw [show its.toArray.any (eqU x) = its.any (eqU x) by simp, any_eqU r fs]
    exact q
  · obtain ⟨its, r, pl, hz⟩ := I.tuple hq
    refine SeqAt.notIn_tupleAt (eqU x) pl (fun w hw => mem_eqAt rx fx r fs w (by simpa using hw)) ⟨.bl _, H, I, rfl, ?_⟩
    rw [show its.toArray.any (eqU x) = its.any (eqU x) by simp, any_eqU r fs]
    exact q
/-! ### len, list(x), tuple(x) of any list or tuple that is read -/
theorem call_len_seq : CallR X (.builtin "len") (fun xs H Q => ∃ p ys, xs = [.ref p] ∧ (SqL X.K H p ys ∨ SqT X.K H p ys) ∧ Q (.int ys.length) H) := by
  intro pins s σ H xs us Q I r h
  obtain ⟨p, ys, rfl, hq, q⟩ := h
  obtain ⟨u, rfl, rx⟩ := vals1 r
  cases rx
  have hn := line63
  rcases hq with hq | hq
  · obtain ⟨its, r', pl, hz⟩ := I.list hq
    have hlen := r'.length
    exact Calls.call_len_list pl.isList (by simp only [List.size_toArray] <;> omega) ⟨.int ys.length, H, I.tok _, ⟨s.toks + 1, by rw [List.size_toArray, hlen]⟩, q⟩
  · obtain ⟨its, r', pl, hz⟩ := I.tuple hq
    have hlen := r'.length
    exact len_tuple pl (by simp only [List.size_toArray] <;> omega) ⟨.int ys.length, H, I.tok _, ⟨s.toks + 1, by rw [List.size_toArray, hlen]⟩, q⟩
theorem call_len_str : CallR X (.builtin "len") (fun xs H Q => ∃ z, xs = [.str z] ∧ z.length ≤ sizeLine ∧ Q (.int z.length) H) := by
  intro pins s σ H xs us Q I r h
  obtain ⟨z, rfl, hz, q⟩ := h
  obtain ⟨u, rfl, t, rfl⟩ := vals1 r
  have hn := line63
  exact len_str (by omega) ⟨.int z.length, H, I.tok _, ⟨_, rfl⟩, q⟩
theorem call_list_of : CallR X (.type "list") (fun xs H Q => ∃ p ys, xs = [.ref p] ∧ (SqL X.K H p ys ∨ SqT X.K H p ys) ∧ ∀ l, H l = none → Q (.ref l) (upd H l (.lst ys))) := by
  intro pins s σ H xs us Q I r h
  obtain ⟨p, ys, rfl, hq, q⟩ := h
  obtain ⟨u, rfl, rx⟩ := vals1 r
  cases rx
  have fin : ∀ (its : List Value), Vals ys its → ys.length ≤ sizeLine → ∀ (h' : Heap) (c' : Nat), (∀ b o', s.heap.get? b = some o' → h'.get? b = some o') →
      h'.get? s.heap.objs.size = some { cls := .type "list", dict := none, data := .seq its.toArray c', slots := #[] } → EP X pins σ Q (.ref s.heap.objs.size) { s with heap := h' } := fun its r' hz h' c' kp e =>
    ⟨.ref s.heap.objs.size, _, I.laid (t' := s.toks) kp (Nat.le_refl _) (show ObjOk X.prog X.w _ h' _ (.lst ys) from ⟨hz, its, c', r', e⟩), rfl, q _ (I.hok.fresh (Nat.le_refl _))⟩
  rcases hq with hq | hq
  · obtain ⟨its, r', pl, hz⟩ := I.list hq
    have hlen := r'.length
    obtain ⟨o, ho, hc, n, hd⟩ := pl.isList
    exact call_list_seq p (.inl rfl) ho hc hd (fun h' c' kp e => fin its r' hz h' c' kp e) (by simp only [List.size_toArray] <;> omega)
  · obtain ⟨its, r', pl, hz⟩ := I.tuple hq
    have hlen := r'.length
    obtain ⟨o, ho, hc, n, hd⟩ := pl
    exact call_list_seq p (.inr rfl) ho hc hd (fun h' c' kp e => fin its r' hz h' c' kp e) (by simp only [List.size_toArray] <;> omega)
/-! ### the call of a builtin's method: o.m(..) -/
/-- the value is of that builtin type -/
def tyV (K : PySem.W.Frag) (T : String) (x : V) (H : Hp) : Prop := match x with
  | .str _ => T = "str"
  | .int _ => T = "int"
  | .ref p => (T = "list" ∧ ∃ xs, SqL K H p xs) ∨ (T = "tuple" ∧ ∃ o, K.lookup p = some o ∧ o.cls = .type "tuple" ∧ o.dict = none) ∨
      (T = "dict" ∧ ((∃ kvs, H p = some (.dK kvs)) ∨ ∃ kvs, H p = some (.dT kvs))) ∨ (T = "set" ∧ ∃ S n, H p = some (.set S n))
  | _ => False
theorem tyV_is {pins : List (Addr × Obj)} {σ : St} {H : Hp} {s : Shared} {T : String} {x : V} {v : Value} (I : Inv X pins σ H s) (r : RelV x v) (ty : tyV X.K T x H) :
    s.TypeIs v T ∧ ∀ a, v = .ref a → ∃ ob, s.heap.get? a = some ob ∧ ob.dict = none := by
  cases x with
  | str z =>
    obtain ⟨t, rfl⟩ := r
    cases (show T = "str" from ty)
    exact ⟨typeIs_str s z t, fun _ e => nomatch e⟩
  | int i =>
    obtain ⟨t, rfl⟩ := r
    cases (show T = "int" from ty)
    exact ⟨typeIs_int s i t, fun _ e => nomatch e⟩
  | ref p =>
    cases r
    rcases ty with ⟨rfl, xs, hq⟩ | ⟨rfl, o, hk, hc, hd⟩ | ⟨rfl, hk⟩ | ⟨rfl, S, n, hk⟩
    · obtain ⟨its, _, pl, _⟩ := I.list hq
      refine ⟨pl.isList.typeIs, fun a e => ?_⟩
      cases e
      obtain ⟨o, n, e, c, hd, _⟩ := pl
      exact ⟨o, e, hd⟩
    · refine ⟨⟨o, I.kIn p o hk, hc⟩, fun a e => ?_⟩
      cases e
      exact ⟨o, I.kIn _ o hk, hd⟩
    · have z : ∃ o, s.heap.get? p = some o ∧ o.ExactDict := by
        rcases hk with ⟨kvs, hk⟩ | ⟨kvs, hk⟩
        · obtain ⟨_, _, _, _, o, _, _, e, ex, _⟩ := I.hok p _ hk
          exact ⟨o, e, ex⟩
        · obtain ⟨_, _, _, _, o, _, _, e, ex, _⟩ := I.hok p _ hk
          exact ⟨o, e, ex⟩
      obtain ⟨o, e, ex⟩ := z
      refine ⟨⟨o, e, ex.1⟩, fun a e2 => ?_⟩
      cases e2
      exact ⟨o, e, ex.2.1⟩
    · obtain ⟨o, _, _, _, e, ex, _⟩ := I.hok p _ hk
      refine ⟨⟨o, e, ex.1⟩, fun a e2 => ?_⟩
      cases e2
      exact ⟨o, e, ex.2.1⟩
  | _ => exact False.elim ty
def tBM (K : PySem.W.Frag) (T : String) (r : V → List V → Hp → VK → Prop) (to : TE) (t : TA) : TE := fun σ H Q => to σ H fun x H1 => tyV K T x H1 ∧ t σ H1 fun xs H2 => r x xs H2 Q
variable {o e : Expr} {es : List Expr} {to : TE} {t : TA} {name : Str} {apos cpos : Pos} {T id : String} {r : V → List V → Hp → VK → Prop}
theorem pe_bm (pa : PlainAttrs T) (slot : Slot T name id) (hty : typeOf (.builtin id) = pure (.type "method_descriptor")) (hm : MtR X id r) (ho : PE X o to) (ha : PA X (e :: es) t)
    (hbase : attributeBase o name X.env (eval o X.env) = eval o X.env := by rfl)
    (hfew : ((backTo cpos (starEach (e :: es) X.env)).all (fun x => !x.1) && (backToKw cpos (keywordEach [] X.env)).all (fun x => x.1.isSome)
      && decide ((e :: es).length + ([] : List Keyword).length + (if ([] : List Keyword).isEmpty then 0 else 1) < 30)) = true := by rfl)
    (hline : (apos.endLine == cpos.line) = true := by rfl) (hs : starEach (e :: es) X.env = (false, eval e X.env) :: starEach es X.env := by rfl) (hplain : (backTo cpos (starEach es X.env)).any (·.1) = false := by rfl) :
    PE X (.Call (.Attribute o name apos) (e :: es) [] cpos) (tBM X.K T r to t) := by
  refine ⟨?_⟩
  intro pins s σ H Q I h
  refine wpAny_Call_method_late hbase hfew hline rfl (thn (ho pins s σ H _ I h) fun v s1 ⟨x, H1, I1, r1, ty, q1⟩ => ?_)
  obtain ⟨h1, h2⟩ := tyV_is I1 r1 ty
  refine ⟨T, id, pa, slot, hty, h1, h2, ?_⟩
  have hA := ha cpos pins s1 σ H1 _ I1 q1
  rw [hs] at hA ⊢
  refine Calls.callWith_builtin (by show (false || (backTo cpos (starEach es X.env)).any (·.1)) = false; rw [hplain] <;> rfl) (Calls.evalArgs_plain ?_)
  exact thn hA fun us s2 ⟨vs, H2, I2, r2, q2⟩ => hm pins s2 σ H2 x vs v us Q I2 r1 r2 q2
/- xs.append(e), list.index on a module's tuple .. are MtR facts of 06m -/
end
end L2

namespace L2
open PySem PySem.Spec PyProof.Rows

def MtM (X : Cx) (id : String) (r : V → List V → Hp → VK → Prop) : Prop :=
  ∀ (pins : List (Addr × Obj)) (s : Shared) (σ : St) (H : Hp) (x : V) (xs : List V) (v : Value) (us : List Value) (Q : VK), Inv X pins σ H s → RelV x v → Vals xs us → r x xs H Q →
    wpAny (model X.prog X.w) X.A (call (.builtin id) (v :: us)) (EP X pins σ Q) X.xe s

/-! ### lists of values -/
theorem Vals.one : ∀ {x : V} {us : List Value}, Vals [x] us → ∃ u, us = [u] ∧ RelV x u
  | _, _, .cons r .nil => ⟨_, rfl, r⟩
section
variable {X : Cx} {pins : List (Addr × Obj)} {σ : St} {H : Hp} {s : Shared} {l b : Addr} {xs ys zs : List V}

/-! ### the two steps: a tracked list is rewritten, a new list is laid -/
theorem Inv.lset {its its' : List Value} {n : Nat} {f : Array Value → Array Value} {t' : Nat} (I : Inv X pins σ H s) (hH : H l = some (.lst xs))
    (e : s.heap.get? l = some { cls := .type "list", data := .seq its.toArray n }) (hf : f its.toArray = its'.toArray) (hv : Vals ys its') (hz : ys.length ≤ sizeLine) :
    Inv X pins σ (upd H l (.lst ys)) { s with heap := s.heap.update l (Obj.mapSeq f), toks := t' } := by
  have q := PySem.IsL.update e f
  rw [hf] at q
  refine I.write (x := l) (e := l) (by rw [hH]; exact trivial) (.inl rfl) (fun b' u hb hu => (Heap.get?_update_other s.heap (Obj.mapSeq f) (Ne.symm hb)).trans hu) ⟨_, q⟩ ?_
  exact ⟨hz, its', _, hv, q⟩
theorem Inv.lnew {its : List Value} {t' : Nat} (I : Inv X pins σ H s) (hv : Vals ys its) (hz : ys.length ≤ sizeLine) :
    Inv X pins σ (upd H s.heap.objs.size (.lst ys)) { s with heap := s.heap.push { cls := .type "list", data := .seq its.toArray }, toks := t' } :=
  I.laid (fun _ _ q => Heap.get?_push_of_some _ q) (Nat.le_refl _) ⟨hz, its, 0, hv, Heap.get?_push_size _ rfl⟩
theorem Inv.fresh (I : Inv X pins σ H s) : H s.heap.objs.size = none := I.hok.fresh (Nat.le_refl _)
theorem Inv.lstM (I : Inv X pins σ H s) (hH : H l = some (.lst xs)) : xs.length ≤ sizeLine ∧ ∃ (its : List Value) (n : Nat), Vals xs its ∧ xs.length = its.length ∧ s.heap.get? l = some { cls := .type "list", data := .seq its.toArray n } := by
  obtain ⟨z, its, n, r, e⟩ := I.hok l _ hH
  exact ⟨z, its, n, r, r.length, e⟩

theorem notLongL {n : Nat} (h : n ≤ sizeLine) : Builtin.List.listTooLong n = false := by
  unfold Builtin.List.listTooLong
  exact decide_eq_false (by omega)
end

section
variable {X : Cx}

/-! ### methods -/
def rAppend : V → List V → Hp → VK → Prop := fun x vs H Q => ∃ l xs y, x = .ref l ∧ vs = [y] ∧ H l = some (.lst xs) ∧ xs.length < sizeLine ∧ Q .non (upd H l (.lst (xs ++ [y])))
theorem mt_append : MtM X "list.append" rAppend := by
  intro pins s σ H x vs v us Q I rx rv h
  obtain ⟨l, xs, y, rfl, rfl, hH, hz, q⟩ := h
  cases rx
  obtain ⟨u, rfl, ru⟩ := rv.one
  obtain ⟨z, its, n, r, hl, e⟩ := I.lstM hH
  refine call_meets F.slot_list_append ⟨_, e, rfl⟩ F.entry_list_append (F.args_list_append_2 _ _) (PySem.list_append l its.toArray n u (by rw [List.size_toArray]; omega)) ⟨e, ?_⟩
  refine ⟨.non, _, I.lset (its' := its ++ [u]) hH e (by simp) (r.append (.cons ru .nil)) ?_, rfl, q⟩
  rw [List.length_append, List.length_singleton]
  omega

def rExtend : V → List V → Hp → VK → Prop := fun x vs H Q => ∃ l b xs zs, x = .ref l ∧ vs = [.ref b] ∧ H l = some (.lst xs) ∧ H b = some (.lst zs) ∧ xs.length + zs.length ≤ sizeLine ∧ Q .non (upd H l (.lst (xs ++ zs)))
theorem mt_extend : MtM X "list.extend" rExtend := by
  intro pins s σ H x vs v us Q I rx rv h
  obtain ⟨l, b, xs, zs, rfl, rfl, hH, hB, hz, q⟩ := h
  cases rx
  obtain ⟨u, rfl, ru⟩ := rv.one
  cases ru
  obtain ⟨z, its, n, r, hl, e⟩ := I.lstM hH
  obtain ⟨z2, its2, n2, r2, hl2, e2⟩ := I.lstM hB
  have hsz : its.toArray.size + its2.toArray.size ≤ sizeLine := by rw [List.size_toArray, List.size_toArray]; omega
  have hlong : ¬ (!its.toArray.isEmpty && Builtin.List.listTooLong (its.toArray.size + its2.toArray.size)) = true := by
    rw [notLongL hsz, Bool.and_false]
    exact Bool.false_ne_true
  refine call_meets F.slot_list_extend ⟨_, e, rfl⟩ F.entry_list_extend (F.args_list_extend_2 _ _)
    (AutoSeq1.list_extend_list_list_0 l its.toArray n b its2.toArray n2 hlong (by rw [List.size_toArray]; omega) (by omega)) ⟨e, e2, ?_⟩
  refine ⟨.non, _, I.lset (its' := its ++ its2) hH e (by simp) (r.append r2) ?_, rfl, q⟩
  rw [List.length_append]
  omega

/-! ### list + list, list += list, list * int -/
def rCat : R2 := fun x y H Q => ∃ l b xs zs, x = .ref l ∧ y = .ref b ∧ H l = some (.lst xs) ∧ H b = some (.lst zs) ∧ xs.length + zs.length ≤ sizeLine ∧ ∀ p, H p = none → Q (.ref p) (upd H p (.lst (xs ++ zs)))
theorem op_cat : OpR X (binaryOp .Add) rCat := by
  intro pins s σ H x y v u Q I rx ry h
  obtain ⟨l, b, xs, zs, rfl, rfl, hH, hB, hz, q⟩ := h
  cases rx
  cases ry
  obtain ⟨z, its, n, r, hl, e⟩ := I.lstM hH
  obtain ⟨z2, its2, n2, r2, hl2, e2⟩ := I.lstM hB
  refine PySem.P.add_list e e2 ?_ (by rw [List.size_toArray, List.size_toArray]; omega)
  have ea : its.toArray ++ its2.toArray = (its ++ its2).toArray := by simp
  rw [ea]
  exact ⟨.ref _, _, I.lnew (t' := s.toks) (r.append r2) (by rw [List.length_append]; omega), rfl, q _ I.fresh⟩
/-! ### del xs[i] -/
end

/-! ### xs[a:b] = ys -/
section
variable {prog : Program} {w : World} {A : Around} {E : Value → Shared → Prop} {s : Shared}
set_option maxRecDepth 100000 in
end

section
variable {X : Cx}
end
end L2

namespace L2
open PySem PySem.Spec PyProof.Rows

/-! ### lists of pairs as tables -/
section
variable {κ : Type} [DecidableEq κ]
def valV (kvs : List (κ × V)) (k : κ) : Option V := (kvs.find? fun kv => decide (kv.1 = k)).map (·.2)
/-- in its place, or at the end -/
def putK (kvs : List (κ × V)) (k : κ) (v : V) : List (κ × V) :=
  if (kvs.any fun kv => decide (kv.1 = k)) = true then kvs.map (fun kv => if kv.1 = k then (kv.1, v) else kv) else kvs ++ [(k, v)]
theorem valV_pos {p : κ × V} {r : List (κ × V)} {k : κ} (e : p.1 = k) : valV (p :: r) k = some p.2 := by simp [valV, List.find?_cons, e]
theorem valV_neg {p : κ × V} {r : List (κ × V)} {k : κ} (e : ¬ p.1 = k) : valV (p :: r) k = valV r k := by simp [valV, List.find?_cons, e]
theorem valV_any (k : κ) : ∀ kvs : List (κ × V), (kvs.any fun kv => decide (kv.1 = k)) = (valV kvs k).isSome
  | [] => rfl
  | p :: r => by
    rw [List.any_cons]
    by_cases e : p.1 = k
    · simp only [valV_pos e, decide_eq_true e, Bool.true_or, Option.isSome_some]
    · rw [valV_neg e, decide_eq_false e, Bool.false_or]; exact valV_any k r
theorem valV_map (k j : κ) (y : V) : ∀ kvs : List (κ × V), valV (kvs.map fun kv => if kv.1 = k then (kv.1, y) else kv) j = (valV kvs j).map fun x => if j = k then y else x
  | [] => rfl
  | p :: r => by
    have ih := valV_map k j y r
    rw [List.map_cons]
    by_cases h : p.1 = k
    · rw [if_pos h]
      by_cases e : p.1 = j
      · rw [valV_pos (p := (p.1, y)) e, valV_pos e, Option.map_some, if_pos (e.symm.trans h)]
      · rw [valV_neg (p := (p.1, y)) e, valV_neg e, ih]
    · rw [if_neg h]
      by_cases e : p.1 = j
      · rw [valV_pos (p := p) e, valV_pos e, Option.map_some, if_neg (fun z => h (e.trans z))]
      · rw [valV_neg (p := p) e, valV_neg e, ih]
theorem valV_snoc (k j : κ) (y : V) : ∀ kvs : List (κ × V), valV kvs k = none → valV (kvs ++ [(k, y)]) j = if j = k then some y else valV kvs j
  | [], _ => by
    by_cases e : k = j
    · rw [if_pos e.symm]; exact valV_pos (p := (k, y)) e
    · rw [if_neg (fun z => e z.symm)]; exact valV_neg (p := (k, y)) e
  | p :: r, hn => by
    rw [List.cons_append]
    have hk : ¬ p.1 = k := fun z => by rw [valV_pos z] at hn; cases hn
    rw [valV_neg hk] at hn
    have ih := valV_snoc k j y r hn
    by_cases e : p.1 = j
    · rw [valV_pos e, valV_pos e, if_neg (fun z => hk (e.trans z))]
    · rw [valV_neg e, valV_neg e, ih]
theorem valV_put (kvs : List (κ × V)) (k j : κ) (y : V) : valV (putK kvs k y) j = if j = k then some y else valV kvs j := by
  unfold putK
  by_cases a : (kvs.any fun kv => decide (kv.1 = k)) = true
  · rw [if_pos a, valV_map]
    rw [valV_any] at a
    by_cases e : j = k
    · obtain ⟨x, hx⟩ := Option.isSome_iff_exists.mp a
      rw [if_pos e, e, hx, Option.map_some, if_pos rfl]
    · rw [if_neg e]
      cases valV kvs j with
      | none => rfl
      | some x => rw [Option.map_some, if_neg e]
  · rw [if_neg a]
    refine valV_snoc k j y kvs ?_
    rw [valV_any] at a
    cases q : valV kvs k with
    | none => rfl
    | some x => rw [q] at a; exact (a rfl).elim
theorem length_putK (kvs : List (κ × V)) (k : κ) (v : V) : (putK kvs k v).length ≤ kvs.length + 1 := by
  unfold putK
  split
  · rw [List.length_map]; omega
  · rw [List.length_append, List.length_cons, List.length_nil]; omega
theorem RelO.isSome_eq {o : Option V} {u : Option Value} (r : RelO o u) : o.isSome = u.isSome := by
  cases o with
  | none => cases u with
    | none => rfl
    | some _ => exact (show False from r).elim
  | some _ => cases u with
    | none => exact (show False from r).elim
    | some _ => rfl
theorem RelO.getD {o : Option V} {u : Option Value} {d : V} {d' : Value} (r : RelO o u) (rd : RelV d d') : RelV (o.getD d) (u.getD d') := by
  cases o with
  | none => cases u with
    | none => exact rd
    | some _ => exact (show False from r).elim
  | some _ => cases u with
    | none => exact (show False from r).elim
    | some _ => exact r

/-- raw tables of the same keys -/
theorem KV.val {kvs : List (κ × V)} {vs : List (κ × Value)} (r : KV kvs vs) (k : κ) : RelO (valV kvs k) (valueAt vs k) := by
  unfold KV at r
  induction r with
  | nil => exact True.intro
  | @cons p q ps qs h t ih =>
    obtain ⟨h1, h2⟩ := h
    by_cases e : p.1 = k
    · have e' : q.1 = k := h1.symm.trans e
      have b : valueAt (q :: qs) k = some q.2 := by simp [valueAt, List.find?_cons, e']
      rw [valV_pos e, b]; exact h2
    · have e' : ¬ q.1 = k := fun z => e (h1.trans z)
      have b : valueAt (q :: qs) k = valueAt qs k := by simp [valueAt, List.find?_cons, e']
      rw [valV_neg e, b]; exact ih
theorem KV.any {kvs : List (κ × V)} {vs : List (κ × Value)} (r : KV kvs vs) (k : κ) : (kvs.any fun kv => decide (kv.1 = k)) = vs.any fun kv => decide (kv.1 = k) := by
  unfold KV at r
  induction r with
  | nil => rfl
  | cons h t ih => rw [List.any_cons, List.any_cons, ih, h.1]
theorem KV.repl {kvs : List (κ × V)} {vs : List (κ × Value)} (r : KV kvs vs) (k : κ) {y : V} {u : Value} (ry : RelV y u) :
    KV (kvs.map fun kv => if kv.1 = k then (kv.1, y) else kv) (vs.map fun kv => if kv.1 = k then (kv.1, u) else kv) := by
  unfold KV at r ⊢
  induction r with
  | nil => exact .nil
  | @cons p q ps qs h t ih =>
    rw [List.map_cons, List.map_cons]
    refine .cons ?_ ih
    obtain ⟨h1, h2⟩ := h
    by_cases e : p.1 = k
    · rw [if_pos e, if_pos (h1.symm.trans e)]; exact ⟨h1, ry⟩
    · rw [if_neg e, if_neg (fun z => e (h1.trans z))]; exact ⟨h1, h2⟩
theorem KV.put {kvs : List (κ × V)} {vs : List (κ × Value)} (r : KV kvs vs) (k : κ) {y : V} {u : Value} (ry : RelV y u) : KV (putK kvs k y) (stored vs k u) := by
  unfold putK stored
  rw [r.any k]
  by_cases e : (vs.any fun kv => decide (kv.1 = k)) = true
  · rw [if_pos e, if_pos e]; exact r.repl k ry
  · rw [if_neg e, if_neg e]; exact Paired.snoc r ⟨rfl, ry⟩
theorem KV.length {kvs : List (κ × V)} {vs : List (κ × Value)} (r : KV kvs vs) : kvs.length = vs.length := Paired.length r
end


/-! ### a tracked dict, its keys ints and texts or tuples of these -/
theorem kV_is {P : Program} {w : World} {k : Key} {u : Value} (r : RelV (kV k) u) : (mixKind P w).is k u = true := by
  cases k with
  | inl i => obtain ⟨t, e⟩ := (show ∃ t, u = Value.int i t from r); subst e; exact mixKind_int P w i t
  | inr x => obtain ⟨t, e⟩ := (show ∃ t, u = Value.str x t from r); subst e; exact mixKind_str P w x t
theorem items_are {P : Program} {w : World} : ∀ {ks : List Key} {us : List Value}, Vals (ks.map kV) us → ItemsAre (mixKind P w) ks us
  | [], _, r => by rw [List.map_nil] at r; cases r; exact .nil
  | k :: ks, _, r => by
    rw [List.map_cons] at r
    cases r with
    | cons h t => exact .cons (kV_is h) (items_are t)

/-- raw entries of a dict with tuple keys -/
abbrev KT (H : Hp) : List (List Key × V) → List (List Key × Addr × Value) → Prop := Paired fun p q => p.1 = q.1 ∧ H q.2.1 = some (.tup (p.1.map kV)) ∧ RelV p.2 q.2.2
theorem KT.val {H : Hp} {kvs : List (List Key × V)} {xs : List (List Key × Addr × Value)} (r : KT H kvs xs) (k : List Key) : RelO (valV kvs k) ((atKey xs k).map (·.2)) := by
  induction r with
  | nil => exact True.intro
  | @cons p q ps qs h t ih =>
    obtain ⟨h1, _, h2⟩ := h
    by_cases e : p.1 = k
    · have e' : q.1 = k := h1.symm.trans e
      have b : atKey (q :: qs) k = some q.2 := by simp [atKey, List.find?_cons, e']
      rw [valV_pos e, b]; exact h2
    · have e' : ¬ q.1 = k := fun z => e (h1.trans z)
      have b : atKey (q :: qs) k = atKey qs k := by simp [atKey, List.find?_cons, e']
      rw [valV_neg e, b]; exact ih
theorem KT.repl {H : Hp} {kvs : List (List Key × V)} {xs : List (List Key × Addr × Value)} (r : KT H kvs xs) (k : List Key) {y : V} {u : Value} (ry : RelV y u) :
    KT H (kvs.map fun kv => if kv.1 = k then (kv.1, y) else kv) (xs.map (putAt k u)) := by
  induction r with
  | nil => exact .nil
  | @cons p q ps qs h t ih =>
    rw [List.map_cons, List.map_cons]
    refine .cons ?_ ih
    obtain ⟨h1, h2, h3⟩ := h
    unfold putAt
    by_cases e : p.1 = k
    · rw [if_pos e, if_pos (h1.symm.trans e)]; exact ⟨h1, h2, ry⟩
    · rw [if_neg e, if_neg (fun z => e (h1.trans z))]; exact ⟨h1, h2, h3⟩
theorem KT.put {H : Hp} {kvs : List (List Key × V)} {xs : List (List Key × Addr × Value)} (r : KT H kvs xs) (k : List Key) {b : Addr} {y : V} {u : Value} (hb : H b = some (.tup (k.map kV))) (ry : RelV y u) :
    KT H (putK kvs k y) (storedH xs k b u) := by
  have e : (kvs.any fun kv => decide (kv.1 = k)) = (atKey xs k).isSome := by
    rw [valV_any, (r.val k).isSome_eq, Option.isSome_map]
  unfold putK storedH
  rw [e]
  by_cases q : (atKey xs k).isSome = true
  · rw [if_pos q, if_pos q]; exact r.repl k ry
  · rw [if_neg q, if_neg q]; exact Paired.snoc r ⟨rfl, hb, ry⟩
theorem KT.keeps {H H' : Hp} {kvs : List (List Key × V)} {xs : List (List Key × Addr × Value)} (r : KT H kvs xs) (ht : ∀ b ys, H b = some (.tup ys) → H' b = some (.tup ys)) : KT H' kvs xs :=
  Paired.mapP r fun _ _ z => ⟨z.1, ht _ _ z.2.1, z.2.2⟩

section
variable {P : Program} {w : World} {H : Hp} {h : Heap} {a : Addr}
theorem rd_of {u : HO} (ok : HOk P w H h) (e : Rd H a u) : ObjOk P w H h a u := e.ok ok
theorem dk_rd {kvs : List (Key × V)} (ok : HOk P w H h) (e : Rd H a (.dK kvs)) : kvs.length ≤ sizeLine ∧ (a == sysModules) = false ∧ ∃ vs, KV kvs vs ∧ h.DictOf (mixKind P w) a vs :=
  show ObjOk P w H h a (.dK kvs) from rd_of ok e
theorem dk_of {kvs : List (Key × V)} (ok : HOk P w H h) (e : H a = some (.dK kvs)) : kvs.length ≤ sizeLine ∧ (a == sysModules) = false ∧ ∃ vs, KV kvs vs ∧ h.DictOf (mixKind P w) a vs := dk_rd ok (.inl e)
/-- a tracked tuple of ints and texts is a key -/
theorem key_of {ks : List Key} (ok : HOk P w H h) (e : H a = some (.tup (ks.map kV))) : (tupleKind (mixKind P w)).is h ks a := by
  obtain ⟨_, its, r, o, h1, h2, n, h3⟩ := (show ObjOk P w H h a (.tup (ks.map kV)) from ok a _ e)
  exact ⟨o, its.toArray, n, h1, h2, h3, by simpa using items_are r⟩
theorem dt_rd {kvs : List (List Key × V)} (ok : HOk P w H h) (e : Rd H a (.dT kvs)) : kvs.length ≤ sizeLine ∧ (a == sysModules) = false ∧
    ∃ xs, KT H kvs xs ∧ h.DictOfH (tupleKind (mixKind P w)) a xs := by
  obtain ⟨z, y, xs, r, o, es, ep, h1, h2, h3, h4, h5⟩ := (show ObjOk P w H h a (.dT kvs) from rd_of ok e)
  refine ⟨z, y, xs, r, o, es, ep, h1, h2, h3, h4, fun x hx => ?_, h5⟩
  have all : ∀ {l : List (List Key × V)} {m : List (List Key × Addr × Value)}, KT H l m → ∀ x ∈ m, (tupleKind (mixKind P w)).is h x.1 x.2.1 := by
    intro l m q
    induction q with
    | nil => intro x hx; exact nomatch hx
    | @cons p q ps qs hq t ih =>
      intro x hx
      rcases List.mem_cons.mp hx with e | hx
      · subst e
        exact key_of ok (by rw [← hq.1]; exact hq.2.1)
      · exact ih x hx
  exact all r x hx
theorem dt_of {kvs : List (List Key × V)} (ok : HOk P w H h) (e : H a = some (.dT kvs)) : kvs.length ≤ sizeLine ∧ (a == sysModules) = false ∧
    ∃ xs, KT H kvs xs ∧ h.DictOfH (tupleKind (mixKind P w)) a xs := dt_rd ok (.inl e)
end

/-- what the dict at a holds at the key y -/
def DGet (H : Hp) (a : Addr) (y : V) (r : Option V) : Prop :=
  (∃ kvs k, Rd H a (.dK kvs) ∧ y = kV k ∧ r = valV kvs k) ∨ ∃ kvs k b, Rd H a (.dT kvs) ∧ y = .ref b ∧ H b = some (.tup (k.map kV)) ∧ r = valV kvs k
/-- the heap behind a[y] = v -/
def DPut (H : Hp) (a : Addr) (y v : V) (H' : Hp) : Prop :=
  (∃ kvs k, H a = some (.dK kvs) ∧ y = kV k ∧ kvs.length < sizeLine ∧ H' = upd H a (.dK (putK kvs k v))) ∨
  ∃ kvs k b, H a = some (.dT kvs) ∧ y = .ref b ∧ H b = some (.tup (k.map kV)) ∧ kvs.length < sizeLine ∧ H' = upd H a (.dT (putK kvs k v))
section
variable {X : Cx} {pins : List (Addr × Obj)} {σ : St} {H : Hp} {s : Shared} {a : Addr} {y v : V} {u r : Value} {o : Option V} {A : Around} {E : Value → Shared → Prop}

theorem Inv.big (I : Inv X pins σ H s) : sysModules < s.heap.objs.size := by
  have h : mainGlobals < s.heap.objs.size := (I.mod.glob.keeps I.bk).lt
  exact Nat.lt_trans (by decide) h

/-- d[y], there -/
theorem d_getItem {Q : Value → Shared → Prop} (hu : A.units + 1 < cLine) (I : Inv X pins σ H s) (g : DGet H a y (some v)) (ry : RelV y u) (h : ∀ w' s', Inv X pins σ H s' → RelV v w' → Q w' s') :
    wpAny (model X.prog X.w) A (getItem (.ref a) u) Q E s := by
  rcases g with ⟨kvs, k, e, ey, l⟩ | ⟨kvs, k, b, e, ey, eb, l⟩
  · subst ey
    obtain ⟨z, hd, vs, rel, dd⟩ := dk_rd I.hok e
    obtain ⟨w', hw, rw'⟩ := RelO.some_of (v := v) (o := valueAt vs k) (by rw [l]; exact rel.val k)
    exact wpAny_getItem_of (kV_is ry) dd.mapOf hw (h w' _ (I.tok _) rw')
  · subst ey
    cases (show u = Value.ref b from ry)
    obtain ⟨z, hd, xs, rel, dd⟩ := dt_rd I.hok e
    obtain ⟨w', hw, rw'⟩ := RelO.some_of (v := v) (o := (atKey xs k).map (·.2)) (by rw [l]; exact rel.val k)
    obtain ⟨p, hp, hp2⟩ := Option.map_eq_some_iff.mp hw
    refine wpAny_getItem_heap (tupleKind_room_in1 hu) (key_of I.hok eb) dd hp ?_
    rw [hp2]
    exact h w' _ (I.tok _) rw'
/-- y in d -/
theorem d_in {Q : Value → Shared → Prop} (hu : A.units + 1 < cLine) (I : Inv X pins σ H s) (g : DGet H a y o) (ry : RelV y u) (h : ∀ s', Inv X pins σ H s' → Q (.bool o.isSome) s') :
    wpAny (model X.prog X.w) A (compareOp .In u (.ref a)) Q E s := by
  rcases g with ⟨kvs, k, e, ey, l⟩ | ⟨kvs, k, b, e, ey, eb, l⟩
  · subst ey
    obtain ⟨z, hd, vs, rel, dd⟩ := dk_rd I.hok e
    refine wpAny_in_of (kV_is ry) hd dd.mapOf ?_
    rw [← (rel.val k).isSome_eq, ← l]
    exact h _ (I.tok _)
  · subst ey
    cases (show u = Value.ref b from ry)
    obtain ⟨z, hd, xs, rel, dd⟩ := dt_rd I.hok e
    refine wpAny_in_heap (tupleKind_room_in1 hu) (key_of I.hok eb) hd dd ?_
    have q := (rel.val k).isSome_eq
    rw [Option.isSome_map] at q
    rw [← q, ← l]
    exact h _ (I.tok _)
theorem d_notIn {Q : Value → Shared → Prop} (hu : A.units + 1 < cLine) (I : Inv X pins σ H s) (g : DGet H a y o) (ry : RelV y u) (h : ∀ s', Inv X pins σ H s' → Q (.bool (!o.isSome)) s') :
    wpAny (model X.prog X.w) A (compareOp .NotIn u (.ref a)) Q E s := by
  rcases g with ⟨kvs, k, e, ey, l⟩ | ⟨kvs, k, b, e, ey, eb, l⟩
  · subst ey
    obtain ⟨z, hd, vs, rel, dd⟩ := dk_rd I.hok e
    refine wpAny_notIn_of (kV_is ry) hd dd.mapOf ?_
    rw [← (rel.val k).isSome_eq, ← l]
    exact h _ (I.tok _)
  · subst ey
    cases (show u = Value.ref b from ry)
    obtain ⟨z, hd, xs, rel, dd⟩ := dt_rd I.hok e
    refine wpAny_notIn_heap (tupleKind_room_in1 hu) (key_of I.hok eb) hd dd ?_
    have q := (rel.val k).isSome_eq
    rw [Option.isSome_map] at q
    rw [← q, ← l]
    exact h _ (I.tok _)
/-- a dict's object is replaced -/
theorem d_write {h' : Heap} {t' : Nat} {ob : HO} (I : Inv X pins σ H s) (mu : Mut (H a)) (hs : Heap.SameBut a s.heap h') (he : ∃ q, h'.get? a = some q) (new : ObjOk X.prog X.w (upd H a ob) h' a ob) :
    Inv X pins σ (upd H a ob) { s with heap := h', toks := t' } :=
  I.write (x := a) (e := a) mu (.inl rfl) (fun b q hb z => (hs.2 b hb).trans z) he new
theorem dk_new {P : Program} {w : World} {H' : Hp} {h' : Heap} {kvs : List (Key × V)} {vs : List (Key × Value)} (z : kvs.length ≤ sizeLine) (hd : (a == sysModules) = false) (rel : KV kvs vs) (dd : h'.DictOf (mixKind P w) a vs) :
    ObjOk P w H' h' a (.dK kvs) := ⟨z, hd, vs, rel, dd⟩
/-- d[y] = v -/
theorem d_setItem {H' : Hp} {Q : Unit → Shared → Prop} (hu : A.units + 1 < cLine) (I : Inv X pins σ H s) (g : DPut H a y v H') (ry : RelV y u) (rv : RelV v r) (h : ∀ s', Inv X pins σ H' s' → Q () s') :
    wpAny (model X.prog X.w) A (setItem (.ref a) u r) Q E s := by
  rcases g with ⟨kvs, k, e, ey, l, eH⟩ | ⟨kvs, k, b, e, ey, eb, l, eH⟩
  · subst ey eH
    obtain ⟨z, hd, vs, rel, dd⟩ := dk_of I.hok e
    have hz : vs.length ≤ sizeLine := by rw [← rel.length]; exact z
    have hl : (putK kvs k v).length ≤ sizeLine := by have := length_putK kvs k v; omega
    refine wpAny_setItem_pairs (hsz := hz) (kV_is ry) dd fun h' dd' hs => h _ ?_
    have he : ∃ q, h'.get? a = some q := let ⟨q, _, _, hq, _⟩ := dd'; ⟨q, hq⟩
    exact d_write I (by rw [e]; exact True.intro) hs he (dk_new hl hd (rel.put k rv) dd')
  · subst ey eH
    cases (show u = Value.ref b from ry)
    obtain ⟨z, hd, xs, rel, dd⟩ := dt_of I.hok e
    have hz : xs.length ≤ sizeLine := by rw [← Paired.length rel]; exact z
    have hl : (putK kvs k v).length ≤ sizeLine := by have := length_putK kvs k v; omega
    refine wpAny_setItem_heap (hsz := hz) (tupleKind_room_in1 hu) (key_of I.hok eb) dd fun h' dd' hs => h _ ?_
    obtain ⟨q, es, ep, hq, h2, h3, h4, _, h5⟩ := dd'
    refine d_write I (by rw [e]; exact True.intro) hs ⟨q, hq⟩ ⟨hl, hd, _, (rel.put k eb rv).keeps fun c ys ec => ?_, q, es, ep, hq, h2, h3, h4, h5⟩
    rw [upd_ne (ne_of ec e (fun z => nomatch z))]
    exact ec
end

section
variable {X : Cx} {pins : List (Addr × Obj)} {σ : St} {H : Hp} {s : Shared} {a : Addr} {kvs : List (Key × V)} {k : Key} {u : Value} {A : Around} {E : Value → Shared → Prop}
end


/-! ### readings and rules -/
/-- the element of a subscription, not a slice -/
def NoSl (i : Expr) : Prop := ∀ ov iv, subscripted i false ov iv = operate [ov, iv] (getItem ov iv)
theorem subD_of {prog : Program} {w : World} {A : Around} {E : Value → Shared → Prop} {s : Shared} {env : Env} {value slice : Expr} {pos : Pos} {T id : String} {Q : Value → Shared → Prop}
    (hl : typeLookup (.type T) "__getitem__" = pure (some (.builtin id))) (hs : NoSl slice)
    (h : wpAny (model prog w) A (eval value env) (fun o s₁ => wpAny (model prog w) A (eval slice env) (fun i s₂ => s₂.TypeIs o T ∧ wpAny (model prog w) A (getItem o i) Q E s₂) E s₁) E s) :
    wpAny (model prog w) A (eval (.Subscript value slice pos) env) Q E s := by
  refine Subscript_ (wpAny_mono h (fun o s₁ h₁ => wpAny_mono h₁ (fun i s₂ h₂ => ?_) fun _ _ x => x) fun _ _ x => x)
  obtain ⟨hT, h₂⟩ := h₂
  unfold subscriptTail
  refine wpAny_bind ?_
  rw [getitemInPython_of_ne hT.not_modules]
  refine wpAny_bind (wpAny_specialOf hT hl ?_)
  have fin : wpAny (model prog w) A (subscripted slice false o i) (fun r s₃ => wpAny (model prog w) A (letTemporaryGo value o r >>= fun _ => pure r) Q E s₃) E s₂ := by
    rw [hs o i]
    exact wpAny_operating (wpAny_mono h₂ (fun r s₃ h₃ => wpAny_bind (wpAny_letTemporaryGo (wpAny_pure h₃))) fun _ _ x => x)
  first
    | exact wpAny_pure (wpAny_bind fin)
    | exact wpAny_bind (wpAny_pure (wpAny_bind fin))
    | exact wpAny_bind fin

theorem dict_typeIs {X : Cx} {pins : List (Addr × Obj)} {σ : St} {H : Hp} {s : Shared} {a : Addr} {y : V} {o : Option V} (I : Inv X pins σ H s) (g : DGet H a y o) : s.TypeIs (.ref a) "dict" := by
  rcases g with ⟨kvs, k, e, _, _⟩ | ⟨kvs, k, b, e, _, _, _⟩
  · obtain ⟨_, _, vs, _, dd⟩ := dk_rd I.hok e
    exact dd.typeIs
  · obtain ⟨_, _, xs, _, dd⟩ := dt_rd I.hok e
    exact dd.typeIs
/-- d[y] -/
def tDGet (td ty : TE) : TE := fun σ H Q => td σ H fun x H1 => ty σ H1 fun y H2 => ∃ a v, x = .ref a ∧ DGet H2 a y (some v) ∧ Q v H2
/-- y in d, y not in d -/
def tDIn (ty td : TE) : TE := fun σ H Q => ty σ H fun y H1 => td σ H1 fun x H2 => ∃ a o, x = .ref a ∧ DGet H2 a y o ∧ Q (.bl o.isSome) H2
def tDNotIn (ty td : TE) : TE := fun σ H Q => ty σ H fun y H1 => td σ H1 fun x H2 => ∃ a o, x = .ref a ∧ DGet H2 a y o ∧ Q (.bl (!o.isSome)) H2
/-- d[y] = v -/
def sDPut (td ty tv : TE) : TS := fun D σ H => tv σ H fun v H1 => td σ H1 fun x H2 => ty σ H2 fun y H3 => ∃ a H4, x = .ref a ∧ DPut H3 a y v H4 ∧ D.nx σ H4
section
variable {X : Cx} {o i e value : Expr} {pos pos' tpos : Pos} {td ty tv : TE}
theorem pe_dget (hu : X.A.units + 1 < cLine) (ho : PE X o td) (hi : PE X i ty) (hs : NoSl i) : PE X (.Subscript o i pos) (tDGet td ty) := by
  refine ⟨?_⟩
  intro pins s σ H Q I h
  refine subD_of PySem.F.slot_dict_getitem.lookup hs (thn (ho pins s σ H _ I h) fun u s1 ⟨x, H1, I1, rx, q1⟩ => thn (hi pins s1 σ H1 _ I1 q1) fun iv s2 ⟨y, H2, I2, ry, a, v, ex, g, q2⟩ => ?_)
  subst ex
  obtain rfl : u = Value.ref a := rx
  exact ⟨dict_typeIs I2 g, d_getItem hu I2 g ry fun w' s3 I3 rw' => ⟨v, H2, I3, rw', q2⟩⟩
theorem pc_din (hu : X.A.units + 1 < cLine) (hi : PE X i ty) (ho : PE X o td) : PC X .In i o (tDIn ty td) := by
  refine ⟨?_⟩
  intro pins s σ H Q I h
  refine thn (hi pins s σ H _ I h) fun iv s1 ⟨y, H1, I1, ry, q1⟩ => thn (ho pins s1 σ H1 _ I1 q1) fun u s2 ⟨x, H2, I2, rx, a, ov, ex, g, q2⟩ => ?_
  subst ex
  obtain rfl : u = Value.ref a := rx
  exact d_in hu I2 g ry fun s3 I3 => ⟨.bl ov.isSome, H2, I3, rfl, q2⟩
theorem pc_dnotin (hu : X.A.units + 1 < cLine) (hi : PE X i ty) (ho : PE X o td) : PC X .NotIn i o (tDNotIn ty td) := by
  refine ⟨?_⟩
  intro pins s σ H Q I h
  refine thn (hi pins s σ H _ I h) fun iv s1 ⟨y, H1, I1, ry, q1⟩ => thn (ho pins s1 σ H1 _ I1 q1) fun u s2 ⟨x, H2, I2, rx, a, ov, ex, g, q2⟩ => ?_
  subst ex
  obtain rfl : u = Value.ref a := rx
  exact d_notIn hu I2 g ry fun s3 I3 => ⟨.bl (!ov.isSome), H2, I3, rfl, q2⟩
theorem ps_dput (hu : X.A.units + 1 < cLine) (ho : PE X o td) (hi : PE X i ty) (hv : PE X value tv) (hs : swapsWith value (some (.Subscript o i pos')) pos.line X.env = pure false) :
    PS X (.Assign [.Subscript o i pos'] value pos) (sDPut td ty tv) := by
  refine ⟨?_⟩
  intro pins s σ H D I h
  refine wpAny_Assign_Subscript (thn (hv pins s σ H _ I h) fun r s1 ⟨v, H1, I1, rv, q1⟩ => thn (ho pins s1 σ H1 _ I1 q1) fun u s2 ⟨x, H2, I2, rx, q2⟩ => thn (hi pins s2 σ H2 _ I2 q2) fun iv s3 ⟨y, H3, I3, ry, a, H4, ex, g, q3⟩ => ?_) hs
  subst ex
  obtain rfl : u = Value.ref a := rx
  exact d_setItem hu I3 g ry rv fun s4 I4 => ⟨σ, H4, I4, q3⟩
end


/-! ### displays -/
theorem dk_empty {P : Program} {w : World} {H : Hp} (h : Heap) (hb : sysModules < h.objs.size) : ObjOk P w H (h.push { cls := .type "dict", data := .dict #[] }) h.objs.size (.dK []) :=
  ⟨Nat.zero_le _, beq_eq_false_iff_ne.mpr (Ne.symm (Nat.ne_of_lt hb)), [], .nil, Heap.DictOf.new h⟩
/-- {}, to be a dict of the kind that is wanted -/
def tDNewK : TE := fun _ H Q => ∀ p, H p = none → Q (.ref p) (upd H p (.dK []))
section
variable {X : Cx} {pos : Pos}
theorem pe_dnewK : PE X (.Dict [] [] pos) tDNewK := ⟨fun pins s σ H Q I h =>
  wpAny_Dict_empty ⟨.ref s.heap.objs.size, _, I.laid (a := s.heap.objs.size) (o := .dK []) (t' := s.toks) (fun _ _ q => Heap.get?_push_of_some _ q) (Nat.le_refl _) (dk_empty s.heap I.big), rfl, h _ (I.hok.fresh (Nat.le_refl _))⟩⟩
end

/-- the pairs of a display, from the left -/
def tPairs : List (TE × TE) → St → Hp → (List (V × V) → Hp → Prop) → Prop
  | [], _, H, Q => Q [] H
  | (tk, tv) :: r, σ, H, Q => tk σ H fun x H1 => tv σ H1 fun y H2 => tPairs r σ H2 fun ps H3 => Q ((x, y) :: ps) H3
/-! ### methods -/
/-- a method call o.m(e) of a built-in, with one argument: what must be seen of the text -/
structure M1 (X : Cx) (o : Expr) (m : Str) (apos : Pos) (e : Expr) (cpos : Pos) : Prop where
  base : attributeBase o m X.env (eval o X.env) = eval o X.env
  few : ((backTo cpos (starEach [e] X.env)).all (fun x => !x.1) && (backToKw cpos (keywordEach [] X.env)).all (fun x => x.1.isSome)
    && decide (([e] : List Expr).length + ([] : List Keyword).length + (if ([] : List Keyword).isEmpty then 0 else 1) < 30)) = true
  line : (apos.endLine == cpos.line) = true
  trees : backTo cpos (starEach [e] X.env) = [(false, eval e X.env)]
/-- a is a dict, whatever its keys -/
def IsD (H : Hp) (a : Addr) : Prop := (∃ kvs, Rd H a (.dK kvs)) ∨ ∃ kvs, Rd H a (.dT kvs)
theorem isD_at {X : Cx} {pins : List (Addr × Obj)} {σ : St} {H : Hp} {s : Shared} {a : Addr} (I : Inv X pins σ H s) (d : IsD H a) :
    s.TypeIs (.ref a) "dict" ∧ (∀ b, Value.ref a = .ref b → ∃ ob, s.heap.get? b = some ob ∧ ob.dict = none) ∧ (a == sysModules) = false := by
  rcases d with ⟨kvs, e⟩ | ⟨kvs, e⟩
  · obtain ⟨_, hd, vs, _, dd⟩ := dk_rd I.hok e
    refine ⟨dd.typeIs, fun b q => ?_, hd⟩
    cases q
    obtain ⟨ob, _, _, h1, h2, _⟩ := dd
    exact ⟨ob, h1, h2.2.1⟩
  · obtain ⟨_, hd, xs, _, dd⟩ := dt_rd I.hok e
    refine ⟨dd.typeIs, fun b q => ?_, hd⟩
    cases q
    obtain ⟨ob, _, _, h1, h2, _⟩ := dd
    exact ⟨ob, h1, h2.2.1⟩

section
variable {X : Cx} {pins : List (Addr × Obj)} {σ : St} {H : Hp} {s : Shared} {a : Addr} {y d : V} {u r : Value} {o : Option V} {A : Around} {E : Value → Shared → Prop}
/-- d.get(y) -/
theorem d_get1 {Q : Value → Shared → Prop} (hu : A.units + 1 < cLine) (I : Inv X pins σ H s) (g : DGet H a y o) (ry : RelV y u) (h : ∀ w' s', Inv X pins σ H s' → RelV (o.getD .non) w' → Q w' s') :
    wpAny (model X.prog X.w) A (call (.builtin "dict.get") [.ref a, u]) Q E s := by
  rcases g with ⟨kvs, k, e, ey, l⟩ | ⟨kvs, k, b, e, ey, eb, l⟩
  · subst ey
    obtain ⟨z, hd, vs, rel, dd⟩ := dk_rd I.hok e
    refine call_meetsIn PySem.F.slot_dict_get dd.typeIs PySem.F.entry_dict_get (PySem.F.args_dict_get_2 _ _) (meets_dict_get (mixKind X.prog X.w) a (kV_is ry) hd) ⟨_, dd.mapOf, h _ _ (I.tok _) ?_⟩
    rw [l]
    exact (rel.val k).getD rfl
  · subst ey
    cases (show u = Value.ref b from ry)
    obtain ⟨z, hd, xs, rel, dd⟩ := dt_rd I.hok e
    refine call_meetsIn PySem.F.slot_dict_get dd.typeIs PySem.F.entry_dict_get (PySem.F.args_dict_get_2 _ _) (meetsH_dict_get (tupleKind (mixKind X.prog X.w)) a b hd) ⟨tupleKind_room_in1 hu, k, xs, key_of I.hok eb, dd, h _ _ (I.tok _) ?_⟩
    rw [l]
    exact (rel.val k).getD rfl
end

def tDGet1 (td ty : TE) : TE := fun σ H Q => td σ H fun x H1 => ∃ a, x = .ref a ∧ IsD H1 a ∧ ty σ H1 fun y H2 => ∃ o, DGet H2 a y o ∧ Q (o.getD .non) H2
section
variable {X : Cx} {o e f : Expr} {apos cpos : Pos} {td ty tx : TE}
theorem pe_dget1 (hu : X.A.units + 1 < cLine) (ho : PE X o td) (he : PE X e ty) (m : M1 X o "get" apos e cpos) : PE X (.Call (.Attribute o "get" apos) [e] [] cpos) (tDGet1 td ty) := by
  refine ⟨?_⟩
  intro pins s σ H Q I h
  refine wpAny_Call_method m.base m.few m.line PySem.F.plainAttrs_dict PySem.F.slot_dict_get PySem.F.type_dict_get (thn (ho pins s σ H _ I h) fun u s1 ⟨x, H1, I1, rx, a, ex, d, q1⟩ => ?_)
  subst ex
  obtain rfl : u = Value.ref a := rx
  obtain ⟨t1, t2, _⟩ := isD_at I1 d
  refine ⟨t1, t2, ?_⟩
  rw [m.trees]
  refine Calls.callWith_builtin rfl (Calls.evalArgs_plain (Calls.spliced_cons (thn (he pins s1 σ H1 _ I1 q1) fun iv s2 ⟨y, H2, I2, ry, ov, g, q2⟩ => Calls.spliced_nil ?_)))
  exact d_get1 hu I2 g ry fun w' s3 I3 rw' => ⟨_, H2, I3, rw', q2⟩
end

/-! ### dict(d): a copy -/
section
variable {X : Cx} {pins : List (Addr × Obj)} {σ : St} {H : Hp} {s : Shared} {a : Addr} {kvs : List (Key × V)} {A : Around} {E : Value → Shared → Prop}
end


section
variable {X : Cx} {pins : List (Addr × Obj)} {σ : St} {H : Hp} {s : Shared} {a : Addr} {y : V} {u : Value} {A : Around} {E : Value → Shared → Prop}
end
end L2
namespace Att
open PySem PySem.W PySem.Calls PyProof.Rows

/-! ### the script -/
theorem ints_of_wellAll {P : Params} {h : Heap} : ∀ (ns : List Int) (vs : List Value), WellAll P h vs (ns.map WData.int) → IntsAre vs ns := by
  intro ns
  induction ns with
  | nil =>
    intro vs w
    rw [List.map_nil] at w
    cases w
    exact .nil
  | cons n ns ih =>
    intro vs w
    rw [List.map_cons] at w
    cases w with
    | cons a b =>
      cases a
      exact .cons _ _ (ih _ b)

theorem script_of {l : OpenLaw} {n : Nat} (hn : l.most = some n) {P : Params} {h : Heap} {args : List WData} {vals : List Value}
    (hpre : l.row.toRowW.claim.pre args = true) (hwl : WellAll P h vals args) :
    ∃ a vs ns, vals = [Value.ref a] ∧ args = [WData.list (ns.map WData.int)] ∧ h.get? a = some { cls := .type "list", data := .seq vs.toArray } ∧ IntsAre vs ns ∧ ns.length ≤ n := by
  have hsh : WShape.hasAll [] args [.list .int] = true := (pre_splitW hpre).1
  have hc : l.pre.holds [] { args := args } = true := (pre_splitW hpre).2
  obtain ⟨d, r, rfl, h1, h2⟩ := hasAllW_cons hsh
  obtain rfl := hasAllW_nil h2
  obtain ⟨xs, rfl, h3⟩ := hasW_list h1
  obtain ⟨ns, rfl⟩ := items_int h3
  have hlen : ns.length ≤ n := by
    unfold OpenLaw.pre at hc
    have h4 : (WTm.not (.lt (.lit (.int (n : Int))) (.len (.arg 0)))).holds [] { args := [.list (ns.map .int)] } = true := by
      have h4 := (holds_andW hc).1
      rw [hn] at h4
      exact h4
    have h5 := condW_of h4 (w_not (w_lt w_lit (w_len_list (w_arg rfl))))
    rw [List.length_map] at h5
    refine Nat.le_of_not_lt fun q => ?_
    have q' : (n : Int) < ((ns.length : Nat) : Int) := by omega
    first
      | (rw [decide_eq_true q'] at h5; exact absurd h5 (by decide))
      | (simp at h5; omega)
  cases hwl with
  | cons w1 w2 =>
    cases w2
    cases w1 with
    | list ho hall => exact ⟨_, _, ns, rfl, rfl, ho, ints_of_wellAll ns _ hall, hlen⟩

theorem post_true (l : OpenLaw) (args : List WData) : l.row.toRowW.claim.post args (.bool true) args = true :=
  postW_of (r := l.row.toRowW) (X := (true == true))
    (show WShape.has [] (.bool true) .bool = true by first | rfl | decide | simp [WShape.has, WShape.arms, WShape.armsAll])
    (show (WTm.eq .res (.lit (.bool true))).value [] { args := args, res := some (.bool true), after := args } = some (.bool (true == true)) from w_eq_bool (w_res rfl) w_lit) rfl

/-! ### the attachment: holds_open's last premise (the goal 'hc' behind k_head) from a wpAny of the law's body -/
/-- the same from a codeAny of the CALL (for a layer whose function contracts speak of calls) -/
theorem attach_call {l : OpenLaw} {n : Nat} {q : Program} {loose : List Str} {XP : (Str → Option Value) → Heap → Prop} {YP : World → Heap → Prop} {d : DefRec}
    (hn : l.most = some n) (hdf : d.params.defaults = [])
    (call : ∀ (w : World) (s₀ s₁ : Shared) (mg mb : Str → Option Value) (fa : Addr) (o : Obj) (pm cd doc : Value) (a : Addr) (vs : List Value) (ns : List Int),
      Ground q loose [] XP w s₀ mg mb s₁.heap → YP w s₁.heap →
      s₁.heap.get? fa = some o → o.data = .func (docDef d.name d.params d.body d.scope pm cd doc) → s₁.heap.CodeRec cd d.name → mg d.name = some (.ref fa) →
      s₁.heap.get? a = some { cls := .type "list", data := .seq vs.toArray } → IntsAre vs ns → ns.length ≤ n → s₁.gens = #[] →
      codeAny (model l.prog w) callerA (.call (.ref fa) ⟨[.ref a], []⟩) (fun r s' => r = .ok (.ret (.bool true)) ∧ OldK s₁.heap s'.heap ∧ s'.os = s₁.os ∧ AllBare s'.gens) s₁) :
    WalkO q loose XP YP l.row.toRowW d [] (fun f vs => PySem.call f vs) := by
  intro w s₀ s₁ mg mb G Y fa o pm cd doc dV kV ho hd hcd hD hmg hg args vals as hpre hlay hrd hwl hlo
  obtain rfl : dV = .none := Dflts.none hD hdf
  obtain rfl : kV = .none := Dflts.noKw hD
  obtain ⟨a, vs, ns, rfl, rfl, hobj, hints, hlen⟩ := script_of hn hpre hwl
  refine enter_call (codeAny_mono (call w s₀ s₁ mg mb fa o pm cd doc a vs ns G Y ho (fd_plain hd) hcd hmg hobj hints hlen hg) fun r s' hq => ?_)
  obtain ⟨rfl, h2, h3, h4⟩ := hq
  exact ⟨.inl ⟨.bool true, .bool true, [], rfl, fun _ => rfl, .bool true, post_true l _, fun _ => ⟨List.Pairwise.nil, fun _ hm => (nomatch hm)⟩⟩, h2, h3, h4⟩

/-! ### rules over ANY heap (no ledger) from facts about the written part K: the library's own take a ledger (News) for what they write -/
section
variable {prog : Program} {w : World} {A : Around} {E : Value → Shared → Prop} {s : Shared} {K : Frag}

/-! the whole heap as the ledger: makes every rule that writes through a ledger a rule over any heap -/
def ledger (h : Heap) (L d : Addr) : List (Addr × Obj) := (List.range h.objs.size).filterMap fun a => if a = L ∨ a = d then none else (h.get? a).map fun o => (a, o)
end
end Att

namespace L2
open PySem PySem.Spec PyProof.Rows

theorem vals_ints : ∀ {vs : List Value} {ns : List Int}, IntsAre vs ns → Vals (ns.map V.int) vs
  | _, _, .nil => .nil
  | _, _, .cons n t h => .cons ⟨t, rfl⟩ (vals_ints h)

/-- nothing is tracked but the script, known to the object (or it is an object of the module) -/
def Only (H : Hp) : Prop := ∀ b, H b = none ∨ ∃ o xs, H b = some (.frz o (.lst xs))

/-- THE HEAD: the law's promise, at the heap behind the top. F, the promise of the law's def, may use that base is part of the heap (so K.In base, base.Ns mainGlobals mg stand in Mod) -/
theorem law_call {P : Program} {w : World} {K : PySem.W.Frag} {mg mb : Str → Option Value} {CX : CXT} {k : Nat} {fa a : Addr} {fd : FuncData} {x : Str} {sp : Sp} {s₁ : Shared} {vs : List Value} {ns : List Int}
    (KX : K.In s₁.heap) (hns : s₁.heap.Ns mainGlobals mg) (hb : s₁.heap.Ns builtinsNs mb) (hbb : ∀ x : Str, x ≠ "__name__" → mb x = bootBuiltins x) (hlim : s₁.heap.NoLimit) (hg : s₁.gens = #[])
    (ha : s₁.heap.get? a = some { cls := .type "list", data := .seq vs.toArray }) (hi : IntsAre vs ns) (hl : ns.length ≤ sizeLine) (hr : Room k callerA)
    (F : ∀ base : Heap, K.In base → base.Ns mainGlobals mg → FnOk P w K mg base CX k fa fd [x] sp) (hbind : ∀ (s : Shared) (u : Value), BindsTo s fd ⟨[u], []⟩ [(x, u)])
    (hsp : ∀ H : Hp, Only H → SqL K H a (ns.map V.int) → sp [.ref a] H (fun v _ => v = .bl true) fun _ _ _ => False)
    (hCX : ∀ H e s', CX [] H s₁ (fun _ _ _ => False) e s' → False) :
    codeAny (model P w) callerA (.call (.ref fa) ⟨[.ref a], []⟩) (fun r s' => r = .ok (.ret (.bool true)) ∧ OldK s₁.heap s'.heap ∧ s'.os = s₁.os ∧ AllBare s'.gens) s₁ := by
  have rv := vals_ints hi
  have lenV := hi.length
  -- from an abstract heap in which nothing but the script may be tracked
  have core : ∀ H : Hp, Only H → SqL K H a (ns.map V.int) → HOk P w H s₁.heap → (∀ b, H b ≠ none → b = a) → (H a ≠ none → K.lookup a = none) →
      codeAny (model P w) callerA (.call (.ref fa) ⟨[.ref a], []⟩) (fun r s' => r = .ok (.ret (.bool true)) ∧ OldK s₁.heap s'.heap ∧ s'.os = s₁.os ∧ AllBare s'.gens) s₁ := by
    intro H hO hS hok hA hK
    have base_of : ∀ {b : Addr} {o : Obj}, s₁.heap.get? b = some o → H b = none → (hidT s₁.heap H).get? b = some o := fun e n => hidT_get e n
    have noA : ∀ {b : Addr} {o : Obj} {es : Array DictEntry} {ep : Nat}, s₁.heap.get? b = some o → o.data = .dict es ep → H b = none := fun {b o es ep} e d => by
      cases q : H b with
      | none => rfl
      | some u =>
        have e' : b = a := hA b (by rw [q]; simp)
        subst e'
        rw [ha] at e; cases e
        have d' : Data.seq vs.toArray _ = Data.dict es ep := d
        cases d'
    have nsK : ∀ {b : Addr} {m : Str → Option Value}, s₁.heap.Ns b m → (hidT s₁.heap H).Ns b m := fun {b m} ⟨o, es, ep, e, d, r⟩ => ⟨o, es, ep, base_of e (noA e d), d, r⟩
    have hKb : K.In (hidT s₁.heap H) := fun b o e => base_of (KX b o e) (by
      cases q : H b with
      | none => rfl
      | some u =>
        have e' : b = a := hA b (by rw [q]; simp)
        subst e'
        rw [hK (by rw [q]; simp)] at e; cases e)
    have hM : Mod K mg (hidT s₁.heap H) := ⟨hKb, nsK hns, ⟨mb, nsK hb, hbb⟩, let ⟨mc, h1, h2⟩ := hlim; ⟨mc, nsK h1, h2⟩⟩
    have e0 : Env0 P w K mg (hidT s₁.heap H) callerA [] s₁ H := ⟨rfl, hM, fun b o e => of_hidT e, Nat.le_of_eq (hidT_size _ _), trivial, fun b hb => absurd (show b ∈ ([] : List Addr) from hb) (by simp), hok, .of_eq hg⟩
    refine codeAny_mono ((F _ hKb (nsK hns)).run callerA [] s₁ H ⟨[.ref a], []⟩ [.ref a] [.ref a] _ _ hr e0 (hbind s₁ (.ref a)) (.cons rfl .nil) (hsp H hO hS)) fun r s' h => ?_
    cases r with
    | error e => exact (hCX H e s' h).elim
    | ok fl =>
      cases fl with
      | next => exact False.elim h
      | brk => exact False.elim h
      | cont => exact False.elim h
      | ret u =>
        obtain ⟨v, H', os, bare, un, hok', r', q⟩ := h
        have q' : v = .bl true := q
        subst q'
        obtain rfl : u = Value.bool true := r'
        refine ⟨rfl, OldK.of_keep fun b o e => ?_, os, bare⟩
        cases q : H b with
        | none => exact un.keep b o e q (by intro z; exact absurd (show b ∈ ([] : List Addr) from z) (by simp)) (by simp)
        | some u =>
          rcases hO b with z | ⟨ob, xs, z⟩
          · rw [q] at z; cases z
          · have z2 := un.frzs b ob _ z
            obtain ⟨e1, _⟩ := hok b _ z
            obtain ⟨e2, _⟩ := hok' b _ z2
            rw [e] at e1; cases e1
            exact e2
  cases hk : K.lookup a with
  | some o =>
    -- the script is one of the module's own objects
    have e := KX a o hk
    rw [ha] at e
    cases e
    refine core (fun _ => none) (fun _ => .inl rfl) (.inr ⟨_, vs.toArray, _, hk, rfl, rfl, rfl, by rw [List.size_toArray, lenV]; exact hl, by simpa using rv⟩) (fun b u z => by have z' : (none : Option HO) = some u := z; cases z') (fun b z => absurd rfl z) fun z => absurd rfl z
  | none =>
    refine core (fun b => if b = a then some (.frz { cls := .type "list", data := .seq vs.toArray } (.lst (ns.map V.int))) else none) (fun b => ?_) (.inl (.inr ⟨{ cls := .type "list", data := .seq vs.toArray }, if_pos rfl⟩)) (fun b u z => ?_) (fun b z => ?_) fun _ => hk
    · by_cases hb : b = a
      · exact .inr ⟨_, _, if_pos hb⟩
      · exact .inl (if_neg hb)
    · by_cases hb : b = a
      · have z' := (if_pos hb).symm.trans z
        cases z'
        subst hb
        exact ⟨ha, by rw [List.length_map]; exact hl, vs, _, rv, ha⟩
      · have z' := (if_neg hb).symm.trans z
        cases z'
    · by_cases hb : b = a
      · exact hb
      · exact absurd (if_neg hb) z
end L2

namespace L2
open PySem PySem.Spec PyProof.Rows

/-- the goal that k_head leaves (case hc), from the law's promise. F gives the function object fd (K's own) once, then the promise over every base -/
theorem walk_of {l : PySem.W.OpenLaw} {n k : Nat} {q : Program} {loose : List Str} {XP : (Str → Option Value) → Heap → Prop} {YP : World → Heap → Prop} {d : DefRec} {K : Params → PySem.W.Frag} {CX : World → CXT} {sp : World → Sp} {x : Str}
    (hn : l.most = some n) (hn2 : n ≤ sizeLine) (hdf : d.params.defaults = []) (hr : Room k callerA)
    (hY : ∀ (w : World) (h : Heap), YP w h → (K w.params).In h)
    (F : ∀ (w : World) (mg : Str → Option Value) (fa : Addr) (h : Heap), (K w.params).In h → h.Ns mainGlobals mg → mg d.name = some (.ref fa) →
      ∃ fd : FuncData, (∀ (s : Shared) (u : Value), BindsTo s fd ⟨[u], []⟩ [(x, u)]) ∧
        ∀ base : Heap, (K w.params).In base → base.Ns mainGlobals mg → FnOk l.prog w (K w.params) mg base (CX w) k fa fd [x] (sp w))
    (hsp : ∀ (w : World) (H : Hp) (a : Addr) (ns : List Int), ns.length ≤ n → Only H → SqL (K w.params) H a (ns.map V.int) → sp w [.ref a] H (fun v _ => v = .bl true) fun _ _ _ => False)
    (hCX : ∀ (w : World) (H : Hp) (s : Shared) (e : Value) (s' : Shared), CX w [] H s (fun _ _ _ => False) e s' → False) :
    PySem.W.WalkO q loose XP YP l.row.toRowW d [] (fun f vs => PySem.call f vs) := by
  refine Att.attach_call hn hdf fun w s₀ s₁ mg mb fa o pm cd doc a vs ns G Y ho hd hcd hmg hobj hints hlen hg => ?_
  have KX := hY w _ Y
  obtain ⟨fd, hb, hF⟩ := F w mg fa _ KX G.T.g hmg
  exact law_call KX G.T.g G.T.b G.T.builtins G.T.nolimit hg hobj hints (Nat.le_trans hlen hn2) hr hF hb (fun H hO hS => hsp w H a ns hlen hO hS) fun H e s' => hCX w H s₁ e s'
end L2


/-! SHORT WORDS over the layer: a def of the text, its body, what a loop and a test want. -/
namespace L2
open PySem PySem.Spec PyProof.Rows

/-! ### the text by places -/
/-- the j-th statement of a class's body -/
def inClass (s : Stmt) (j : Nat) : Stmt := match s with
  | .ClassDef _ _ _ body _ _ _ _ _ _ _ => body.getD j (.Pass ⟨0, 0, 0, 0⟩)
  | _ => .Pass ⟨0, 0, 0, 0⟩
def defArgs (s : Stmt) : Arguments := match s with
  | .FunctionDef _ a _ _ _ _ _ _ _ _ => a
  | _ => { posonlyargs := [], args := [], vararg := none, kwonlyargs := [], kw_defaults := [], kwarg := none, defaults := [] }
def defBody (s : Stmt) : List Stmt := match s with
  | .FunctionDef _ _ b _ _ _ _ _ _ _ => b
  | _ => []
def defScope (s : Stmt) : Scope := match s with
  | .FunctionDef _ _ _ _ _ _ sc _ _ _ => sc
  | _ => { kind := .function, names := [], isGenerator := false, isCoroutine := false }

/-! ### no exception leaves a def -/
abbrev CX0 : CXT := fun _ _ _ _ _ _ => False
abbrev E0 : XK := fun _ _ _ => False
theorem pass0 {X : Cx} : Passes CX0 X E0 := fun _ _ _ _ _ _ _ h => h.elim

/-! ### a def (or method) of the text as it stands behind the top -/
structure Fun (K : PySem.W.Frag) (x qual : Str) (st : Stmt) (f : Addr) (fd : FuncData) : Prop where
  ex : ∃ (oc : Value) (od : Option Addr) (kV doc pm : Value) (an : Option Addr) (cdv ct : Value) (osl : Array (Option Value)),
    fd = PySem.W.fnOf x qual (defArgs st) (defBody st) (defScope st) .none kV doc pm an cdv ct ∧ K.lookup f = some ⟨oc, od, .func fd, osl⟩ ∧ PySem.W.codeIn K cdv qual = true
  kp : PySem.W.keepIn K (.ref f) = true
section
variable {P : Program} {w : World} {K : PySem.W.Frag} {mg : Str → Option Value} {base : Heap}
/-- THE RULE for a def: its body as a term of rules, and the reading of that term -/
theorem Fun.ok {x qual : Str} {st : Stmt} {f : Addr} {fd : FuncData} {N ps : List Str} {k : Nat} {sp : Sp} (F : Fun K x qual st f fd) (S : FnScope N ps (defScope st)) (len : ∀ vs H Q E, sp vs H Q E → vs.length = ps.length)
    (hbody : ∀ (cdv : Value) (A : Around) (outer : List Env) (s : Shared) (H : Hp) (vs : List V) (Q : VK) (E : XK), Room k (A.deeper (envOfC qual (defScope st) s.heap.objs.size f cdv)) → sp vs H Q E →
      ∃ t, PSs (cxOf CX0 P w K mg base N qual (defScope st) f cdv A outer s H E).nox (defBody st) t ∧ t { nx := fun _ H' => Q .non H', rt := Q } (start N vs) H) : FnOk P w K mg base CX0 (k + 1) f fd ps sp := by
  obtain ⟨oc, od, kV, doc, pm, an, cdv, ct, osl, rfl, lk, hcd⟩ := F.ex
  refine fn_of lk hcd S len fun A outer s H vs Q E hr hsp => ?_
  obtain ⟨t, h, q⟩ := hbody cdv A outer s H vs Q E hr hsp
  exact ⟨t, h.nox, q⟩
/-- how its arguments bind (no defaults): h is «fun _ _ _ _ _ _ us hl => match us, hl with | [_, _], _ => rfl», one _ a parameter -/
theorem Fun.binds {x qual : Str} {st : Stmt} {f : Addr} {fd : FuncData} {ps : List Str} (F : Fun K x qual st f fd)
    (h : ∀ (kV doc pm : Value) (an : Option Addr) (cdv ct : Value) (us : List Value), us.length = ps.length → bindArgs (PySem.W.fnOf x qual (defArgs st) (defBody st) (defScope st) .none kV doc pm an cdv ct) ⟨us, []⟩ = pure (ps.zip us)) : Binds K fd ps [] := by
  obtain ⟨oc, od, kV, doc, pm, an, cdv, ct, osl, rfl, lk, hcd⟩ := F.ex
  exact .all (h kV doc pm an cdv ct)
theorem fun_mk {x qual : Str} {st : Stmt} {f : Addr} {oc : Value} {od an : Option Addr} {osl : Array (Option Value)} {kV doc pm cdv ct : Value} (l : K.lookup f = some ⟨oc, od, .func (PySem.W.fnOf x qual (defArgs st) (defBody st) (defScope st) .none kV doc pm an cdv ct), osl⟩)
    (c : PySem.W.codeIn K cdv qual = true) (k : PySem.W.keepIn K (.ref f) = true) : Fun K x qual st f (PySem.W.fnOf x qual (defArgs st) (defBody st) (defScope st) .none kV doc pm an cdv ct) := ⟨⟨oc, od, kV, doc, pm, an, cdv, ct, osl, rfl, l, c⟩, k⟩
end
theorem hu_of {A : Around} {k : Nat} (hr : Room k A) : A.units + 1 < cLine := Nat.lt_of_le_of_lt (Nat.add_le_add_left (by decide : 1 ≤ 64) _) hr.units
theorem small1000 {n : Nat} (h : n ≤ 1000) : n < sizeLine := Nat.lt_of_le_of_lt h (by decide)

/-! ### expressions in short: the name that stands in the i-th slot -/
section
variable {X : Cx}
theorem pv (i : Nat) {x : Str} {pos : Pos} (hN : X.N[i]? = some x := by rfl) (hv : Vis X.env.scope x := by first | exact Or.inl rfl | exact Or.inr (Or.inl rfl) | exact Or.inr (Or.inr rfl)) (hd : (x == ("__debug__" : Str)) = false := by decide)
    (hcd : (x == ("__classdict__" : Str)) = false := by decide) : PE X (.Name x pos) (tVar i) := pe_var hN hv hd hcd
end

/-! ### tests -/
theorem iteF {A B : Prop} (h : B) : if false = true then A else B := by
  rw [if_neg Bool.false_ne_true]
  exact h
theorem iteT {A B : Prop} (h : A) : if true = true then A else B := by
  rw [if_pos rfl]
  exact h
theorem ite2 {c A B : Prop} [Decidable c] (h1 : c → A) (h2 : ¬ c → B) : if c then A else B := by
  by_cases h : c
  · rw [if_pos h]
    exact h1 h
  · rw [if_neg h]
    exact h2 h
theorem iteNS {c A B : Prop} [Decidable c] (hc : c) (h : B) : if (!decide c) = true then A else B := by
  rw [decide_eq_true hc]
  exact iteF h

/-! ### heaps -/
/-- all that was tracked is as it was -/
def Same (H H' : Hp) : Prop := ∀ b o, H b = some o → H' b = some o
theorem Same.refl (H : Hp) : Same H H := fun _ _ h => h
theorem Same.trans {H H1 H2 : Hp} (a : Same H H1) (b : Same H1 H2) : Same H H2 := fun c o h => b c o (a c o h)
theorem Same.free {H H' : Hp} (e : Same H H') {l : Addr} (h : H' l = Option.none) : H l = Option.none := by
  cases q : H l with
  | none => rfl
  | some o =>
    rw [e l o q] at h
    cases h
theorem Same.seq {K : PySem.W.Frag} {H H' : Hp} {a : Addr} {xs : List V} (e : Same H H') (h : SqL K H a xs) : SqL K H' a xs := by
  rcases h with (h | ⟨o, h⟩) | h
  · exact .inl (.inl (e _ _ h))
  · exact .inl (.inr ⟨o, e _ _ h⟩)
  · exact .inr h

end L2

namespace L2
open PySem PySem.Spec PyProof.Rows
section
variable {X : Cx}
end
/-! ### a dict's pairs: keys that differ -/
section
variable {κ : Type} [DecidableEq κ]
end
end L2

set_option Elab.async false
set_option linter.all false
set_option maxRecDepth 100000
set_option maxHeartbeats 4000000
namespace L2
open PySem PySem.Spec PyProof.Rows

/-! ### a comprehension's block -/
/-- the cells that a block takes along -/
def clB (env : Env) (fr : List Str) : List (Str × Addr) := fr.map fun n => (n, (env.cells.lookup n).getD 0)
theorem clB_look {env : Env} : ∀ {fr : List Str} {x : Str} {c : Addr}, (clB env fr).lookup x = some c → x ∈ fr ∧ c = (env.cells.lookup x).getD 0
  | [], x, c, h => by simp [clB] at h
  | n :: r, x, c, h => by
    have h' : List.lookup x ((n, (env.cells.lookup n).getD 0) :: clB env r) = some c := h
    rw [List.lookup_cons] at h'
    cases e : x == n with
    | true =>
      rw [e] at h'
      have e' : x = n := by simpa using e
      subst e'
      exact ⟨List.mem_cons_self, (Option.some.inj h').symm⟩
    | false =>
      rw [e] at h'
      obtain ⟨h1, h2⟩ := clB_look h'
      exact ⟨List.mem_cons_of_mem _ h1, h2⟩
theorem clB_in {env : Env} : ∀ {fr : List Str} {x : Str}, x ∈ fr → (clB env fr).lookup x = some ((env.cells.lookup x).getD 0)
  | n :: r, x, h => by
    show List.lookup x ((n, (env.cells.lookup n).getD 0) :: clB env r) = _
    rw [List.lookup_cons]
    cases e : x == n with
    | true =>
      have e' : x = n := by simpa using e
      subst e'
      rfl
    | false =>
      rcases List.mem_cons.mp h with z | z
      · subst z; simp at e
      · exact clB_in z
/-- the names of the block as it runs -/
theorem relabel_mem {env : Env} : ∀ {names : List (Str × NameKind)} {x : Str} {k : NameKind},
    (names.map fun (n, k) => if (k == NameKind.free && env.scope.kind == .function && env.kindOf n == some .cell) then (n, NameKind.cell) else (n, k)).lookup x = some k →
    ∃ k0, (x, k0) ∈ names ∧ (k = k0 ∨ (k0 = .free ∧ k = .cell))
  | [], _, _, h => by simp at h
  | (n, k0) :: r, x, k, h => by
    have h' : List.lookup x ((if (k0 == NameKind.free && env.scope.kind == .function && env.kindOf n == some .cell) = true then (n, NameKind.cell) else (n, k0)) ::
      (r.map fun (n, k) => if (k == NameKind.free && env.scope.kind == .function && env.kindOf n == some .cell) then (n, NameKind.cell) else (n, k))) = some k := h
    by_cases hc : (k0 == NameKind.free && env.scope.kind == .function && env.kindOf n == some .cell) = true
    · rw [if_pos hc, List.lookup_cons] at h'
      cases e : x == n with
      | true =>
        rw [e] at h'
        have e' : x = n := by simpa using e
        subst e'
        simp only [Bool.and_eq_true] at hc
        exact ⟨k0, List.mem_cons_self, .inr ⟨by simpa using hc.1.1, (Option.some.inj h').symm⟩⟩
      | false =>
        rw [e] at h'
        obtain ⟨k1, h1, h2⟩ := relabel_mem h'
        exact ⟨k1, List.mem_cons_of_mem _ h1, h2⟩
    · rw [if_neg hc, List.lookup_cons] at h'
      cases e : x == n with
      | true =>
        rw [e] at h'
        have e' : x = n := by simpa using e
        subst e'
        exact ⟨k0, List.mem_cons_self, .inl (Option.some.inj h').symm⟩
      | false =>
        rw [e] at h'
        obtain ⟨k1, h1, h2⟩ := relabel_mem h'
        exact ⟨k1, List.mem_cons_of_mem _ h1, h2⟩
theorem relabel_free {env : Env} (hk : env.scope.kind = .function) : ∀ {names : List (Str × NameKind)} {x : Str}, names.lookup x = some .free → env.kindOf x = some .cell →
    (names.map fun (n, k) => if (k == NameKind.free && env.scope.kind == .function && env.kindOf n == some .cell) then (n, NameKind.cell) else (n, k)).lookup x = some .cell
  | [], _, h, _ => by simp at h
  | (n, k0) :: r, x, h, hx => by
    show List.lookup x ((if (k0 == NameKind.free && env.scope.kind == .function && env.kindOf n == some .cell) = true then (n, NameKind.cell) else (n, k0)) ::
      (r.map fun (n, k) => if (k == NameKind.free && env.scope.kind == .function && env.kindOf n == some .cell) then (n, NameKind.cell) else (n, k))) = some .cell
    rw [List.lookup_cons] at h
    cases e : x == n with
    | true =>
      rw [e] at h
      have e' : x = n := by simpa using e
      subst e'
      have h0 : k0 = .free := Option.some.inj h
      subst h0
      rw [if_pos (by rw [hk, hx]; decide), List.lookup_cons]
      simp
    | false =>
      rw [e] at h
      have ih := relabel_free hk h hx
      split
      · rw [List.lookup_cons, e]; exact ih
      · rw [List.lookup_cons, e]; exact ih

/-- the block's context: entered at s (the iterator and the list stand), its frame at C -/
abbrev compCx (X : Cx) (pins : List (Addr × Obj)) (sc : Scope) (fr Nc : List Str) (fp : List Addr) (s : Shared) (H : Hp) (C : Addr) : Cx :=
  { prog := X.prog, w := X.w, K := X.K, mg := X.mg, base := X.base, A := X.A, N := Nc, s₀ := s, H₀ := H, env := compEnvC sc (clB X.env fr) C X.env,
    outer := X.stack, stack := X.stack, ex := fp, fn := fun _ => false, calm := X.calm, pn := X.pn ++ pins, xe := fun _ _ => False }
/-- what is asked of the block's names -/
structure BlockOk (env : Env) (sc : Scope) (fr : List Str) : Prop where
  kind : sc.kind = .function
  clos : closureFor sc env = pure (clB env fr)
  cells : (fr.all fun n => (env.cells.lookup n).isSome) = true
  names : (sc.names.all fun y => (y.2 != .cell) && (y.2 != .free || fr.contains y.1) && (y.2 != .local || sc.names.lookup y.1 == some .local)) = true
/-- which of the block's names are the def's, at which slot -/
def capChk (N Nc : List Str) (caps : List (Option Nat)) (env : Env) (sc : Scope) (fr : List Str) : Bool :=
  (Nc.zip caps).all fun p => match p.2 with
    | none => true
    | some j => (N[j]? == some p.1) && (env.kindOf p.1 == some .cell) && (sc.names.lookup p.1 == some .free) && fr.contains p.1
def capS (caps : List (Option Nat)) (σ : St) : St := caps.map fun o => match o with
  | none => none
  | some j => (σ[j]?).join
section
variable {X : Cx} {pins : List (Addr × Obj)} {σ : St} {H : Hp} {s : Shared} {sc : Scope} {fr Nc : List Str} {fp : List Addr} {C : Addr}
theorem BlockOk.sub {env : Env} (B : BlockOk env sc fr) {x : Str} {c : Addr} (h : (clB env fr).lookup x = some c) : env.cells.lookup x = some c := by
  obtain ⟨h1, h2⟩ := clB_look h
  have h3 := List.all_eq_true.mp B.cells x h1
  obtain ⟨d, hd⟩ := Option.isSome_iff_exists.mp h3
  rw [hd] at h2 ⊢
  rw [h2]; rfl
theorem BlockOk.free {env : Env} (B : BlockOk env sc fr) {x : Str} {k : NameKind} (h : (relabel sc env).names.lookup x = some k) (hk : k = .cell ∨ k = .free) : x ∈ fr := by
  obtain ⟨k0, h1, h2⟩ := relabel_mem h
  have h3 := List.all_eq_true.mp B.names _ h1
  simp only [Bool.and_eq_true, Bool.or_eq_true, bne_iff_ne, ne_eq, List.contains_iff_mem] at h3
  have h4 : k0 = .free := by
    rcases h2 with h2 | ⟨h2, _⟩
    · subst h2
      rcases hk with z | z
      · exact absurd z h3.1.1
      · exact z
    · exact h2
  rcases h3.1.2 with z | z
  · exact absurd h4 z
  · exact z
theorem comp_ok (I : Inv X pins σ H s) (B : BlockOk X.env sc fr) (hf : ∀ b ∈ fp, FpOk X pins H b) (ho : ∀ b ∈ fp, ∃ o, s.heap.get? b = some o) (hC : s.heap.objs.size ≤ C) : (compCx X pins sc fr Nc fp s H C).Ok where
  mod := I.ok.mod
  kind := B.kind
  glob := I.ok.glob
  blt := I.ok.blt
  above := hC
  inj := fun x y c h1 h2 => I.ok.inj x y c (B.sub h1) (B.sub h2)
  has := fun x h => by
    have hx : x ∈ fr := by
      rcases h with h | h
      · exact B.free h (.inl rfl)
      · exact B.free h (.inr rfl)
    exact ⟨_, clB_in hx⟩
  cab := fun x c h => absurd h (by simp)
  hd := I.ok.hd
  frames := I.ok.frames
  stk := .inl rfl
  exf := fun b hb => by
    obtain ⟨o, e⟩ := ho b hb
    refine ⟨fun z => ?_, fun x c h => (hf b hb).2.2.2.2.1 x c (B.sub h)⟩
    have z' : b = C := z
    have := Heap.lt_size e
    rw [z'] at this
    exact absurd (Nat.lt_of_lt_of_le this hC) (Nat.lt_irrefl _)
  bs := I.bs
  bsz := Nat.le_trans I.ok.bsz I.sz
  noex := fun b o e hb => by
    rcases (hf b hb).2.2.2.1 with z | z
    · exact I.ok.noex b o e z
    · exact absurd (Nat.lt_of_lt_of_le (Heap.lt_size (I.ok.bs b o e).1) z) (Nat.lt_irrefl _)
  exfs := fun b hb h => by
    rcases List.mem_cons.mp (I.stkSub b h) with z | z
    · exact (hf b hb).2.1 z
    · exact (hf b hb).2.2.1 z
  funs := I.stack
  frf := I.stkFree
theorem Inv.pin_lt (I : Inv X pins σ H s) {p : Addr × Obj} (hp : p ∈ X.pn ++ pins) : p.1 < s.heap.objs.size := Heap.lt_size (I.pin p hp).1
/-- the block at its entry: the list at D, the frame at C, both new -/
theorem comp_start {caps : List (Option Nat)} {h' : Heap} {D : Addr} {m : Str → Option Value} {t' n0 : Nat} (I : Inv X pins σ H s) (B : BlockOk X.env sc fr) (hf : ∀ b ∈ fp, FpOk X pins H b) (ho : ∀ b ∈ fp, ∃ o, s.heap.get? b = some o)
    (hC : s.heap.objs.size ≤ C) (hD : s.heap.objs.size ≤ D) (hDC : D ≠ C) (keep : ∀ b o, s.heap.get? b = some o → h'.get? b = some o) (hl : h'.get? D = some { cls := .type "list", data := .seq ([] : List Value).toArray n0 }) (hn : h'.Ns C m)
    (hcap : capChk X.N Nc caps X.env sc fr = true) (hlen : caps.length = Nc.length) :
    Inv (compCx X pins sc fr Nc fp s H C) [] (capS caps σ) (upd H D (.lst [])) { s with heap := h', toks := t' } := by
  have hk : X.env.scope.kind = .function := I.ok.kind
  have fresh : ∀ a, s.heap.objs.size ≤ a → H a = none := fun a ha => I.hok.fresh ha
  refine ⟨comp_ok I B hf ho hC, rfl, I.bare, Un.laid keep hD (fresh D hD), ⟨m, hn, fun i x v e1 e2 e3 => ?_⟩, fun x c h => ?_, ?_, fun x c h => ?_, fun p hp => ?_, ?_, ?_⟩
  · -- a captured name
    have e2' : (caps[i]?).map (fun o => match o with | none => none | some j => (σ[j]?).join) = some (some v) := by
      have : (capS caps σ)[i]? = some (some v) := e2
      unfold capS at this
      rw [List.getElem?_map] at this
      exact this
    cases hc : caps[i]? with
    | none => rw [hc] at e2'; cases e2'
    | some o =>
      rw [hc] at e2'
      cases o with
      | none => simp at e2'
      | some j =>
        have e4 : (σ[j]?).join = some v := by simpa using e2'
        have e5 : σ[j]? = some (some v) := by
          cases q : σ[j]? with
          | none => rw [q] at e4; cases e4
          | some w' => rw [q] at e4; simp at e4; rw [e4]
        have e6 : (Nc.zip caps)[i]? = some (x, some j) := by
          rw [List.getElem?_zip_eq_some]
          exact ⟨e1, hc⟩
        have e7 := List.all_eq_true.mp hcap _ (List.mem_of_getElem? e6)
        simp only [Bool.and_eq_true, beq_iff_eq, List.contains_iff_mem] at e7
        obtain ⟨⟨⟨a1, a2⟩, a3⟩, a4⟩ := e7
        obtain ⟨m0, hn0, hl0⟩ := I.loc
        obtain ⟨u, r, l⟩ := hl0 j x v a1 e5 (.inr (.inl a2))
        refine ⟨u, r, .inr ⟨.inl (relabel_free hk a3 a2), _, clB_in a4, ?_⟩⟩
        rcases l with ⟨z, _⟩ | ⟨_, c, ec, hcell⟩
        · rw [a2] at z; cases z
        · have : (X.env.cells.lookup x).getD 0 = c := by rw [ec]; rfl
          rw [this]
          exact hcell.keeps keep
  · obtain ⟨v, hv⟩ := I.cell x c (B.sub h)
    exact ⟨v, hv.keeps keep⟩
  · show upd H D (.lst []) C = none
    rw [upd_ne (Ne.symm hDC)]; exact fresh C hC
  · obtain ⟨v, hv⟩ := I.cell x c (B.sub h)
    have : c ≠ D := fun z => by have := hv.lt; rw [z] at this; exact absurd (Nat.lt_of_lt_of_le this hD) (Nat.lt_irrefl _)
    rw [upd_ne this]; exact I.freeC x c (B.sub h)
  · have hp' : p ∈ X.pn ++ pins := by simpa using hp
    obtain ⟨e, n, ne, nf, d⟩ := I.pin p hp'
    have hlt := I.pin_lt hp'
    refine ⟨keep _ _ e, ?_, ?_, fun z => ?_, d⟩
    · rw [upd_ne (fun z => by rw [z] at hlt; exact absurd (Nat.lt_of_lt_of_le hlt hD) (Nat.lt_irrefl _))]; exact n
    · intro z
      have z' : p.1 = C := z
      rw [z'] at hlt; exact absurd (Nat.lt_of_lt_of_le hlt hC) (Nat.lt_irrefl _)
    · rcases List.mem_cons.mp (I.stkSub p.1 z) with q | q
      · exact ne q
      · exact nf q
  · exact I.hok.laid keep hD ⟨Nat.zero_le _, [], n0, .nil, hl⟩
  · show (capS caps σ).length = Nc.length
    unfold capS
    rw [List.length_map, hlen]
/-- back in the def -/
theorem comp_back {pl : List (Addr × Obj)} {σ' : St} {H' : Hp} {s' : Shared} (I : Inv X pins σ H s) (hf : ∀ b ∈ fp, FpOk X pins H b) (J : Inv (compCx X pins sc fr Nc fp s H C) pl σ' H' s') : Inv X pins σ H' s' :=
  I.call' J.os J.base J.hok J.bare fun b hb => ⟨(hf b hb).2.2.2.1, (hf b hb).2.1, (hf b hb).2.2.2.2.1, (hf b hb).2.2.2.2.2⟩
/-- .. the block's frame let go -/
theorem comp_gone {pl : List (Addr × Obj)} {σ' σ2 : St} {H' : Hp} {s' : Shared} {h2 : Heap} {t2 : Nat} (I : Inv X pins σ H s) (J : Inv (compCx X pins sc fr Nc fp s H C) pl σ' H' s') (J2 : Inv X pins σ2 H' s') (hs : Heap.SameBut C s'.heap h2) : Inv X pins σ2 H' { s' with heap := h2, toks := t2 } := by
  have hC : s.heap.objs.size ≤ C := J.ok.above
  refine J2.turned (it := C) (fun b o hb e => (hs.2 b hb).trans e) J.free ?_ (.inr (Nat.le_trans I.sz hC)) (fun x c h z => ?_) fun p hp z => ?_
  · intro z
    have := I.lt
    rw [← z] at this
    exact absurd (Nat.lt_of_lt_of_le this hC) (Nat.lt_irrefl _)
  · obtain ⟨v, hv⟩ := I.cell x c h
    have := hv.lt
    rw [z] at this
    exact absurd (Nat.lt_of_lt_of_le this hC) (Nat.lt_irrefl _)
  · have := I.pin_lt hp
    rw [z] at this
    exact absurd (Nat.lt_of_lt_of_le this hC) (Nat.lt_irrefl _)
end
end L2

set_option Elab.async false
set_option linter.all false
set_option maxRecDepth 100000
set_option maxHeartbeats 4000000
namespace L2
open PySem PySem.Spec PyProof.Rows

/-! ### the tests of a clause -/
def tTrue : TT := fun _ H Q => Q true H
structure PIf (X : Cx) (ifs : List Expr) (t : TT) : Prop where
  run : ∀ (pins : List (Addr × Obj)) (s : Shared) (σ : St) (H : Hp) (Q : Bool → Hp → Prop), Inv X pins σ H s → t σ H Q →
    wpAny (model X.prog X.w) X.A (forIn ifs true fun c r => if r = true then do let ok ← isTrue c X.env (eval c X.env); pure (ForInStep.yield ok) else pure (ForInStep.yield r)) (TP X pins σ Q) X.xe s
instance {X : Cx} {ifs : List Expr} {t : TT} : CoeFun (PIf X ifs t) (fun _ => ∀ (pins : List (Addr × Obj)) (s : Shared) (σ : St) (H : Hp) (Q : Bool → Hp → Prop), Inv X pins σ H s → t σ H Q →
    wpAny (model X.prog X.w) X.A (forIn ifs true fun c r => if r = true then do let ok ← isTrue c X.env (eval c X.env); pure (ForInStep.yield ok) else pure (ForInStep.yield r)) (TP X pins σ Q) X.xe s) := ⟨PIf.run⟩

theorem pif_nil {X : Cx} : PIf X [] tTrue := ⟨fun _ _ _ H _ I h => wpAny_tests_nil ⟨H, I, h⟩⟩
theorem pif_one {X : Cx} {c : Expr} {t : TT} (hc : PT X c t) : PIf X [c] t := ⟨fun pins s σ H Q I h => wpAny_tests_one (hc pins s σ H Q I h)⟩

/-! ### targets that write their own slots alone -/
def GOwn (g : TG) (ow : List Nat) : Prop :=
  ∀ (v : V) (σ : St) (H : Hp) (Q : St → Hp → Prop), g v σ H Q → g v σ H fun σ2 H2 => Q σ2 H2 ∧ σ2.length = σ.length ∧ ∀ i, i ∉ ow → σ2[i]? = σ[i]?
theorem gown_name (i : Nat) : GOwn (gName i) [i] := fun v σ H Q h => ⟨h, List.length_set .., fun j hj => List.getElem?_set_ne (fun e => hj (by simp [e]))⟩
theorem gown_tup2 {K : PySem.W.Frag} {n : Nat} (i j : Nat) : GOwn (gTup K n (gCons (gName i) (gCons (gName j) gNil))) [i, j] := by
  rintro v σ H Q ⟨a, xs, e1, e2, e3, v1, r1, e4, v2, r2, e5, e6, q⟩
  refine ⟨a, xs, e1, e2, e3, v1, r1, e4, v2, r2, e5, e6, q, by rw [List.length_set, List.length_set], fun k hk => ?_⟩
  have h1 : i ≠ k := fun e => hk (by simp [e])
  have h2 : j ≠ k := fun e => hk (by simp [e])
  rw [List.getElem?_set_ne h2, List.getElem?_set_ne h1]

/-! ### the loop of a comprehension -/
section
variable {prog : Program} {w : World} {A : Around} {R : Result → Shared → Prop} {s : Shared}
theorem compLoop_any {elt target iter : Expr} {ifs : List Expr} {scope : Scope} {pos : Pos} {it acc : Value} {env : Env} (I : Nat → Shared → Prop)
    (turn : ∀ n s, I n s → wpAny (model prog w) A (pyNext it) (fun r s₁ => match r with
      | none => R (.ok .next) s₁
      | some v => wpAny (model prog w) A (letOwnedTupleGo target it v) (fun _ s₀ => wpAny (model prog w) A (assign target env v) (fun _ s₂ =>
          wpAny (model prog w) A (forIn ifs true fun c r => if r = true then do let ok ← isTrue c env (eval c env); pure (ForInStep.yield ok) else pure (ForInStep.yield r)) (fun ok s₃ =>
            if ok = true then wpAny (model prog w) A (eval elt env) (fun x s₄ =>
              wpAny (model prog w) A (call (.builtin "list.append") [acc, x]) (fun _ s₅ => ∃ m, m < n ∧ I m s₅) (fun _ _ => False) s₄) (fun _ _ => False) s₃
            else ∃ m, m < n ∧ I m s₃) (fun _ _ => False) s₂) (fun _ _ => False) s₀) (fun _ _ => False) s₁) (fun _ _ => False) s)
    (n : Nat) (h : I n s) :
    codeAny (model prog w) A (.compLoop (.ListComp elt [⟨target, iter, ifs, 0⟩] scope pos) 0 it acc env) R s := by
  refine codeAny_loop rfl I (fun n s hI => ?_) n h
  show wpAny _ A ((compTurn (.ListComp elt [⟨target, iter, ifs, 0⟩] scope pos) 0 it acc env).onRaise (fun x => do noteFrame x env; theTreesLotGoes x)) _ _ s
  refine wpAny_noted ?_
  rw [compTurn_list]
  refine wpAny_bind (wpAny_standAt (wpAny_bind (wpAny_mono (turn n s hI) (fun r s₁ h₁ => ?_) fun _ _ z => z.elim)))
  cases r with
  | none => exact wpAny_pure h₁
  | some v =>
    refine wpAny_bind (wpAny_mono h₁ (fun _ s₀ h₀ => ?_) fun _ _ z => z.elim)
    refine wpAny_bind (wpAny_mono h₀ (fun _ s₂ h₂ => wpAny_bind (wpAny_mono h₂ (fun ok s₃ h₃ => ?_) fun _ _ z => z.elim)) fun _ _ z => z.elim)
    cases ok with
    | false => exact wpAny_pure ⟨rfl, h₃⟩
    | true =>
      exact wpAny_bind (wpAny_bind (wpAny_mono h₃ (fun x s₄ h₄ => wpAny_bind (wpAny_mono h₄ (fun _ s₅ h₅ => wpAny_pure (wpAny_pure ⟨rfl, h₅⟩)) fun _ _ z => z.elim)) fun _ _ z => z.elim))
end

/-! ### a list comprehension of one clause -/
/-- what is asked of a block that makes the list at D -/
def LCr (J : It) (caps : List (Option Nat)) (g : TG) (tt : TT) (te : TE) (σ : St) (H1 : Hp) (Q : VK) (D : Addr) : Prop :=
  ∃ W : Nat → Nat → List V → Hp → Prop, (∃ m, W 0 m [] (upd H1 D (.lst []))) ∧ ∀ i m ys H, W i m ys H →
    (J.stop i H ∧ Q (.ref D) H) ∨
    (J.go i H ∧ ∀ x H', J.yld i H x H' → g x (capS caps σ) H' fun σ2 H2 => tt σ2 H2 fun ok H3 =>
      (ok = true → te σ2 H3 fun v H4 => H4 D = some (.lst ys) ∧ ys.length < sizeLine ∧ ∃ m', m' < m ∧ W (i + 1) m' (ys ++ [v]) (upd H4 D (.lst (ys ++ [v])))) ∧
      (ok = false → ∃ m', m' < m ∧ W (i + 1) m' ys H3))
def tLC (wi : TI) (caps : List (Option Nat)) (g : TG) (tt : TT) (te : TE) : TE := fun σ H Q => wi σ H fun J H1 => ∀ D, H1 D = none → LCr J caps g tt te σ H1 Q D
section
variable {X : Cx} {pins : List (Addr × Obj)} {σ : St} {s : Shared} {sc : Scope} {fr Nc : List Str} {caps : List (Option Nat)} {elt tg iter : Expr} {ifs : List Expr} {g : TG} {tt : TT} {te : TE} {ow : List Nat} {pos pos2 : Pos} {E : Value → Shared → Prop}
theorem comp_run {H2 : Hp} {it : Addr} {fp : List Addr} {tn : Nat → Heap → Prop} {J : It} {Q : VK} {RR : Value → Addr → Result → Shared → Prop}
    (hc : X.calm = true) (B : BlockOk X.env sc fr) (go : GOwn g ow) (how : (ow.all fun i => caps[i]? == some none) = true) (hcap : capChk X.N Nc caps X.env sc fr = true) (hlen : caps.length = Nc.length)
    (hb : ∀ (pins : List (Addr × Obj)) (fp : List Addr) (s : Shared) (H : Hp) (C : Addr), PG (compCx X pins sc fr Nc fp s H C) tg g ∧ PIf (compCx X pins sc fr Nc fp s H C) ifs tt ∧ PE (compCx X pins sc fr Nc fp s H C) elt te)
    (I2 : Inv X pins σ H2 s) (T : Turn X.prog X.w X.K tg J fp it tn) (st2 : tn 0 s.heap) (f2 : ∀ b ∈ fp, FpOk X pins H2 b) (h : ∀ D, H2 D = none → LCr J caps g tt te σ H2 Q D)
    (fin : ∀ (D C : Addr) (σ' : St) (H' : Hp) (s' : Shared), Inv (compCx X pins sc fr Nc fp s H2 C) [] σ' H' s' → Q (.ref D) H' → RR (.ref D) C (.ok .next) s') :
    wpAny (model X.prog X.w) X.A (newList []) (fun acc s₃ => wpAny (model X.prog X.w) X.A (newFunctionEnv sc X.env.globals (clB X.env fr) [] X.env.qual none .none (some X.env)) (fun cenv s₄ =>
      codeAny (model X.prog X.w) X.A (.compStart (.ListComp elt [⟨tg, iter, ifs, 0⟩] sc pos) 0 (.ref it) acc { cenv with scope := relabel sc X.env }) (RR acc cenv.locals) s₄) E s₃) E s := by
  have hcell : ∀ y ∈ sc.names, y.2 ≠ .cell := fun y hy => by
    have h3 := List.all_eq_true.mp B.names _ hy
    simp only [Bool.and_eq_true, bne_iff_ne, ne_eq] at h3
    exact h3.1.1
  refine wpAny_newObj_type (wpAny_newFunctionEnv hcell (by intro y hy; simp at hy) (fun h₁ hns₁ hsb₁ => ?_) B.kind)
  dsimp only at hns₁ hsb₁ ⊢
  generalize hH2 : s.heap.push { cls := .type "list", dict := none, data := .seq ([] : List Value).toArray } = H3 at hns₁ hsb₁ ⊢
  have hCs : H3.objs.size = s.heap.objs.size + 1 := by rw [← hH2, Heap.size_push]
  have hDC : s.heap.objs.size ≠ H3.objs.size := by rw [hCs]; exact Nat.ne_of_lt (Nat.lt_succ_self _)
  have hC : s.heap.objs.size ≤ H3.objs.size := by rw [hCs]; exact Nat.le_succ _
  have old : ∀ b o, s.heap.get? b = some o → h₁.get? b = some o := fun b o e =>
    hsb₁.extBut b o (Nat.ne_of_lt (Nat.lt_of_lt_of_le (Heap.lt_size e) hC)) (Heap.get?_push_of_some _ (hH2 ▸ Heap.get?_push_of_some _ e))
  have hD : h₁.get? s.heap.objs.size = some { cls := .type "list", data := .seq ([] : List Value).toArray } := hsb₁.extBut _ _ hDC (Heap.get?_push_of_some _ (hH2 ▸ Heap.get?_push_size _ rfl))
  have ho : ∀ b ∈ fp, ∃ o, s.heap.get? b = some o := fun b hb' => let ⟨o, e, _⟩ := T.obj 0 _ st2 b hb'; ⟨o, e⟩
  have I4 : ∀ t', Inv (compCx X pins sc fr Nc fp s H2 H3.objs.size) [] (capS caps σ) (upd H2 s.heap.objs.size (.lst [])) { s with heap := h₁, toks := t' } := fun t' =>
    comp_start I2 B f2 ho hC (Nat.le_refl _) hDC old hD hns₁ hcap hlen
  have ok := (I4 0).ok
  obtain ⟨hbg, hbt, hbe⟩ := hb pins fp s H2 H3.objs.size
  obtain ⟨W, ⟨m0, w0⟩, turn⟩ := h s.heap.objs.size (I2.hok.fresh (Nat.le_refl _))
  have stat : ∀ {H' : Hp}, (∀ b ∈ fp, H' b = none) → ∀ b ∈ fp, FpOk (compCx X pins sc fr Nc fp s H2 H3.objs.size) [] H' b := fun hn b hb' =>
    ⟨hn b hb', (ok.exf b hb').1, ok.exfs b hb', .inl hb', (ok.exf b hb').2, fun p hp => (f2 b hb').2.2.2.2.2 p (by simpa using hp)⟩
  have hfp0 : ∀ b ∈ fp, upd H2 s.heap.objs.size (.lst []) b = none := fun b hb' => by
    obtain ⟨o, e⟩ := ho b hb'
    rw [upd_ne (Nat.ne_of_lt (Heap.lt_size e))]
    exact (f2 b hb').1
  have loop : ∀ s₃ : Shared, s₃ = { s with heap := h₁, toks := s.toks + ([] : List (Str × Value)).length } →
      codeAny (model X.prog X.w) X.A (.compLoop (.ListComp elt [⟨tg, iter, ifs, 0⟩] sc pos) 0 (.ref it) (.ref s.heap.objs.size) (compEnvC sc (clB X.env fr) H3.objs.size X.env)) (RR (.ref s.heap.objs.size) H3.objs.size) s₃ := by
    rintro s₃ rfl
    refine compLoop_any (fun n s' => ∃ i σ' H' ys, Inv (compCx X pins sc fr Nc fp s H2 H3.objs.size) [] σ' H' s' ∧ tn i s'.heap ∧ (∀ b ∈ fp, H' b = none) ∧ W i n ys H' ∧
      (∀ (k : Nat) (v : V), (capS caps σ)[k]? = some (some v) → σ'[k]? = some (some v))) ?_ m0
      ⟨0, _, _, [], I4 _, T.keep _ _ _ st2 (fun b _ o e => old b o e), hfp0, w0, fun _ _ e => e⟩
    rintro n s3 ⟨i, σ3, H4, ys, I3, st3, fr3, w3, wk3⟩
    have I3' : Inv (compCx X pins sc fr Nc fp s H2 H3.objs.size) [] (capS caps σ) H4 s3 := I3.weak (by rw [I3.len]; exact (I4 0).len) wk3
    rcases turn i n ys H4 w3 with ⟨stop, qn⟩ | ⟨gg, step⟩
    · refine thn (T.done (compCx X pins sc fr Nc fp s H2 H3.objs.size) rfl rfl rfl hc i [] s3 _ H4 (fun _ _ => False) I3' (stat fr3) st3 stop) fun r s4 ⟨hr, I4'⟩ => ?_
      subst hr
      exact fin _ _ _ _ _ I4' qn
    · refine thn (T.item (compCx X pins sc fr Nc fp s H2 H3.objs.size) rfl rfl rfl hc i [] s3 _ H4 (fun _ _ => False) I3' (stat fr3) st3 gg) fun r s4 ⟨u, hr, h4⟩ => ?_
      subst hr
      refine thn h4 fun _ s5 ⟨x, H5, I5, r5, y5, st5, fr5⟩ => ?_
      have I5' := I5.pinned (stat fr5) (T.obj _ _ st5)
      refine thn (hbg _ s5 _ H5 x u _ I5' r5 (go _ _ _ _ (step x H5 y5))) fun _ s6 ⟨σ6, H6, I6, q6, l6, k6⟩ => ?_
      have wk6 : ∀ (k : Nat) (v : V), (capS caps σ)[k]? = some (some v) → σ6[k]? = some (some v) := fun k v e => by
        rw [k6 k fun hk => ?_]
        · exact e
        · have h1 := List.all_eq_true.mp how k hk
          have h2 : caps[k]? = some none := by simpa using h1
          unfold capS at e
          rw [List.getElem?_map, h2] at e
          cases e
      refine thn (hbt _ s6 σ6 H6 _ I6 q6) fun ok s7 ⟨H7, I7, q7⟩ => ?_
      have again : ∀ {H8 : Hp} {s8 : Shared} {ys' : List V}, Inv (compCx X pins sc fr Nc fp s H2 H3.objs.size) ([] ++ pinsAt fp s5.heap) σ6 H8 s8 → (∃ m', m' < n ∧ W (i + 1) m' ys' H8) →
          ∃ m, m < n ∧ ∃ i σ' H' ys, Inv (compCx X pins sc fr Nc fp s H2 H3.objs.size) [] σ' H' s8 ∧ tn i s8.heap ∧ (∀ b ∈ fp, H' b = none) ∧ W i m ys H' ∧ (∀ (k : Nat) (v : V), (capS caps σ)[k]? = some (some v) → σ'[k]? = some (some v)) := fun {H8 s8 ys'} I8 ⟨m', hm, w8⟩ => by
        refine ⟨m', hm, i + 1, σ6, H8, ys', I8.unpinned, T.keep _ _ _ st5 fun b hb' o e => (I8.pin (b, o) (List.mem_append_right _ (List.mem_append_right _ (mem_pinsAt hb' e)))).1, fun b hb' => ?_, w8, wk6⟩
        obtain ⟨o, e, d⟩ := T.obj _ _ st5 b hb'
        exact (I8.pin (b, o) (List.mem_append_right _ (List.mem_append_right _ (mem_pinsAt hb' e)))).2.1
      cases ok with
      | false =>
        rw [if_neg Bool.false_ne_true]
        exact again I7 (q7.2 rfl)
      | true =>
        rw [if_pos rfl]
        refine thn (hbe _ s7 σ6 H7 _ I7 (q7.1 rfl)) fun uv s8 ⟨v, H8, I8, r8, hD8, hz, q8⟩ => ?_
        refine thn (mt_append (X := compCx X pins sc fr Nc fp s H2 H3.objs.size) _ s8 σ6 H8 (.ref s.heap.objs.size) [v] _ [uv] (fun _ H' => H' = upd H8 s.heap.objs.size (.lst (ys ++ [v]))) I8 rfl (.cons r8 .nil) ⟨_, ys, v, rfl, rfl, hD8, hz, rfl⟩) fun _ s9 ⟨_, H9, I9, _, e9⟩ => ?_
        subst e9
        exact again I9 q8
  exact codeAny_compStart_list (loop _ rfl) (T.self _ 0 _ _ _ (T.keep _ _ _ st2 (fun b _ o e => old b o e)) (loop _ rfl))
theorem BlockOk.loc {env : Env} (B : BlockOk env sc fr) : ∀ x ∈ sc.names, x.2 = .local → sc.names.lookup x.1 = some .local := fun y hy e => by
  have h3 := List.all_eq_true.mp B.names _ hy
  simp only [Bool.and_eq_true, Bool.or_eq_true, bne_iff_ne, ne_eq, beq_iff_eq] at h3
  rcases h3.2 with z | z
  · exact absurd e z
  · exact z
theorem pe_lc {wi : TI} (fr Nc : List Str) (caps : List (Option Nat)) (hc : X.calm = true) (B : BlockOk X.env sc fr) (hi : PI X tg iter wi) (go : GOwn g ow) (how : (ow.all fun i => caps[i]? == some none) = true)
    (hcap : capChk X.N Nc caps X.env sc fr = true) (hlen : caps.length = Nc.length)
    (hb : ∀ (pins : List (Addr × Obj)) (fp : List Addr) (s : Shared) (H : Hp) (C : Addr), PG (compCx X pins sc fr Nc fp s H C) tg g ∧ PIf (compCx X pins sc fr Nc fp s H C) ifs tt ∧ PE (compCx X pins sc fr Nc fp s H C) elt te)
    (hs : ∀ x, foldedSetIterable iter X.env x = pure x := by intro _; rfl) : PE X (.ListComp elt [⟨tg, iter, ifs, 0⟩] sc pos) (tLC wi caps g tt te) := by
  refine ⟨?_⟩
  intro pins s σ H Q I h
  rw [eval_ListComp]
  refine wpAny_comprehension_free (use := none) rfl hs B.clos B.kind B.loc (thn (hi pins s σ H _ I h) fun v s1 h1 => thn h1 fun itv s2 h2 => ?_)
  obtain ⟨it, fp, tn, J, H2, e, I2, T, st2, f2, q⟩ := h2
  subst e
  refine comp_run (RR := fun acc C => compPost (model X.prog X.w) X.A X.xe none (EP X pins σ Q) acc C) hc B go how hcap hlen hb I2 T st2 f2 q ?_
  intro D C σ' H' s' J' qq
  obtain ⟨m, hn, _⟩ := J'.loc
  exact ⟨m, hn, fun h' hs' => ⟨.ref D, H', comp_gone I2 J' (comp_back I2 f2 J') hs', rfl, qq⟩⟩
/-- x = [..] on one row: the store comes ahead of the block's end -/
theorem ps_lc {wi : TI} {i : Nat} {x : Str} {pos' : Pos} (fr Nc : List Str) (caps : List (Option Nat)) (hN : X.N.Nodup) (hix : X.N[i]? = some x) (hx : Loc X.env.scope x) (hc : X.calm = true) (B : BlockOk X.env sc fr) (hi : PI X tg iter wi) (go : GOwn g ow) (how : (ow.all fun i => caps[i]? == some none) = true)
    (hcap : capChk X.N Nc caps X.env sc fr = true) (hlen : caps.length = Nc.length)
    (hb : ∀ (pins : List (Addr × Obj)) (fp : List Addr) (s : Shared) (H : Hp) (C : Addr), PG (compCx X pins sc fr Nc fp s H C) tg g ∧ PIf (compCx X pins sc fr Nc fp s H C) ifs tt ∧ PE (compCx X pins sc fr Nc fp s H C) elt te)
    (hsw : swapsWith (.ListComp elt [⟨tg, iter, ifs, 0⟩] sc pos) (some (.Name x pos')) pos2.line X.env = pure true := by rfl)
    (hs : ∀ x, foldedSetIterable iter X.env x = pure x := by intro _; rfl) (hf : X.fn x = true ∨ X.env.scope.names.lookup x = some .local := by first | exact .inl rfl | exact .inr rfl | assumption) :
    PS X (.Assign [.Name x pos'] (.ListComp elt [⟨tg, iter, ifs, 0⟩] sc pos) pos2) (tAsg (tLC wi caps g tt te) (gName i)) := by
  refine ⟨?_⟩
  intro pins s σ H D0 I h
  rw [exec_Assign_Name_used _ _ _ _ hsw]
  refine wpAny_bind (wpAny_standAt (wpAny_bind ?_))
  show wpAny _ X.A (do let _ ← comprehension (.ListComp elt [⟨tg, iter, ifs, 0⟩] sc pos) sc X.env _ (newList []) false (eval iter X.env) (some (assign (.Name x pos') X.env))) _ _ s
  refine wpAny_bind (wpAny_mono (wpAny_comprehension_free (use := some (assign (.Name x pos') X.env)) (Q := fun _ s' => SP X pins D0 .next s') rfl hs B.clos B.kind B.loc
    (thn (hi pins s σ H _ I h) fun v s1 h1 => thn h1 fun itv s2 h2 => ?_)) (fun _ s' hq => wpAny_pure (wpAny_pure hq)) fun _ _ e => e)
  obtain ⟨it, fp, tn, J, H2, e, I2, T, st2, f2, q⟩ := h2
  subst e
  refine comp_run (Q := fun v H1 => gName i v σ H1 D0.nx) (RR := fun acc C => compPost (model X.prog X.w) X.A X.xe (some (assign (.Name x pos') X.env)) (fun _ s' => SP X pins D0 .next s') acc C) hc B go how hcap hlen hb I2 T st2 f2 q ?_
  intro D C σ' H' s' J' qq
  have I' := comp_back I2 f2 J'
  obtain ⟨m, hn, _⟩ := J'.loc
  have hC : s2.heap.objs.size ≤ C := J'.ok.above
  show wpAny _ X.A (assign (.Name x pos') X.env (.ref D)) _ _ s'
  refine wpAny_assign_Name (store_ok2 (v := .ref D) I' hN hix hx rfl (fun s'' I'' ⟨a, sb, ha⟩ => ?_) hf)
  have haC : C ≠ a := by
    rintro rfl
    rcases ha with z | z
    · have := I2.lt
      rw [← z] at this
      exact absurd (Nat.lt_of_lt_of_le this hC) (Nat.lt_irrefl _)
    · obtain ⟨v, hv⟩ := I2.cell x C z
      exact absurd (Nat.lt_of_lt_of_le hv.lt hC) (Nat.lt_irrefl _)
  have hCH : H' C = none := J'.free
  refine ⟨m, hn.sameBut sb haC, fun h' hs' => ⟨_, H', ?_, qq⟩⟩
  refine I''.turned (it := C) (t' := s''.toks) (fun b o hb e => (hs'.2 b hb).trans e) hCH ?_ (.inr (Nat.le_trans I2.sz hC)) (fun x c h z => ?_) fun p hp z => ?_
  · intro z
    have := I2.lt
    rw [← z] at this
    exact absurd (Nat.lt_of_lt_of_le this hC) (Nat.lt_irrefl _)
  · obtain ⟨v, hv⟩ := I2.cell x c h
    have := hv.lt
    rw [z] at this
    exact absurd (Nat.lt_of_lt_of_le this hC) (Nat.lt_irrefl _)
  · have := I2.pin_lt hp
    rw [z] at this
    exact absurd (Nat.lt_of_lt_of_le this hC) (Nat.lt_irrefl _)
end
end L2

set_option Elab.async false
set_option linter.all false
set_option maxRecDepth 100000
set_option maxHeartbeats 4000000
namespace L2
open PySem PySem.Spec PyProof.Rows

/-! ### the signs of a text -/
def Its (z : Str) : It := ⟨fun i _ => i < z.cps.size, fun i H x H' => H' = H ∧ ∃ c, z.cps[i]? = some c ∧ x = .str ⟨#[c]⟩, fun i _ => z.cps.size ≤ i⟩
theorem turn_str {P : Program} {w : World} {K : PySem.W.Frag} {tg : Expr} (it : Addr) (z : Str) (t : Tok) : Turn P w K tg (Its z) [it] it (fun i h => h.IsStrIter it (strIterType z) z t i) where
  mem := by simp
  obj := fun i h st b hb => by
    have e : b = it := by simpa using hb
    subst e
    obtain ⟨o, e, _, d⟩ := st
    exact ⟨o, e, fun v q => by rw [d] at q; cases q⟩
  keep := fun i h h' st k => by
    obtain ⟨o, e, r⟩ := st
    exact ⟨o, k it (by simp) o e, r⟩
  item := by
    intro X hP hw hK hc i pins s σ H E I hf st hg
    subst hP hw hK
    obtain ⟨f0, f1, f2, f3, f4, f5⟩ := hf it (by simp)
    have hi : i < z.cps.size := hg
    have hx : z.cps[i]? = some z.cps[i] := by simp [hi]
    have fin : ∀ h', h'.IsStrIter it (strIterType z) z t (i + 1) → Heap.SameBut it s.heap h' →
        ∃ u, some (Value.str ⟨#[z.cps[i]]⟩ s.toks) = some u ∧ wpAny (model X.prog X.w) X.A (letOwnedTupleGo tg (.ref it) u) (fun _ s2 => ∃ x H', Inv X pins σ H' s2 ∧ RelV x u ∧ (Its z).yld i H x H' ∧ s2.heap.IsStrIter it (strIterType z) z t (i + 1) ∧ ∀ b ∈ [it], H' b = none) E { s with heap := h', toks := s.toks + 1 } := fun h' hit hs => by
      have I1 : Inv X pins σ H { s with heap := h', toks := s.toks + 1 } := I.turned (fun b o hb e => (hs.2 b hb).trans e) f0 f1 f3 f4 f5
      obtain ⟨o, e1, e2, e3⟩ := id hit
      refine ⟨_, rfl, go_of (s := { s with heap := h', toks := s.toks + 1 }) e1 e2 e3 ?_ ⟨.str ⟨#[z.cps[i]]⟩, H, I1, ⟨_, rfl⟩, ⟨rfl, _, hx, rfl⟩, hit, fun b hb => (hf b hb).1⟩⟩
      unfold strIterType
      split <;> decide
    cases ha : z.cps.all (· < 128)
    · have e : strIterType z = "str_iterator" := by simp [strIterType, ha]
      rw [e] at st
      exact wpAny_pyNext_wide_item st hx fun h' a b => fin h' (e.symm ▸ a) b
    · have e : strIterType z = "str_ascii_iterator" := by simp [strIterType, ha]
      rw [e] at st
      exact wpAny_pyNext_ascii_item st hx fun h' a b => fin h' (e.symm ▸ a) b
  done := by
    intro X hP hw hK hc i pins s σ H E I hf st hg
    subst hP hw hK
    obtain ⟨f0, f1, f2, f3, f4, f5⟩ := hf it (by simp)
    have hi : z.cps.size ≤ i := hg
    have hx : z.cps[i]? = none := by simp [hi]
    have fin : ∀ h', Heap.ExtBut it s.heap h' → (none : Option Value) = none ∧ Inv X pins σ H { s with heap := h' } := fun h' eb => ⟨rfl, I.turned (t' := s.toks) (fun b o hb e => eb b o hb e) f0 f1 f3 f4 f5⟩
    cases ha : z.cps.all (· < 128)
    · have e : strIterType z = "str_iterator" := by simp [strIterType, ha]
      rw [e] at st
      exact wpAny_pyNext_wide_end (I.ok.hd hc) st hx fin
    · have e : strIterType z = "str_ascii_iterator" := by simp [strIterType, ha]
      rw [e] at st
      exact wpAny_pyNext_ascii_end (I.ok.hd hc) st hx fin
  self := fun A i s Q E st h => by
    cases ha : z.cps.all (· < 128)
    · have e : strIterType z = "str_iterator" := by simp [strIterType, ha]
      rw [e] at st
      exact wpAny_pyIter_striter_wide st h
    · have e : strIterType z = "str_ascii_iterator" := by simp [strIterType, ha]
      rw [e] at st
      exact wpAny_pyIter_striter_ascii st h
section
variable {X : Cx} {tg : Expr}
def iStr (tl : TE) : TI := fun σ H R => tl σ H fun x H1 => ∃ z, x = .str z ∧ R (Its z) H1
theorem pi_str {l : Expr} {tl : TE} (hl : PE X l tl) : PI X tg l (iStr tl) := by
  refine ⟨?_⟩
  intro pins s σ H R I h
  refine thn (hl pins s σ H _ I h) fun v s1 ⟨x, H1, I1, r1, q1⟩ => ?_
  obtain ⟨z, e, q⟩ := q1
  subst e
  obtain ⟨t, rfl⟩ := r1
  refine wpAny_pyIter_strU ?_
  refine ⟨s1.heap.objs.size, [s1.heap.objs.size], _, _, H1, rfl, I1.kept (t' := s1.toks) fun b o e => Heap.get?_push_of_some _ e, turn_str _ z t, ⟨_, Heap.get?_push_size _ rfl, rfl, rfl⟩, fun b hb => ?_, q⟩
  have e : b = s1.heap.objs.size := by simpa using hb
  subst e
  exact I1.fpOk (Nat.le_refl _) (I1.hok.fresh (Nat.le_refl _))

/-! ### t[lo:hi] of a text -/
/-! ### all(xs), a list of bools -/
theorem call_allB (hc : X.calm = true) : CallR X (.builtin "all") (fun xs H Q => ∃ (p : Addr) (bs : List Bool), xs = [.ref p] ∧ SqL X.K H p (bs.map V.bl) ∧ Q (.bl (bs.all id)) H) := by
  intro pins s σ H xs us Q I r h
  obtain ⟨p, bs, rfl, hS, q⟩ := h
  obtain ⟨u, rfl, ru⟩ := vals1 r
  cases ru
  obtain ⟨its, rv, hp, hz⟩ := I.list hS
  have hlen : its.length = bs.length := by rw [← rv.length, List.length_map]
  have hne : p ≠ s.heap.objs.size := Nat.ne_of_lt (by obtain ⟨_, e, _⟩ := hp.isList; exact Heap.lt_size e)
  refine call_all_walk (wpAny_pyIter_list hp.isList ?_)
  refine ⟨s.heap.objs.size, _, _, _, _, _, fun i => bs.getD i false, rfl, Walks.list (A := X.A.in1) (I.ok.hd hc) s.heap.objs.size p hne its.toArray, ⟨⟨_, Heap.get?_push_size _ rfl, rfl, rfl⟩, hp.isList.push _⟩, ?_, fun h' tk k => ?_⟩
  · intro i v s' Q' E' hP hQ
    have hv : its[i]? = some v := by simpa using hP
    have hi : i < bs.length := by rw [← hlen]; exact (List.getElem?_eq_some_iff.mp hv).1
    obtain ⟨u', e1, e2⟩ := rv.get (i := i) (x := V.bl bs[i]) (by rw [List.getElem?_map, List.getElem?_eq_getElem hi]; rfl)
    rw [hv] at e1
    cases e1
    cases e2
    refine wpAny_truthy_bool ?_
    have : bs.getD i false = bs[i] := by rw [List.getD_eq_getElem?_getD, List.getElem?_eq_getElem hi]; rfl
    rw [← this]
    exact hQ
  · have e : ((List.range its.toArray.size).all fun i => bs.getD i false) = bs.all id := by
      rw [List.size_toArray, hlen, Bool.eq_iff_iff, List.all_eq_true, List.all_eq_true]
      constructor
      · intro hh b hb
        obtain ⟨i, hi, rfl⟩ := List.getElem_of_mem hb
        have := hh i (List.mem_range.mpr hi)
        rw [List.getD_eq_getElem?_getD, List.getElem?_eq_getElem hi] at this
        exact this
      · intro hh i hi
        have hi' := List.mem_range.mp hi
        rw [List.getD_eq_getElem?_getD, List.getElem?_eq_getElem hi']
        exact hh _ (List.getElem_mem hi')
    rw [e]
    exact ⟨.bl (bs.all id), H, I.kept (h' := h') (t' := tk) (fun b o q => k b o (fun hm => by
      have e : b = s.heap.objs.size := by simpa using hm
      exact absurd (Heap.lt_size q) (by rw [e]; exact Nat.lt_irrefl _)) (Heap.get?_push_of_some _ q)), rfl, q⟩

/-! ### str.upper -/
/-! ### is, is not a written truth -/
/-! ### isinstance(x, T) -/
theorem call_isinst : CallR X (.builtin "isinstance") (fun xs H Q => ∃ x T t b, xs = [x, .ty T] ∧ TyOf X.K H x t ∧ PySem.W.kitOne X.K t (.type T) = some b ∧ Q (.bl b) H) := by
  intro pins s σ H xs us Q I r h
  obtain ⟨x, T, t, b, rfl, ty, e, q⟩ := h
  obtain ⟨u, w', rfl, ru, rw'⟩ := vals2 r
  cases rw'
  exact isinst_ok I ru ty e fun tk => ⟨.bl b, H, I.tok tk, rfl, q⟩
end
end L2

set_option Elab.async false
set_option linter.all false
set_option maxRecDepth 100000
set_option maxHeartbeats 4000000
namespace L2
open PySem PySem.Spec PyProof.Rows

/-! ### argument lists without stars, by their heads alone -/
def isSt : Expr → Bool
  | .Starred .. => true
  | _ => false
theorem star_cons {e : Expr} {es : List Expr} {env : Env} (h : isSt e = false) : starEach (e :: es) env = (false, eval e env) :: starEach es env := by
  cases e <;> first | rfl | cases h
theorem star_any {env : Env} {pos : Pos} : ∀ {es : List Expr}, es.any isSt = false → (backTo pos (starEach es env)).any (·.1) = false
  | [], _ => rfl
  | e :: es, h => by
    rw [List.any_cons, Bool.or_eq_false_iff] at h
    rw [star_cons h.1]
    show (false || (backTo pos (starEach es env)).any (·.1)) = false
    rw [star_any h.2]
    rfl
section
variable {X : Cx} {CX : CXT} {k : Nat} {f C : Addr} {fd : FuncData} {ps : List Str} {sp : Sp} {dvs : List V} {ds : List Value} {E : XK} {x m : Str} {p pos apos : Pos} {e o : Expr} {es : List Expr} {te ta : TE} {t : TA} {id T : String} {r : List V → Hp → VK → Prop}
theorem ac (ha : PE X e te) (hr : PA X es t) (h : isSt e = false := by rfl) : PA X (e :: es) (tCons te t) := pa_cons ha hr (star_cons h)
theorem cB (hc : CallR X (.builtin id) r) (hm : X.mg x = none) (hv : bootBuiltins x = some (.builtin id)) (ha : PA X (e :: es) t) (hg : Gl X x := by rfl) (hn : x ≠ "__name__" := by decide) (hdb : (x == ("__debug__" : Str)) = false := by decide)
    (h1 : isSt e = false := by rfl) (h2 : es.any isSt = false := by rfl) : PE X (.Call (.Name x p) (e :: es) [] pos) (tCB r t) := pe_callB hc hg hm hv ha hn hdb (star_cons h1) (star_any h2)
theorem cTy (hc : CallR X (.type T) r) (hm : X.mg x = none) (hv : bootBuiltins x = some (.type T)) (ha : PA X (e :: es) t) (hg : Gl X x := by rfl) (hn : x ≠ "__name__" := by decide) (hdb : (x == ("__debug__" : Str)) = false := by decide)
    (h1 : isSt e = false := by rfl) (h2 : es.any isSt = false := by rfl) : PE X (.Call (.Name x p) (e :: es) [] pos) (tCB r t) := pe_callTy hc hg hm hv ha hn hdb (star_cons h1) (star_any h2)
/-- a def of the text as callers have it -/
structure Callee (P : Program) (w : World) (K : PySem.W.Frag) (mg : Str → Option Value) (base : Heap) (k : Nat) (x : Str) (f : Addr) (fd : FuncData) (ps : List Str) (sp : Sp) : Prop where
  ok : FnOk P w K mg base CX0 k f fd ps sp
  mg : mg x = some (.ref f)
  kp : PySem.W.keepIn K (.ref f) = true
  bd : Binds K fd ps []
theorem cF (c : Callee X.prog X.w X.K X.mg X.base k x f fd ps sp) (hr : Room k X.A) (ha : PA X (e :: es) t) (hg : Gl X x := by rfl) (hdb : (x == ("__debug__" : Str)) = false := by decide)
    (h1 : isSt e = false := by rfl) (h2 : es.any isSt = false := by rfl) : PE X (.Call (.Name x p) (e :: es) [] pos) (tCall sp [] E0 t) :=
  pe_call c.ok hr hg c.mg c.kp c.bd .nil pass0 ha hdb (star_cons h1) (star_any h2)
end
end L2

set_option maxRecDepth 100000
set_option maxHeartbeats 4000000
namespace L2
open PySem PyProof.Rows
/-! ### isinstance of built-in kinds -/
theorem kt_NoneType_str (K : PySem.W.Frag) : PySem.W.kitOne K (.type "NoneType") (.type "str") = some false := by kernel_rfl
theorem kt_int_str (K : PySem.W.Frag) : PySem.W.kitOne K (.type "int") (.type "str") = some false := by kernel_rfl
theorem kt_bool_str (K : PySem.W.Frag) : PySem.W.kitOne K (.type "bool") (.type "str") = some false := by kernel_rfl
theorem kt_bool_bool (K : PySem.W.Frag) : PySem.W.kitOne K (.type "bool") (.type "bool") = some true := by kernel_rfl
theorem kt_str_str (K : PySem.W.Frag) : PySem.W.kitOne K (.type "str") (.type "str") = some true := by kernel_rfl
theorem kt_list_str (K : PySem.W.Frag) : PySem.W.kitOne K (.type "list") (.type "str") = some false := by kernel_rfl
theorem kt_tuple_str (K : PySem.W.Frag) : PySem.W.kitOne K (.type "tuple") (.type "str") = some false := by kernel_rfl
theorem kt_dict_str (K : PySem.W.Frag) : PySem.W.kitOne K (.type "dict") (.type "str") = some false := by kernel_rfl
end L2

set_option Elab.async false
set_option linter.all false
set_option maxRecDepth 100000
set_option maxHeartbeats 4000000
namespace L2
open PySem PySem.Spec PyProof.Rows

/-! ### data: what a value says, lists and tuples within -/
inductive Dt where
  | non | bl (b : Bool) | int (i : Int) | str (z : Str) | tup (ds : List Dt) | lst (ds : List Dt)
def FlatD : V → Dt → Prop
  | .non, .non => True
  | .bl a, .bl b => a = b
  | .int a, .int b => a = b
  | .str a, .str b => a = b
  | _, _ => False
/-- at most n deep; the lists within stand at addresses that are ok -/
def Says (K : PySem.W.Frag) (ok : Addr → Prop) (H : Hp) : Nat → V → Dt → Prop
  | 0, x, d => FlatD x d
  | n + 1, x, d => FlatD x d ∨ (∃ a xs ds, x = .ref a ∧ d = .tup ds ∧ SqT K H a xs ∧ Paired (Says K ok H n) xs ds) ∨ (∃ a xs ds, x = .ref a ∧ d = .lst ds ∧ ok a ∧ H a = some (.lst xs) ∧ Paired (Says K ok H n) xs ds)
section
variable {K : PySem.W.Frag} {ok ok' : Addr → Prop} {H H' : Hp}
theorem Says.flat {n : Nat} {x : V} {d : Dt} (h : FlatD x d) : Says K ok H n x d := by
  cases n with
  | zero => exact h
  | succ n => exact .inl h
theorem Says.int {n : Nat} {i : Int} : Says K ok H n (.int i) (.int i) := .flat rfl
theorem Says.str {n : Nat} {z : Str} : Says K ok H n (.str z) (.str z) := .flat rfl
theorem Says.tup {n : Nat} {a : Addr} {xs : List V} {ds : List Dt} (h : SqT K H a xs) (r : Paired (Says K ok H n) xs ds) : Says K ok H (n + 1) (.ref a) (.tup ds) := .inr (.inl ⟨a, xs, ds, rfl, rfl, h, r⟩)
theorem Says.lst {n : Nat} {a : Addr} {xs : List V} {ds : List Dt} (o : ok a) (h : H a = some (.lst xs)) (r : Paired (Says K ok H n) xs ds) : Says K ok H (n + 1) (.ref a) (.lst ds) := .inr (.inr ⟨a, xs, ds, rfl, rfl, o, h, r⟩)
/-- what is kept stays said -/
theorem Says.frame (hT : ∀ a xs, SqT K H a xs → SqT K H' a xs) (hL : ∀ a xs, ok a → H a = some (.lst xs) → ok' a ∧ H' a = some (.lst xs)) : ∀ {n : Nat} {x : V} {d : Dt}, Says K ok H n x d → Says K ok' H' n x d
  | 0, _, _, h => h
  | n + 1, x, d, h => by
    rcases h with h | ⟨a, xs, ds, e1, e2, h, r⟩ | ⟨a, xs, ds, e1, e2, o, h, r⟩
    · exact .inl h
    · exact .inr (.inl ⟨a, xs, ds, e1, e2, hT a xs h, Paired.imp' (fun _ _ z => Says.frame hT hL z) r⟩)
    · exact .inr (.inr ⟨a, xs, ds, e1, e2, (hL a xs o h).1, (hL a xs o h).2, Paired.imp' (fun _ _ z => Says.frame hT hL z) r⟩)
theorem Says.up : ∀ {n : Nat} {x : V} {d : Dt}, Says K ok H n x d → Says K ok H (n + 1) x d
  | 0, _, _, h => .inl h
  | n + 1, x, d, h => by
    rcases h with h | ⟨a, xs, ds, e1, e2, h, r⟩ | ⟨a, xs, ds, e1, e2, o, h, r⟩
    · exact .inl h
    · exact .inr (.inl ⟨a, xs, ds, e1, e2, h, Paired.imp' (fun _ _ z => Says.up z) r⟩)
    · exact .inr (.inr ⟨a, xs, ds, e1, e2, o, h, Paired.imp' (fun _ _ z => Says.up z) r⟩)
theorem Same.sqT {a : Addr} {xs : List V} (e : Same H H') (h : SqT K H a xs) : SqT K H' a xs := by
  rcases h with (h | ⟨o, h⟩) | h
  · exact .inl (.inl (e _ _ h))
  · exact .inl (.inr ⟨o, e _ _ h⟩)
  · exact .inr h
theorem Says.same {n : Nat} {x : V} {d : Dt} (e : Same H H') (h : Says K ok H n x d) : Says K ok H' n x d := h.frame (fun _ _ z => e.sqT z) fun _ _ o z => ⟨o, e _ _ z⟩
theorem Paired.get {α β : Type} {F : α → β → Prop} : ∀ {l₁ : List α} {l₂ : List β} {i : Nat} {a : α}, Paired F l₁ l₂ → l₁[i]? = some a → ∃ b, l₂[i]? = some b ∧ F a b
  | _, _, _, _, .nil, e => by simp at e
  | _, _, 0, _, .cons r _, e => by simp at e; subst e; exact ⟨_, rfl, r⟩
  | _, _, i + 1, a, .cons _ t, e => by
    obtain ⟨b, h1, h2⟩ := Paired.get (i := i) (a := a) t (by simpa using e)
    exact ⟨b, by simpa using h1, h2⟩
end
section
variable {X : Cx} {pins : List (Addr × Obj)} {σ : St} {H : Hp} {s : Shared} {ok ok' : Addr → Prop}
theorem flat_same {A : Around} {x y : V} {d : Dt} {u v : Value} (hx : FlatD x d) (hy : FlatD y d) (ru : RelV x u) (rv : RelV y v) : SeqAt.EqAt A s u v true := by
  cases d with
  | non =>
    cases x <;> try exact hx.elim
    cases y <;> try exact hy.elim
    cases ru; cases rv; exact SeqAt.EqAt.same _
  | bl b =>
    cases x <;> try exact hx.elim
    cases y <;> try exact hy.elim
    rename_i a c
    obtain rfl : a = b := hx
    obtain rfl : c = a := hy
    cases ru; cases rv; exact SeqAt.EqAt.same _
  | int b =>
    cases x <;> try exact hx.elim
    cases y <;> try exact hy.elim
    rename_i a c
    obtain rfl : a = b := hx
    obtain rfl : c = a := hy
    obtain ⟨t, rfl⟩ := ru
    obtain ⟨t', rfl⟩ := rv
    have := SeqAt.EqAt.int_int (A := A) (s := s) c t c t'
    simpa using this
  | str b =>
    cases x <;> try exact hx.elim
    cases y <;> try exact hy.elim
    rename_i a c
    obtain rfl : a = b := hx
    obtain rfl : c = a := hy
    obtain ⟨t, rfl⟩ := ru
    obtain ⟨t', rfl⟩ := rv
    have := SeqAt.EqAt.str_str (A := A) (s := s) c t c t'
    simpa using this
  | tup ds => cases x <;> exact hx.elim
  | lst ds => cases x <;> exact hx.elim
theorem flat_ref {a : Addr} {d : Dt} (h : FlatD (.ref a) d) : False := by cases d <;> exact h
theorem all_true (n : Nat) : ((List.range n).all fun _ => true) = true := by rw [List.all_eq_true]; intro _ _; rfl
/-- two values that say the same are equal -/
theorem eqAt_same (I : Inv X pins σ H s) : ∀ (n : Nat) {A : Around} {x y : V} {d : Dt} {u v : Value}, Says X.K ok H n x d → Says X.K ok' H n y d → RelV x u → RelV y v → A.units + n < cLine → SeqAt.EqAt A s u v true
  | 0, A, x, y, d, u, v, hx, hy, ru, rv, _ => flat_same hx hy ru rv
  | n + 1, A, x, y, d, u, v, hx, hy, ru, rv, hu => by
    have hin : A.in1.units + n < cLine := by show A.units + 1 + n < cLine; omega
    rcases hx with hx | ⟨a, xs, ds, rfl, rfl, hx, r⟩ | ⟨a, xs, ds, rfl, rfl, _, hx, r⟩
    · rcases hy with hy | ⟨b, ys, es, rfl, rfl, hy, q⟩ | ⟨b, ys, es, rfl, rfl, _, hy, q⟩
      · exact flat_same hx hy ru rv
      · cases x <;> exact hx.elim
      · cases x <;> exact hx.elim
    · rcases hy with hy | ⟨b, ys, es, rfl, e2, hy, q⟩ | ⟨b, ys, es, rfl, e2, _, hy, q⟩
      · cases y <;> exact hy.elim
      · cases e2
        cases ru; cases rv
        by_cases hab : a = b
        · subst hab; exact SeqAt.EqAt.same _
        · obtain ⟨ia, va, pa, _⟩ := I.tuple hx
          obtain ⟨ib, vb, pb, _⟩ := I.tuple hy
          have la : ia.length = ds.length := by rw [← va.length, r.length]
          have lb : ib.length = ds.length := by rw [← vb.length, q.length]
          have := SeqAt.RcAt.tuples (A := A) (s := s) (e := fun _ => true) (show s.heap.IsTuple a ia.toArray from pa) (show s.heap.IsTuple b ib.toArray from pb) (by omega) (fun j h1 h2 => by
            have j1 : j < ia.length := by simpa using h1
            have j2 : j < ib.length := by simpa using h2
            have hxl : j < xs.length := by rw [va.length]; exact j1
            have hyl : j < ys.length := by rw [vb.length]; exact j2
            obtain ⟨u', e1, e2⟩ := va.get (i := j) (List.getElem?_eq_getElem hxl)
            obtain ⟨v', e3, e4⟩ := vb.get (i := j) (List.getElem?_eq_getElem hyl)
            obtain ⟨d1, f1, f2⟩ := Paired.get r (List.getElem?_eq_getElem hxl)
            obtain ⟨d2, f3, f4⟩ := Paired.get q (List.getElem?_eq_getElem hyl)
            rw [f1] at f3
            cases f3
            rw [List.getElem?_eq_getElem j1] at e1
            rw [List.getElem?_eq_getElem j2] at e3
            cases e1; cases e3
            simpa using eqAt_same I n f2 f4 e2 e4 hin)
          rw [all_true] at this
          have z : (ia.toArray.size == ib.toArray.size) = true := by simp [la, lb]
          rw [z] at this
          exact SeqAt.EqAt.of_refs hab this
      · cases e2
    · rcases hy with hy | ⟨b, ys, es, rfl, e2, hy, q⟩ | ⟨b, ys, es, rfl, e2, _, hy, q⟩
      · cases y <;> exact hy.elim
      · cases e2
      · cases e2
        cases ru; cases rv
        by_cases hab : a = b
        · subst hab; exact SeqAt.EqAt.same _
        · obtain ⟨ia, va, pa, _⟩ := I.list (SqL.of hx)
          obtain ⟨ib, vb, pb, _⟩ := I.list (SqL.of hy)
          have la : ia.length = ds.length := by rw [← va.length, r.length]
          have lb : ib.length = ds.length := by rw [← vb.length, q.length]
          have := SeqAt.RcAt.lists (A := A) (s := s) (e := fun _ => true) pa.isList pb.isList (by simp [la, lb]) (by omega) (fun j h1 h2 => by
            have j1 : j < ia.length := by simpa using h1
            have j2 : j < ib.length := by simpa using h2
            have hxl : j < xs.length := by rw [va.length]; exact j1
            have hyl : j < ys.length := by rw [vb.length]; exact j2
            obtain ⟨u', e1, e2⟩ := va.get (i := j) (List.getElem?_eq_getElem hxl)
            obtain ⟨v', e3, e4⟩ := vb.get (i := j) (List.getElem?_eq_getElem hyl)
            obtain ⟨d1, f1, f2⟩ := Paired.get r (List.getElem?_eq_getElem hxl)
            obtain ⟨d2, f3, f4⟩ := Paired.get q (List.getElem?_eq_getElem hyl)
            rw [f1] at f3
            cases f3
            rw [List.getElem?_eq_getElem j1] at e1
            rw [List.getElem?_eq_getElem j2] at e3
            cases e1; cases e3
            simpa using eqAt_same I n f2 f4 e2 e4 hin)
          rw [all_true] at this
          exact SeqAt.EqAt.of_refs hab this
end
end L2

set_option Elab.async false
set_option linter.all false
set_option maxRecDepth 100000
set_option maxHeartbeats 4000000
namespace L2
open PySem PySem.Spec PyProof.Rows
/-! ### == and != of two objects that say the same -/
section
variable {X : Cx} {pins : List (Addr × Obj)} {σ : St} {H : Hp} {s : Shared} {ok ok' : Addr → Prop}
theorem rc_same (I : Inv X pins σ H s) {n : Nat} {A : Around} {a b : Addr} {d : Dt} (hx : Says X.K ok H (n + 1) (.ref a) d) (hy : Says X.K ok' H (n + 1) (.ref b) d) (hu : A.units + n + 1 < cLine) :
    SeqAt.RcAt A s (.ref a) (.ref b) true ∧ SeqAt.RcNeAt A s (.ref a) (.ref b) false := by
  have hin : A.in1.units + n < cLine := by show A.units + 1 + n < cLine; omega
  rcases hx with hx | ⟨a, xs, ds, e0, rfl, hx, r⟩ | ⟨a, xs, ds, e0, rfl, _, hx, r⟩
  · exact (flat_ref hx).elim
  · cases e0
    rcases hy with hy | ⟨b, ys, es, e1, e2, hy, q⟩ | ⟨b, ys, es, e1, e2, _, hy, q⟩
    · exact (flat_ref hy).elim
    · cases e1; cases e2
      obtain ⟨ia, va, pa, _⟩ := I.tuple hx
      obtain ⟨ib, vb, pb, _⟩ := I.tuple hy
      have la : ia.length = ds.length := by rw [← va.length, r.length]
      have lb : ib.length = ds.length := by rw [← vb.length, q.length]
      have el : ∀ j (h1 : j < ia.toArray.size) (h2 : j < ib.toArray.size), SeqAt.EqAt A.in1 s ia.toArray[j] ib.toArray[j] true := fun j h1 h2 => by
        have j1 : j < ia.length := by simpa using h1
        have j2 : j < ib.length := by simpa using h2
        have hxl : j < xs.length := by rw [va.length]; exact j1
        have hyl : j < ys.length := by rw [vb.length]; exact j2
        obtain ⟨u', e1, e2⟩ := va.get (i := j) (List.getElem?_eq_getElem hxl)
        obtain ⟨v', e3, e4⟩ := vb.get (i := j) (List.getElem?_eq_getElem hyl)
        obtain ⟨d1, f1, f2⟩ := Paired.get r (List.getElem?_eq_getElem hxl)
        obtain ⟨d2, f3, f4⟩ := Paired.get q (List.getElem?_eq_getElem hyl)
        rw [f1] at f3
        cases f3
        rw [List.getElem?_eq_getElem j1] at e1
        rw [List.getElem?_eq_getElem j2] at e3
        cases e1; cases e3
        simpa using eqAt_same I n f2 f4 e2 e4 hin
      have z : (ia.toArray.size == ib.toArray.size) = true := by simp [la, lb]
      have t1 := SeqAt.RcAt.tuples (A := A) (s := s) (e := fun _ => true) (show s.heap.IsTuple a ia.toArray from pa) (show s.heap.IsTuple b ib.toArray from pb) (by omega) el
      have t2 := SeqAt.RcNeAt.tuples (A := A) (s := s) (e := fun _ => true) (show s.heap.IsTuple a ia.toArray from pa) (show s.heap.IsTuple b ib.toArray from pb) (by omega) el
      rw [all_true, z] at t1 t2
      exact ⟨t1, t2⟩
    · cases e1; cases e2
  · cases e0
    rcases hy with hy | ⟨b, ys, es, e1, e2, hy, q⟩ | ⟨b, ys, es, e1, e2, _, hy, q⟩
    · exact (flat_ref hy).elim
    · cases e1; cases e2
    · cases e1; cases e2
      obtain ⟨ia, va, pa, _⟩ := I.list (SqL.of hx)
      obtain ⟨ib, vb, pb, _⟩ := I.list (SqL.of hy)
      have la : ia.length = ds.length := by rw [← va.length, r.length]
      have lb : ib.length = ds.length := by rw [← vb.length, q.length]
      have el : ∀ j (h1 : j < ia.toArray.size) (h2 : j < ib.toArray.size), SeqAt.EqAt A.in1 s ia.toArray[j] ib.toArray[j] true := fun j h1 h2 => by
        have j1 : j < ia.length := by simpa using h1
        have j2 : j < ib.length := by simpa using h2
        have hxl : j < xs.length := by rw [va.length]; exact j1
        have hyl : j < ys.length := by rw [vb.length]; exact j2
        obtain ⟨u', e1, e2⟩ := va.get (i := j) (List.getElem?_eq_getElem hxl)
        obtain ⟨v', e3, e4⟩ := vb.get (i := j) (List.getElem?_eq_getElem hyl)
        obtain ⟨d1, f1, f2⟩ := Paired.get r (List.getElem?_eq_getElem hxl)
        obtain ⟨d2, f3, f4⟩ := Paired.get q (List.getElem?_eq_getElem hyl)
        rw [f1] at f3
        cases f3
        rw [List.getElem?_eq_getElem j1] at e1
        rw [List.getElem?_eq_getElem j2] at e3
        cases e1; cases e3
        simpa using eqAt_same I n f2 f4 e2 e4 hin
      have t1 := SeqAt.RcAt.lists (A := A) (s := s) (e := fun _ => true) pa.isList pb.isList (by simp [la, lb]) (by omega) el
      have t2 := SeqAt.RcNeAt.lists (A := A) (s := s) (e := fun _ => true) pa.isList pb.isList (by simp [la, lb]) (by omega) el
      rw [all_true] at t1 t2
      exact ⟨t1, t2⟩
def rSame (K : PySem.W.Frag) (b : Bool) : R2 := fun x y H Q => ∃ (a c : Addr) (n : Nat) (d : Dt) (ok ok' : Addr → Prop), x = .ref a ∧ y = .ref c ∧ n ≤ 20 ∧ Says K ok H (n + 1) x d ∧ Says K ok' H (n + 1) y d ∧ Q (.bl b) H
theorem op_eqS (hu : X.A.units + 64 < cLine) : OpR X (compareOp .Eq) (rSame X.K true) := by
  intro pins s σ H x y v u Q I rx ry h
  obtain ⟨a, c, n, d, ok, ok', rfl, rfl, hn, hx, hy, q⟩ := h
  cases rx; cases ry
  exact (rc_same (A := X.A) I hx hy (by omega)).1 X.prog X.w X.xe _ ⟨.bl true, H, I, rfl, q⟩
theorem op_neS (hu : X.A.units + 64 < cLine) : OpR X (compareOp .NotEq) (rSame X.K false) := by
  intro pins s σ H x y v u Q I rx ry h
  obtain ⟨a, c, n, d, ok, ok', rfl, rfl, hn, hx, hy, q⟩ := h
  cases rx; cases ry
  exact (rc_same (A := X.A) I hx hy (by omega)).2 X.prog X.w X.xe _ ⟨.bl false, H, I, rfl, q⟩
end

/-! ### enumerate over a list -/
def Ite (K : PySem.W.Frag) (a : Addr) : It :=
  ⟨fun i H => ∃ xs x, SqL K H a xs ∧ xs[i]? = some x, fun i H x H' => ∃ (p : Addr) (y : V), x = .ref p ∧ H p = none ∧ (∀ xs, SqL K H a xs → xs[i]? = some y) ∧ H' = upd H p (.tup [.int i, y]), fun i H => ∃ xs, SqL K H a xs ∧ xs.length ≤ i⟩
theorem turn_enum {P : Program} {w : World} {K : PySem.W.Frag} {elts : List Expr} {x1 : Nat} {tpos : Pos} (a e it : Addr) (hne : e ≠ it) :
    Turn P w K (.Tuple elts x1 tpos) (Ite K a) [e, it] e (fun i h => (∃ old, IsEnum h e it (i : Int) old) ∧ h.IsListIter it a i) where
  mem := by simp
  obj := fun i h st b hb => by
    rcases List.mem_cons.mp hb with rfl | hb
    · obtain ⟨⟨old, he⟩, _⟩ := st
      exact ⟨_, he, fun v q => by cases q⟩
    · have e' : b = it := by simpa using hb
      subst e'
      obtain ⟨_, o, ho, _, hd⟩ := st
      exact ⟨o, ho, fun v q => by rw [hd] at q; cases q⟩
  keep := fun i h h' st k => by
    obtain ⟨⟨old, he⟩, o, ho, r⟩ := st
    exact ⟨⟨old, k e (by simp) _ he⟩, o, k it (by simp) o ho, r⟩
  item := by
    intro X hP hw hK hc i pins s σ H E I hf st hg
    subst hP hw hK
    obtain ⟨f0, f1, f2, f3, f4, f5⟩ := hf e (by simp)
    obtain ⟨g0, g1, g2, g3, g4, g5⟩ := hf it (by simp)
    obtain ⟨⟨old, he⟩, hit⟩ := st
    obtain ⟨xs, x, hS, hx⟩ := hg
    obtain ⟨its, rv, hp, hz⟩ := I.list hS
    obtain ⟨u, hu, ru⟩ := rv.get hx
    refine wpAny_pyNext_enum_item he hit hp.isList (x := u) (by simpa using hu) hne fun h' he' hit' htup hsz hk => ?_
    have I0 : Inv X pins σ H { s with heap := h', toks := s.toks + 1 } := by
      refine I.step (g' := s.gens) (d' := s.drawn) (ch := [e, it]) (fun b hb => ?_) (fun b o _ _ hc' e1 _ => hk b o (fun z => hc' (by simp [z])) (fun z => hc' (by simp [z])) e1) (fun b o _ _ hc' e1 _ => ⟨o.slots, hk b o (fun z => hc' (by simp [z])) (fun z => hc' (by simp [z])) e1⟩) (fun _ _ _ _ n => n)
        (fun b o hc' e1 => ⟨o, hk b o (fun z => hc' (by simp [z])) (fun z => hc' (by simp [z])) e1⟩) (fun _ _ e1 => e1) (fun _ _ _ e1 => e1) (fun b ps e1 => ⟨#[], by rw [e1]; simp⟩) (fun m hm => ?_) (fun b u' e1 => ?_) I.bare
      · rcases List.mem_cons.mp hb with rfl | hb
        · exact ⟨f3, f1, f4, f5⟩
        · have e' : b = it := by simpa using hb
          subst e'
          exact ⟨g3, g1, g4, g5⟩
      · obtain ⟨o, es, ep, ho, r⟩ := hm
        exact ⟨o, es, ep, hk _ o (Ne.symm f1) (Ne.symm g1) ho, r⟩
      · have nit : ∀ c v', H c = some v' → c ≠ e ∧ c ≠ it := fun c v' q => ⟨fun z => (by rw [z, f0] at q; cases q), fun z => (by rw [z, g0] at q; cases q)⟩
        refine (I.hok b u' e1).stay (fun c v' hc' q => ?_) (fun _ q => q) fun _ _ q => q
        rcases hc' with z | z
        · subst z; exact hk c v' (nit c _ e1).1 (nit c _ e1).2 q
        · exact hk c v' (nit c _ z).1 (nit c _ z).2 q
    have hfr : H s.heap.objs.size = none := I.hok.fresh (Nat.le_refl _)
    have I1 : Inv X pins σ (upd H s.heap.objs.size (.tup [.int i, x])) { s with heap := h', toks := s.toks + 1 } := by
      have hok : HOk X.prog X.w (upd H s.heap.objs.size (.tup [.int i, x])) h' := fun b o q => by
        by_cases hb : b = s.heap.objs.size
        · subst hb
          rw [upd_same] at q; cases q
          exact ⟨by show 2 ≤ sizeLine; decide, [.int i s.toks, u], .cons ⟨_, rfl⟩ (.cons ru .nil), ⟨_, htup, rfl, _, rfl⟩⟩
        · rw [upd_ne hb] at q
          exact (I0.hok b o q).stay (fun _ _ _ z => z) (fun c z => by rw [upd_ne (ne_of_none z hfr)]; exact z) fun c xs' z => by rw [upd_ne (ne_of_none z hfr)]; exact z
      refine I0.step (s := { s with heap := h', toks := s.toks + 1 }) (g' := s.gens) (d' := s.drawn) (h' := h') (t' := s.toks + 1) (ch := [s.heap.objs.size]) (fun b hb => ?_) (fun b o _ _ _ e1 _ => e1) (fun b o _ _ _ e1 _ => ⟨o.slots, e1⟩) (fun b o hb e1 n => by rw [upd_ne (fun z => hb (by simp [z]))]; exact n)
        (fun b o _ e1 => ⟨o, e1⟩) (fun b xs' e1 => by rw [upd_ne (ne_of_none e1 hfr)]; exact e1) (fun b o' u' e1 => by rw [upd_ne (ne_of_none e1 hfr)]; exact e1) (fun b ps e1 => ⟨#[], by rw [upd_ne (ne_of_none e1 hfr), e1]; simp⟩) (fun m hm => hm) hok I0.bare
      have e' : b = s.heap.objs.size := by simpa using hb
      subst e'
      refine ⟨.inr I.sz, fun z => ?_, fun y c h z => ?_, fun p hp' z => ?_⟩
      · have := I.lt; rw [← z] at this; exact absurd this (Nat.lt_irrefl _)
      · obtain ⟨v', hv⟩ := I.cell y c h
        have := hv.lt; rw [z] at this; exact absurd this (Nat.lt_irrefl _)
      · have := I.pin_lt hp'; rw [z] at this; exact absurd this (Nat.lt_irrefl _)
    refine ⟨_, rfl, wpAny_letOwnedTupleGo_enum he' fun h2 he2 hs2 => ?_⟩
    have nes : s.heap.objs.size ≠ e := fun z => by
      have := Heap.lt_size (show s.heap.get? e = some _ from he)
      rw [← z] at this; exact absurd this (Nat.lt_irrefl _)
    have nis : s.heap.objs.size ≠ it := fun z => by
      obtain ⟨o, ho, _⟩ := hit
      have := Heap.lt_size ho
      rw [← z] at this; exact absurd this (Nat.lt_irrefl _)
    have I2 : Inv X pins σ (upd H s.heap.objs.size (.tup [.int i, x])) { s with heap := h2, toks := s.toks + 1 } :=
      I1.turned (s := { s with heap := h', toks := s.toks + 1 }) (t' := s.toks + 1) (it := e) (fun b o hb q => (hs2.2 b hb).trans q) (by rw [upd_ne nes.symm]; exact f0) f1 f3 f4 f5
    refine ⟨.ref s.heap.objs.size, _, I2, rfl, ⟨_, x, rfl, hfr, fun xs' h' => ?_, rfl⟩, ⟨⟨_, by simpa using he2⟩, ?_⟩, fun b hb => ?_⟩
    · rw [I.list_inj h' hS]; exact hx
    · obtain ⟨o, ho, r⟩ := hit'
      exact ⟨o, (hs2.2 it (Ne.symm hne)).trans ho, r⟩
    · rcases List.mem_cons.mp hb with rfl | hb
      · rw [upd_ne nes.symm]; exact f0
      · have e' : b = it := by simpa using hb
        subst e'
        rw [upd_ne nis.symm]; exact g0
  done := by
    intro X hP hw hK hc i pins s σ H E I hf st hg
    subst hP hw hK
    obtain ⟨⟨old, he⟩, hit⟩ := st
    obtain ⟨g0, g1, g2, g3, g4, g5⟩ := hf it (by simp)
    obtain ⟨xs, hS, hle⟩ := hg
    obtain ⟨its, rv, hp, hz⟩ := I.list hS
    have hx : its.toArray[i]? = none := by simp [← rv.length, hle]
    exact wpAny_pyNext_enum_end (I.ok.hd hc) he hit hp.isList hx fun h' eb => ⟨rfl, I.turned (t' := s.toks) (fun b o hb e1 => eb b o hb e1) g0 g1 g3 g4 g5⟩
  self := fun A i s Q E st h => by
    obtain ⟨⟨old, he⟩, _⟩ := st
    exact wpAny_pyIter_enum he h
section
variable {X : Cx} {elts : List Expr} {x1 : Nat} {tpos : Pos}
def iEnum (K : PySem.W.Frag) (ta : TA) : TI := fun σ H R => ta σ H fun vs H1 => ∃ a, vs = [.ref a] ∧ (∃ xs, SqL K H1 a xs) ∧ R (Ite K a) H1
theorem pi_enum {l : Expr} {ta : TA} {p pos : Pos} (hg : Gl X "enumerate") (hm : X.mg "enumerate" = none) (ha : PA X [l] ta) (hl : isSt l = false := by rfl) : PI X (.Tuple elts x1 tpos) (.Call (.Name "enumerate" p) [l] [] pos) (iEnum X.K ta) := by
  refine ⟨?_⟩
  intro pins s σ H R I h
  refine Call_ (ld_blt I hg hm PyProof.Rows.boot_enumerate (PyProof.Rows.callWith_type1 (thn (ha pos pins s σ H _ I h) fun us s1 ⟨vs, H1, I1, r1, q1⟩ => ?_) (star_cons hl) rfl))
  obtain ⟨a, e, ⟨xs, hS⟩, q⟩ := q1
  subst e
  obtain ⟨u, rfl, ru⟩ := vals1 r1
  cases ru
  obtain ⟨its, rv, hp, hz⟩ := I1.list hS
  refine call_enumerate_list hp.isList fun h' he hit hsz hk => ?_
  refine wpAny_pyIter_enum he ?_
  have hfr : ∀ b, s1.heap.objs.size ≤ b → H1 b = none := fun b hb => I1.hok.fresh hb
  have I2 : Inv X pins σ H1 { s1 with heap := h' } := I1.kept (t' := s1.toks) hk
  refine ⟨s1.heap.objs.size + 1, [s1.heap.objs.size + 1, s1.heap.objs.size], _, _, H1, rfl, I2, turn_enum a _ _ (Nat.succ_ne_self _), ⟨⟨_, he⟩, hit⟩, fun b hb => ?_, q⟩
  rcases List.mem_cons.mp hb with rfl | hb
  · exact I1.fpOk (Nat.le_succ _) (hfr _ (Nat.le_succ _))
  · have e' : b = s1.heap.objs.size := by simpa using hb
    subst e'
    exact I1.fpOk (Nat.le_refl _) (hfr _ (Nat.le_refl _))
end
end L2

set_option Elab.async false
set_option linter.all false
set_option maxRecDepth 100000
set_option maxHeartbeats 4000000
namespace Att
open PySem PySem.W PySem.Calls PyProof.Rows
/-! ### the script's numbers have at most 2 ^ 20 bits each -/
end Att
namespace L2
open PySem PySem.Spec PyProof.Rows
section
variable {X : Cx}
end
end L2

set_option Elab.async false
set_option linter.all false
set_option maxRecDepth 100000
set_option maxHeartbeats 4000000
namespace L2
open PySem PySem.Spec PyProof.Rows
/-! ### defs with defaults; an instance made with keywords -/
/-- a def or method whose defaults are these values -/
structure FunD (K : PySem.W.Frag) (x qual : Str) (st : Stmt) (f : Addr) (fd : FuncData) (items : List Value) : Prop where
  ex : ∃ (oc : Value) (od : Option Addr) (T : Addr) (kV doc pm : Value) (an : Option Addr) (cdv ct : Value) (osl : Array (Option Value)) (o : Obj) (n : Nat),
    fd = PySem.W.fnOf x qual (defArgs st) (defBody st) (defScope st) (.ref T) kV doc pm an cdv ct ∧ K.lookup f = some ⟨oc, od, .func fd, osl⟩ ∧ PySem.W.codeIn K cdv qual = true ∧ K.lookup T = some o ∧ o.data = .seq items.toArray n
  kp : PySem.W.keepIn K (.ref f) = true
section
variable {P : Program} {w : World} {K : PySem.W.Frag} {mg : Str → Option Value} {base : Heap}
theorem FunD.ok {x qual : Str} {st : Stmt} {f : Addr} {fd : FuncData} {items : List Value} {N ps : List Str} {k : Nat} {sp : Sp} (F : FunD K x qual st f fd items) (S : FnScope N ps (defScope st)) (len : ∀ vs H Q E, sp vs H Q E → vs.length = ps.length)
    (hbody : ∀ (cdv : Value) (A : Around) (outer : List Env) (s : Shared) (H : Hp) (vs : List V) (Q : VK) (E : XK), Room k (A.deeper (envOfC qual (defScope st) s.heap.objs.size f cdv)) → sp vs H Q E →
      ∃ t, PSs (cxOf CX0 P w K mg base N qual (defScope st) f cdv A outer s H E).nox (defBody st) t ∧ t { nx := fun _ H' => Q .non H', rt := Q } (start N vs) H) : FnOk P w K mg base CX0 (k + 1) f fd ps sp := by
  obtain ⟨oc, od, T, kV, doc, pm, an, cdv, ct, osl, o, n, rfl, lk, hcd, _, _⟩ := F.ex
  refine fn_of lk hcd S len fun A outer s H vs Q E hr hsp => ?_
  obtain ⟨t, h, q⟩ := hbody cdv A outer s H vs Q E hr hsp
  exact ⟨t, h.nox, q⟩
/-- how it binds: h is «fun _ _ _ _ _ _ _ => ⟨_, rfl, rfl⟩» -/
theorem FunD.bindsTo {x qual : Str} {st : Stmt} {f : Addr} {fd : FuncData} {items : List Value} (F : FunD K x qual st f fd items) {args : Args} {bs : List (Str × Value)}
    (h : ∀ (T : Addr) (kV doc pm : Value) (an : Option Addr) (cdv ct : Value), ∃ k : Option (Array Value) → Sem (List (Str × Value)),
      bindArgs (PySem.W.fnOf x qual (defArgs st) (defBody st) (defScope st) (.ref T) kV doc pm an cdv ct) args = seqItems? (.ref T) >>= k ∧ k (some items.toArray) = pure bs) {s : Shared} (KX : K.In s.heap) : BindsTo s fd args bs := by
  obtain ⟨oc, od, T, kV, doc, pm, an, cdv, ct, osl, o, n, rfl, lk, hcd, lt, hs⟩ := F.ex
  obtain ⟨k, h1, h2⟩ := h T kV doc pm an cdv ct
  exact BindsTo.of_defaults (T := T) (n := n) rfl (KX _ _ lt) hs h1 h2
theorem funD_mk {x qual : Str} {st : Stmt} {f T : Addr} {oc : Value} {od an : Option Addr} {osl : Array (Option Value)} {kV doc pm cdv ct : Value} {o : Obj} {n : Nat} {items : List Value}
    (l : K.lookup f = some ⟨oc, od, .func (PySem.W.fnOf x qual (defArgs st) (defBody st) (defScope st) (.ref T) kV doc pm an cdv ct), osl⟩)
    (c : PySem.W.codeIn K cdv qual = true) (k : PySem.W.keepIn K (.ref f) = true) (lT : K.lookup T = some o) (hs : o.data = .seq items.toArray n) :
    FunD K x qual st f (PySem.W.fnOf x qual (defArgs st) (defBody st) (defScope st) (.ref T) kV doc pm an cdv ct) items := ⟨⟨oc, od, T, kV, doc, pm, an, cdv, ct, osl, o, n, rfl, l, c, lT, hs⟩, k⟩
end
section
variable {X : Cx} {CX : CXT} {k : Nat} {f C : Addr} {fd : FuncData} {ps ks : List Str} {sp : Sp} {E : XK} {x : Str} {p pos : Pos} {e : Expr} {es : List Expr} {kws : List Keyword} {t tk : TA}
  {g : List Value → List Value → List Value} {gV : List V → List V → List V}
end
/-! ### a statement and what follows, with what holds between them; comprehensions over a list -/
theorem seq_via {t u : TS} {D : Ends} {σ : St} {H : Hp} (R : St → Hp → Prop) (h2 : ∀ σ H, R σ H → u D σ H) (h1 : (∀ σ H, R σ H → u D σ H) → t { D with nx := u D } σ H) : tSeq t u D σ H := h1 h2
/-- what a turn of a block that makes the list at D asks of its item -/
def lcN (n i : Nat) (D : Addr) (Pv : Nat → List V → Hp → Prop) (ys : List V) : VK := fun v H4 => H4 D = some (.lst ys) ∧ ys.length < sizeLine ∧ ∃ m', m' < n - i ∧ m' = n - (i + 1) ∧ i + 1 ≤ n ∧ Pv (i + 1) (ys ++ [v]) (upd H4 D (.lst (ys ++ [v])))
def lcS (n i : Nat) (Pv : Nat → List V → Hp → Prop) (ys : List V) : Hp → Prop := fun H4 => ∃ m', m' < n - i ∧ m' = n - (i + 1) ∧ i + 1 ≤ n ∧ Pv (i + 1) ys H4
theorem lcN.mk {n i : Nat} {D : Addr} {Pv : Nat → List V → Hp → Prop} {ys : List V} {v : V} {H4 : Hp} (hi : i < n) (hn : n ≤ sizeLine) (hD : H4 D = some (.lst ys)) (hy : ys.length ≤ i) (p : Pv (i + 1) (ys ++ [v]) (upd H4 D (.lst (ys ++ [v])))) : lcN n i D Pv ys v H4 :=
  ⟨hD, by omega, n - (i + 1), by omega, rfl, hi, p⟩
theorem lcS.mk {n i : Nat} {Pv : Nat → List V → Hp → Prop} {ys : List V} {H4 : Hp} (hi : i < n) (p : Pv (i + 1) ys H4) : lcS n i Pv ys H4 := ⟨n - (i + 1), by omega, rfl, hi, p⟩
theorem lc_list {K : PySem.W.Frag} {a : Addr} {xs : List V} {caps : List (Option Nat)} {g : TG} {tt : TT} {te : TE} {σ : St} {H1 : Hp} {Q : VK} {D : Addr} (Pv : Nat → List V → Hp → Prop) (h0 : Pv 0 [] (upd H1 D (.lst [])))
    (hl : ∀ i ys H, Pv i ys H → SqL K H a xs)
    (hs : ∀ i x ys H, i < xs.length → xs[i]? = some x → Pv i ys H → g x (capS caps σ) H fun σ2 H2 => tt σ2 H2 fun ok H3 => (ok = true → te σ2 H3 (lcN xs.length i D Pv ys)) ∧ (ok = false → lcS xs.length i Pv ys H3))
    (hd : ∀ ys H, Pv xs.length ys H → Q (.ref D) H) : LCr (Itl K a) caps g tt te σ H1 Q D := by
  refine ⟨fun i m ys H => m = xs.length - i ∧ i ≤ xs.length ∧ Pv i ys H, ⟨xs.length, by simp, Nat.zero_le _, h0⟩, ?_⟩
  rintro i m ys H ⟨rfl, hi, p⟩
  have q := hl i ys H p
  by_cases hlt : i < xs.length
  · refine .inr ⟨⟨xs, xs[i], q, by simp [hlt]⟩, fun x H' y => ?_⟩
    obtain ⟨e, y⟩ := y
    subst e
    exact hs i x ys _ hlt (y xs q) p
  · have e : i = xs.length := by omega
    subst e
    exact .inl ⟨⟨xs, q, Nat.le_refl _⟩, hd ys H p⟩
theorem same_make0 {H : Hp} {x dx : Addr} {o1 : HO} (hx : H x = none) (hd : H dx = none) : Same H (upd (upd H dx (.own x)) x o1) := fun b u q => by
  rw [upd_ne (ne_of_none q hx), upd_ne (ne_of_none q hd)]
  exact q
theorem same_new {H : Hp} {p : Addr} (h : H p = none) (o : HO) : Same H (upd H p o) := fun b u q => by rw [upd_ne (ne_of_none q h)]; exact q
end L2

set_option Elab.async false
set_option linter.all false
set_option maxRecDepth 100000
set_option maxHeartbeats 4000000
namespace L2
open PySem PySem.Spec PyProof.Rows
/-! ### comprehensions over a range, over enumerate -/
theorem lc_range {lo : Int} {n : Nat} {caps : List (Option Nat)} {g : TG} {tt : TT} {te : TE} {σ : St} {H1 : Hp} {Q : VK} {D : Addr} (Pv : Nat → List V → Hp → Prop) (h0 : Pv 0 [] (upd H1 D (.lst [])))
    (hs : ∀ i ys H, i < n → Pv i ys H → g (.int (lo + i)) (capS caps σ) H fun σ2 H2 => tt σ2 H2 fun ok H3 => (ok = true → te σ2 H3 (lcN n i D Pv ys)) ∧ (ok = false → lcS n i Pv ys H3))
    (hd : ∀ ys H, Pv n ys H → Q (.ref D) H) : LCr (Itr lo n) caps g tt te σ H1 Q D := by
  refine ⟨fun i m ys H => m = n - i ∧ i ≤ n ∧ Pv i ys H, ⟨n, by simp, Nat.zero_le _, h0⟩, ?_⟩
  rintro i m ys H ⟨rfl, hi, p⟩
  by_cases hlt : i < n
  · refine .inr ⟨hlt, fun x H' y => ?_⟩
    obtain ⟨e, y⟩ := y
    subst e y
    exact hs i ys _ hlt p
  · have e : i = n := by omega
    subst e
    exact .inl ⟨Nat.le_refl _, hd ys H p⟩
theorem lc_enum {K : PySem.W.Frag} {a : Addr} {xs : List V} {caps : List (Option Nat)} {g : TG} {tt : TT} {te : TE} {σ : St} {H1 : Hp} {Q : VK} {D : Addr} (Pv : Nat → List V → Hp → Prop) (h0 : Pv 0 [] (upd H1 D (.lst [])))
    (hl : ∀ i ys H, Pv i ys H → SqL K H a xs)
    (hs : ∀ i x p ys H, i < xs.length → xs[i]? = some x → Pv i ys H → H p = none → g (.ref p) (capS caps σ) (upd H p (.tup [.int i, x])) fun σ2 H2 => tt σ2 H2 fun ok H3 => (ok = true → te σ2 H3 (lcN xs.length i D Pv ys)) ∧ (ok = false → lcS xs.length i Pv ys H3))
    (hd : ∀ ys H, Pv xs.length ys H → Q (.ref D) H) : LCr (Ite K a) caps g tt te σ H1 Q D := by
  refine ⟨fun i m ys H => m = xs.length - i ∧ i ≤ xs.length ∧ Pv i ys H, ⟨xs.length, by simp, Nat.zero_le _, h0⟩, ?_⟩
  rintro i m ys H ⟨rfl, hi, p⟩
  have q := hl i ys H p
  by_cases hlt : i < xs.length
  · refine .inr ⟨⟨xs, xs[i], q, by simp [hlt]⟩, fun x H' y => ?_⟩
    obtain ⟨pp, y, rfl, hp, y2, rfl⟩ := y
    exact hs i y pp ys H hlt (y2 xs q) p hp
  · have e : i = xs.length := by omega
    subst e
    exact .inl ⟨⟨xs, q, Nat.le_refl _⟩, hd ys H p⟩
theorem for_enum {K : PySem.W.Frag} {a : Addr} {xs : List V} {g : TG} {tb : TS} {D : Ends} {σ : St} {H : Hp} (Pv : Nat → St → Hp → Prop) (h0 : Pv 0 σ H) (hl : ∀ i σ H, i ≤ xs.length → Pv i σ H → SqL K H a xs)
    (hs : ∀ i x p σ H, xs[i]? = some x → Pv i σ H → H p = none → g (.ref p) σ (upd H p (.tup [.int i, x])) fun σ2 H2 => tb { D with nx := Pv (i + 1), ct := Pv (i + 1), bk := D.nx } σ2 H2) (hd : ∀ σ H, Pv xs.length σ H → D.nx σ H) :
    ∃ W : Nat → Nat → St → Hp → Prop, (∃ m, W 0 m σ H) ∧ ∀ i m σ H, W i m σ H →
      ((Ite K a).stop i H ∧ D.nx σ H) ∨ ((Ite K a).go i H ∧ ∃ N : St → Hp → Prop, (∀ σ' H', N σ' H' → ∃ m', m' < m ∧ W (i + 1) m' σ' H') ∧ ∀ x H', (Ite K a).yld i H x H' → g x σ H' fun σ2 H2 => tb { D with nx := N, ct := N, bk := D.nx } σ2 H2) := by
  refine ⟨fun i m σ H => m = xs.length - i ∧ i ≤ xs.length ∧ Pv i σ H, ⟨xs.length, by simp, Nat.zero_le _, h0⟩, ?_⟩
  rintro i m σ H ⟨rfl, hi, p⟩
  have q := hl i σ H hi p
  by_cases hlt : i < xs.length
  · refine .inr ⟨⟨xs, xs[i], q, by simp [hlt]⟩, Pv (i + 1), fun σ' H' p' => ⟨xs.length - (i + 1), by omega, rfl, hlt, p'⟩, fun x H' y => ?_⟩
    obtain ⟨pp, y, rfl, hp, y2, rfl⟩ := y
    exact hs i y pp σ H (y2 xs q) p hp
  · have e : i = xs.length := by omega
    subst e
    exact .inl ⟨⟨xs, q, Nat.le_refl _⟩, hd σ H p⟩
/-! ### places within a sequence; fewer bits -/
/-! ### isinstance of a tuple that is read -/
end L2

set_option Elab.async false
set_option linter.all false
set_option maxRecDepth 100000
set_option maxHeartbeats 4000000
namespace L2
open PySem PySem.Spec PyProof.Rows
/-! ### an exception in flight -/
/-- it left a callee: behind it lies the heap s', tracked by H'; the frames at outer still run -/
structure Fly (P : Program) (w : World) (outer : List Env) (H : Hp) (s : Shared) (cls : Value) (H' : Hp) (ea : Addr) (s' : Shared) : Prop where
  os : s'.os = s.os
  bare : AllBare s'.gens
  un : Un (frs outer) [] H H' s.heap s'.heap
  hok : HOk P w H' s'.heap
  nt : H' ea = none
  fly : ∃ B a0, Heap.FlyingW B outer ea cls a0 s'.heap ∧ (∀ b u, H' b = some u → ∃ o, B.get? b = some o) ∧ (∀ b o, s.heap.get? b = some o → H b = none → b ∉ frs outer → B.get? b = some o) ∧
    ∀ b o, s.heap.get? b = some o → b ∉ frs outer → ∃ o', B.get? b = some o'
abbrev CXe (P : Program) (w : World) : CXT := fun outer H s E e s' => ∃ ea cls H', e = .ref ea ∧ Fly P w outer H s cls H' ea s' ∧ E cls none H'
section
variable {X : Cx} {pins : List (Addr × Obj)} {σ : St} {H H' : Hp} {s s' : Shared} {ea : Addr} {cls : Value} {vs : List Value} {h' : Heap} {M : Model} {E : Value → Shared → Prop}
theorem frs_stack (hstk : X.stack = X.env :: X.outer) (hfl : X.env.frame = some X.env.locals) : frs X.stack = X.env.locals :: frs X.outer := by
  rw [hstk]
  unfold frs
  rw [List.filterMap_cons, hfl]
theorem HOk.sameAt {P : Program} {w : World} {h h' : Heap} (x : HOk P w H h) (k : ∀ b u o, H b = some u → h.get? b = some o → h'.get? b = some o) : HOk P w H h' := fun a o e =>
  (x a o e).stay (fun b u hb q => by
    rcases hb with z | z
    · exact k b o u (by rw [z]; exact e) q
    · exact k b _ u z q) (fun _ q => q) fun _ _ q => q
theorem HOk.rec {P : Program} {w : World} {h : Heap} (x : HOk P w H h) {b : Addr} {u : HO} (e : H b = some u) : ∃ o, h.get? b = some o := by
  have q := x b u e
  cases u with
  | lst xs => obtain ⟨_, _, _, _, e⟩ := q; exact ⟨_, e⟩
  | tup xs => obtain ⟨_, _, _, o, e, _⟩ := q; exact ⟨_, e⟩
  | dK kvs => obtain ⟨_, _, _, _, o, _, _, e, _⟩ := q; exact ⟨_, e⟩
  | dT kvs => obtain ⟨_, _, _, _, o, _, _, e, _⟩ := q; exact ⟨_, e⟩
  | set S n => obtain ⟨o, _, _, _, e, _⟩ := q; exact ⟨_, e⟩
  | ins C dx fs => obtain ⟨_, _, _, e, _⟩ := q; exact ⟨_, e⟩
  | own y => exact q
  | xd fs => obtain ⟨_, ⟨o, _, _, e, _⟩, _⟩ := q; exact ⟨_, e⟩
  | rng lo hi => obtain ⟨_, _, _, e⟩ := q; exact ⟨_, e⟩
  | frz ob u => obtain ⟨e, _⟩ := q; exact ⟨_, e⟩
  | tbl ps => exact ⟨_, q⟩
  | met f y => exact ⟨_, q⟩
  | ext φ => exact q.2.1
/-- a new exception leaves the frame -/
theorem fly_made (I : Inv X pins σ H s) (hstk : X.stack = X.env :: X.outer) (hfl : X.env.frame = some X.env.locals) (hex : X.ex = []) (hx : Heap.MadeExcOf s.heap h' ea cls vs) :
    wpAny M X.A (leaving X.env (.ref ea)) (fun _ s'' => Fly X.prog X.w X.outer X.H₀ X.s₀ cls H ea s'') E { s with heap := h' } := by
  have fr := frs_stack hstk hfl
  have fl : s.heap.FunFrames (PySem.W.hideAll s.heap (frs X.stack)) (X.env :: X.outer) := by
    have := I.stack
    rw [hstk] at this
    refine PySem.W.funFrames_hide this fun env he b hb => ?_
    rw [hstk]
    exact List.mem_filterMap.mpr ⟨env, he, hb⟩
  have fr0 := I.ok.frames
  rw [hstk] at fr0
  have neL : ∀ b o, X.s₀.heap.get? b = some o → b ≠ X.env.locals := fun b o e => Nat.ne_of_lt (Nat.lt_of_lt_of_le (Heap.lt_size e) I.ok.above)
  have noEx : ∀ b : Addr, b ∉ X.ex := fun b => by rw [hex]; simp
  have inB : ∀ b o, s.heap.get? b = some o → b ∉ frs X.stack → (PySem.W.hideAll s.heap (frs X.stack)).get? b = some o := fun b o e n => PySem.W.hideAll_get _ e n
  have trB : ∀ b u, H b = some u → b ∉ frs X.stack := fun b u e n => by rw [I.stkFree b n] at e; cases e
  refine wpAny_leaves_madeW (base := PySem.W.hideAll s.heap (frs X.stack)) fr0 hfl (fun b o q => PySem.W.of_hideAll _ q) fl hx fun h2 t x1 x2 x3 x4 => ?_
  have stay : ∀ b o, s.heap.get? b = some o → b ∉ frs X.stack → h2.get? b = some o := fun b o e n => x1.1 b o (inB b o e n)
  have up : ∀ b o, s.heap.get? b = some o → (∀ vs, o.data ≠ .fields vs) → ∃ sl, h2.get? b = some { o with slots := sl } := fun b o e n => x4 b o (hx.keeps b o e) n
  refine ⟨I.os, I.bare, ⟨fun b o e n hb _ => ?_, fun b o e n hb _ => ?_, fun b o e n _ => I.base.free b o e n (noEx b), fun b o e _ => ?_, I.base.tups, I.base.frzs, I.base.tbls⟩, I.hok.sameAt fun b u o e q => stay b o q (trB b u e), ?_, ?_⟩
  · refine stay b o (I.base.keep b o e n hb (noEx b)) ?_
    rw [fr]
    exact fun z => (List.mem_cons.mp z).elim (neL b o e) hb
  · obtain ⟨sl, e1⟩ := I.base.slot b o e n hb (noEx b)
    obtain ⟨_, o', ho', hd⟩ := I.funs.mem hb
    rw [e1] at ho'
    cases ho'
    obtain ⟨sl2, e2⟩ := up b _ e1 hd
    exact ⟨sl2, e2⟩
  · obtain ⟨o1, e1⟩ := I.base.there b o e (noEx b)
    by_cases hb : b ∈ frs X.stack
    · obtain ⟨_, o', ho', hd⟩ := I.stack.mem hb
      obtain ⟨sl2, e2⟩ := up b o' ho' hd
      exact ⟨_, e2⟩
    · exact ⟨o1, stay b o1 e1 hb⟩
  · cases q : H ea with
    | none => rfl
    | some u =>
      obtain ⟨o, e⟩ := I.hok.rec q
      rw [hx.new] at e; cases e
  · refine ⟨_, _, x1, fun b u e => ?_, fun b o e n hb => ?_, fun b o e hb => ?_⟩
    · obtain ⟨o, q⟩ := I.hok.rec e
      exact ⟨o, inB b o q (trB b u e)⟩
    · refine inB b o (I.base.keep b o e n hb (noEx b)) ?_
      rw [fr]
      exact fun z => (List.mem_cons.mp z).elim (neL b o e) hb
    · obtain ⟨o1, e1⟩ := I.base.there b o e (noEx b)
      refine ⟨o1, inB b o1 e1 ?_⟩
      rw [fr]
      exact fun z => (List.mem_cons.mp z).elim (neL b o e) hb
/-- an exception of a callee leaves the frame -/
theorem fly_on (I : Inv X pins σ H s) (hstk : X.stack = X.env :: X.outer) (hfl : X.env.frame = some X.env.locals) (hex : X.ex = []) (F : Fly X.prog X.w X.stack H s cls H' ea s') :
    wpAny M X.A (leaving X.env (.ref ea)) (fun _ s'' => Fly X.prog X.w X.outer X.H₀ X.s₀ cls H' ea s'') E s' := by
  have fr := frs_stack hstk hfl
  have fr0 := I.ok.frames
  rw [hstk] at fr0
  obtain ⟨B, a0, fl, tr, old, olds⟩ := F.fly
  have neL : ∀ b o, X.s₀.heap.get? b = some o → b ≠ X.env.locals := fun b o e => Nat.ne_of_lt (Nat.lt_of_lt_of_le (Heap.lt_size e) I.ok.above)
  have noEx : ∀ b : Addr, b ∉ X.ex := fun b => by rw [hex]; simp
  have nst : ∀ b o, X.s₀.heap.get? b = some o → b ∉ frs X.outer → b ∉ frs X.stack := fun b o e hb => by
    rw [fr]
    exact fun z => (List.mem_cons.mp z).elim (neL b o e) hb
  have fl' := fl
  rw [hstk] at fl'
  refine wpAny_leaves_onW fr0 hfl fl' fun h2 x1 x2 => ?_
  have oldB : ∀ b o, X.s₀.heap.get? b = some o → X.H₀ b = none → b ∉ frs X.outer → B.get? b = some o := fun b o e n hb =>
    old b o (I.base.keep b o e n hb (noEx b)) (I.base.free b o e n (noEx b)) (nst b o e hb)
  refine ⟨F.os.trans I.os, F.bare, ⟨fun b o e n hb _ => x1.1 b o (oldB b o e n hb), fun b o e n hb _ => ?_, fun b o e n _ => ?_, fun b o e _ => ?_, fun b xs e => F.un.tups b xs (I.base.tups b xs e), fun b o u e => F.un.frzs b o u (I.base.frzs b o u e), fun b ps e => ?_⟩, F.hok.sameAt fun b u o e q => ?_, F.nt, ⟨B, a0, x1, tr, oldB, fun b o e hb => ?_⟩⟩
  · obtain ⟨sl, e1⟩ := I.base.slot b o e n hb (noEx b)
    obtain ⟨sl1, e2⟩ := F.un.any e1 (I.base.free b o e n (noEx b)) (by simp)
    have hd : ∀ vs, o.data ≠ .fields vs := by
      obtain ⟨_, o', ho', hd⟩ := I.funs.mem hb
      rw [e1] at ho'
      cases ho'
      exact hd
    obtain ⟨sl2, e3⟩ := x2 b _ e2 hd
    exact ⟨sl2, e3⟩
  · obtain ⟨o', e1⟩ := I.base.there b o e (noEx b)
    exact F.un.free b o' e1 (I.base.free b o e n (noEx b)) (by simp)
  · obtain ⟨o1, e1⟩ := I.base.there b o e (noEx b)
    obtain ⟨o2, e2⟩ := F.un.there b o1 e1 (by simp)
    by_cases hb : b ∈ frs X.stack
    · obtain ⟨_, o', ho', hd⟩ := fl.2.2.1.mem hb
      obtain ⟨sl2, e3⟩ := x2 b o' ho' hd
      exact ⟨_, e3⟩
    · obtain ⟨o3, e3⟩ := olds b o1 e1 hb
      exact ⟨o3, x1.1 b o3 e3⟩
  · obtain ⟨m1, e1⟩ := I.base.tbls b ps e
    obtain ⟨m2, e2⟩ := F.un.tbls b _ e1
    exact ⟨m1 ++ m2, by rw [e2, Array.append_assoc]⟩
  · obtain ⟨o3, e3⟩ := tr b u e
    have e4 := fl.1 b o3 e3
    rw [q] at e4
    cases e4
    exact x1.1 b o e3
  · obtain ⟨o1, e1⟩ := I.base.there b o e (noEx b)
    exact olds b o1 e1 (nst b o e hb)
end
end L2

set_option Elab.async false
set_option linter.all false
set_option maxRecDepth 100000
set_option maxHeartbeats 4000000
namespace L2
open PySem PySem.Spec PyProof.Rows
/-! ### raise C(..) -/
/-- what is wanted of a new exception that this code raises -/
def Raises (X : Cx) (E : XK) : Prop := ∀ (pins : List (Addr × Obj)) (σ : St) (H : Hp) (s : Shared) (ea : Addr) (cls : Value) (vs : List Value) (h' : Heap), Inv X pins σ H s → Heap.MadeExcOf s.heap h' ea cls vs → E cls none H → X.xe (.ref ea) { s with heap := h' }
def tRaise (C : Addr) (E : XK) (t : TA) : TS := fun _ σ H => t σ H fun vs H1 => vs.length ≤ sizeLine ∧ E (.ref C) none H1
section
variable {X : Cx} {E : XK} {x : Str} {C : Addr} {B Bn newId nid initId inN : String} {bm bmN : List Value} {np cpos pos : Pos} {e : Expr} {es : List Expr} {t : TA}
theorem ps_raise (hX : Raises X E) (O : OwnCls x C bm newId X.mg X.base) (Fn : ExcBaseFacts Bn newId inN bmN) (hBn : bm.contains (.type Bn) = true) (FB : ExcBaseFacts B nid initId bm) (hc : X.calm = true) (ha : PA X (e :: es) t)
    (hg : Gl X x := by rfl) (hd : (x == ("__debug__" : Str)) = false := by decide) (h1 : isSt e = false := by rfl) (h2 : es.any isSt = false := by rfl) :
    PS X (.Raise (some (.Call (.Name x np) (e :: es) [] cpos)) none pos) (tRaise C E t) := by
  refine ⟨?_⟩
  intro pins s σ H D I h
  obtain ⟨tl, N, nm, q, bs, hdct, sn, sub, ab, col, dd, k0, k1, k2, k3, k5, mN, hC, hN, hni, T⟩ := O.obj
  have hst : starEach (e :: es) X.env = (false, eval e X.env) :: starEach es X.env := star_cons h1
  refine wpAny_Raise_call_subU (C := C) (nm := nm) (q := q) (N := N) (bs := bs) (bm := tl) (hdct := hdct) (sn := sn) (sub := sub) (ab := ab) (col := col) (dd := dd) (k0 := k0) (k1 := k1) (k2 := k2) (k3 := k3) (k5 := k5)
    Fn hBn FB (mN := mN) (T.hasType FB.hasBase) (I.ok.hd hc) (by rw [hst]; show (false || (backTo cpos (starEach es X.env)).any (·.1)) = false; rw [star_any h2]; rfl) hni (ld_glob I hg O.bound ⟨rfl, ?_⟩ hd)
  rw [hst]
  refine Calls.evalArgs_plain ?_
  have hA := ha cpos pins s σ H _ I h
  rw [hst] at hA
  refine thn hA fun us s2 ⟨vs, H1, I1, r, hl, q1⟩ => ⟨rfl, by rw [← r.length]; exact hl, I1.bk _ _ hC, hN.keeps I1.bk, T.keeps I1.bk, fun h' ea hm => ?_⟩
  exact hX pins σ H1 s2 ea _ _ h' I1 hm q1
end
/-! ### a def that may raise -/
section
variable {P : Program} {w : World} {K : PySem.W.Frag} {mg : Str → Option Value} {base : Heap} {N : List Str} {qual : Str} {scope : Scope} {f : Addr} {cd : Value} {A : Around} {outer : List Env} {s : Shared} {H : Hp} {E E' : XK}
theorem raises_cx : Raises (cxOf (CXe P w) P w K mg base N qual scope f cd A outer s H E) E := fun pins σ H1 s1 ea cls vs h' I hm q => by
  refine wpAny_mono (fly_made I rfl rfl rfl hm) (fun _ s2 F => ?_) fun _ _ z => z
  exact ⟨ea, cls, H1, rfl, F, q⟩
theorem passE (hE : ∀ c d H, E' c d H → E c d H) : Passes (CXe P w) (cxOf (CXe P w) P w K mg base N qual scope f cd A outer s H E) E' := fun pins σ H1 s1 e s' I q => by
  obtain ⟨ea, cls, H', rfl, F, q⟩ := q
  refine wpAny_mono (fly_on I rfl rfl rfl F) (fun _ s2 F2 => ?_) fun _ _ z => z
  exact ⟨ea, cls, H', rfl, F2, hE _ _ _ q⟩
theorem Fun.okE {x : Str} {st : Stmt} {fd : FuncData} {ps : List Str} {k : Nat} {sp : Sp} (F : Fun K x qual st f fd) (S : FnScope N ps (defScope st)) (len : ∀ vs H Q E, sp vs H Q E → vs.length = ps.length)
    (hbody : ∀ (cdv : Value) (A : Around) (outer : List Env) (s : Shared) (H : Hp) (vs : List V) (Q : VK) (E : XK), Room k (A.deeper (envOfC qual (defScope st) s.heap.objs.size f cdv)) → sp vs H Q E →
      ∃ t, PSs (cxOf (CXe P w) P w K mg base N qual (defScope st) f cdv A outer s H E) (defBody st) t ∧ t { nx := fun _ H' => Q .non H', rt := Q } (start N vs) H) : FnOk P w K mg base (CXe P w) (k + 1) f fd ps sp := by
  obtain ⟨oc, od, kV, doc, pm, an, cdv, ct, osl, rfl, lk, hcd⟩ := F.ex
  exact fn_of lk hcd S len fun A outer s H vs Q E hr hsp => hbody cdv A outer s H vs Q E hr hsp
end
section
variable {X : Cx} {k : Nat} {f : Addr} {fd : FuncData} {ps : List Str} {sp : Sp} {E : XK} {x : Str} {p pos : Pos} {e : Expr} {es : List Expr} {t : TA}
end
end L2

set_option Elab.async false
set_option linter.all false
set_option maxRecDepth 100000
set_option maxHeartbeats 4000000
namespace L2
open PySem PySem.Spec PyProof.Rows
/-! ### an exception that is caught -/
section
variable {X : Cx} {pins : List (Addr × Obj)} {σ : St} {H H' : Hp} {s s' : Shared} {ea a : Addr} {cls : Value} {o : HO} {h5 : Heap}
end
end L2

set_option Elab.async false
set_option linter.all false
set_option maxRecDepth 100000
set_option maxHeartbeats 4000000
namespace L2
open PySem PySem.Spec PyProof.Rows
section
variable {X : Cx} {pins : List (Addr × Obj)} {σ : St} {H : Hp} {s : Shared} {M : Model} {A : Around} {E : Value → Shared → Prop} {i : Nat} {n : Str} {pos : Pos}
end
/-! ### code that may raise, at known values of the names -/
section
variable {X : Cx} {pins : List (Addr × Obj)} {σ : St} {e : Expr} {es : List Expr} {te ta : TE} {t tr : TA} {E : XK} {x m : Str} {p pos apos : Pos} {k : Nat} {f C : Addr} {fd : FuncData} {ps : List Str} {sp : Sp} {o : Expr} {dvs : List V} {ds : List Value}
end
/-! ### try: one statement; except C as n: suite -/
section
variable {X : Cx} {pins : List (Addr × Obj)} {σ : St} {H : Hp} {s : Shared} {ea : Addr}
variable {st b₀ : Stmt} {suite : List Stmt} {c n : Str} {np hpos pos : Pos} {C : Addr} {i : Nat} {tb : XK → TS} {ts : TS} {ok : Value → Prop}
end
end L2

set_option Elab.async false
set_option linter.all false
set_option maxRecDepth 100000
set_option maxHeartbeats 4000000
namespace L2
open PySem PySem.W PySem.Builtin PySem.Builtin.ObjectAttr PySem.Builtin.Getset_descriptor PySem.Spec PyProof.Rows
/-! ### isinstance of an exception -/
section
variable {prog : Program} {w : World} {A : Around} {E : Value → Shared → Prop} {s : Shared} {K : PySem.W.Frag} {x D : Addr}
end
end L2

set_option Elab.async false
set_option linter.all false
set_option maxRecDepth 100000
set_option maxHeartbeats 4000000
namespace L2
open PySem PySem.Spec PyProof.Rows
section
variable {X : Cx}
end
/-! ### defs that are called within an except suite -/
section
variable {P : Program} {w : World} {K : PySem.W.Frag} {mg : Str → Option Value} {base : Heap}
end
section
variable {X : Cx} {k : Nat} {f : Addr} {fd : FuncData} {ps : List Str} {sp : Sp} {x : Str} {p pos : Pos} {e : Expr} {es : List Expr} {t : TA}
end
end L2

set_option Elab.async false
set_option linter.all false
set_option maxRecDepth 100000
set_option maxHeartbeats 4000000
namespace L2
open PySem PySem.Spec PyProof.Rows
/-! ### reversed(range(n)) -/
section
variable {prog : Program} {w : World} {A : Around} {E : Value → Shared → Prop} {s : Shared} {r : Addr} {n : Int} {t u v : Tok}
end
section
variable {X : Cx} {tg : Expr}
end
end L2

set_option Elab.async false
set_option linter.all false
set_option maxRecDepth 100000
set_option maxHeartbeats 4000000
namespace L2
open PySem PySem.Spec PyProof.Rows
section
variable {X : Cx} {o i : Expr} {to ti : TE} {pos tpos : Pos}
/-! ### del xs[i] -/
/-! ### == of two lists that are not of one length -/
def rLen : R2 := fun x y H Q => ∃ (a c : Addr) (xs ys : List V), x = .ref a ∧ y = .ref c ∧ H a = some (.lst xs) ∧ H c = some (.lst ys) ∧ xs.length ≠ ys.length ∧ Q (.bl false) H
theorem op_eqLen (hu : X.A.units < cLine) : OpR X (compareOp .Eq) rLen := by
  intro pins s σ H x y v u Q I rx ry h
  obtain ⟨a, c, xs, ys, rfl, rfl, ha, hc, hn, q⟩ := h
  cases rx
  cases ry
  obtain ⟨its, r, pl, _⟩ := I.list (SqL.of ha)
  obtain ⟨its2, r2, pl2, _⟩ := I.list (SqL.of hc)
  have e1 := r.length
  have e2 := r2.length
  exact PySem.SeqAt.eq_list_lengthsAt pl.isList pl2.isList (by simp only [List.size_toArray, bne_iff_ne]; omega) hu ⟨.bl false, H, I, rfl, q⟩
end
end L2

set_option Elab.async false
set_option linter.all false
set_option maxRecDepth 100000
set_option maxHeartbeats 4000000
namespace L2
open PySem PySem.Spec PyProof.Rows
section
variable {X : Cx} {pins : List (Addr × Obj)} {σ : St} {e : Expr} {te : TE} {pos p : Pos} {C : Addr} {x : Str}
/-! ### an instance of a class without an __init__ of its own -/
end
theorem passF {P : Program} {w : World} {X : Cx} : Passes (CXe P w) X (fun _ _ _ => False) := fun pins σ H1 s1 e s' I q => by
  obtain ⟨_, _, _, _, _, q⟩ := q
  exact q.elim
theorem same_after {H H1 : Hp} {x dx : Addr} {o1 o2 : HO} (hx : H x = none) (hd : H dx = none) (s : Same (upd (upd H dx (.own x)) x o1) H1) : Same H (upd H1 x o2) := fun b u q => by
  rw [upd_ne (ne_of_none q hx)]
  exact s _ _ (same_make0 hx hd b u q)
/-- a class as its makers have it -/
structure Ctor (P : Program) (w : World) (K : PySem.W.Frag) (mg : Str → Option Value) (base : Heap) (CX : CXT) (k : Nat) (x : Str) (C i : Addr) (fd : FuncData) (ps : List Str) (ds : List Value) (sp : Sp) : Prop where
  mkr : Mk K C i
  ok : FnOk P w K mg base CX k i fd ps sp
  mg : mg x = some (.ref C)
  bd : Binds K fd ps ds
section
variable {X : Cx} {CX : CXT} {k : Nat} {C i f : Addr} {fd : FuncData} {ps ks : List Str} {sp : Sp} {E : XK} {x m : Str} {p pos apos : Pos} {e : Expr} {es : List Expr} {t tk : TA} {ds : List Value} {dvs : List V} {kws : List Keyword}
  {g : List Value → List Value → List Value} {gV : List V → List V → List V}
theorem cMk (c : Ctor X.prog X.w X.K X.mg X.base CX k x C i fd ps ds sp) (hd : Vals dvs ds) (hp : Passes CX X E) (hr : Room (k + 1) X.A) (ha : PA X (e :: es) t) (hg : Gl X x := by rfl) (hdb : (x == ("__debug__" : Str)) = false := by decide)
    (h1 : isSt e = false := by rfl) (h2 : es.any isSt = false := by rfl) : PE X (.Call (.Name x p) (e :: es) [] pos) (tMake C sp dvs E t) := pe_make c.mkr c.ok hr hg c.mg c.bd hd hp ha hdb (star_cons h1) (star_any h2)
/-! ### C(e, .., k = v, ..) -/
/-! ### C.m(e, ..), C a class, m a def of it -/
structure ClsFn (K : PySem.W.Frag) (C : Addr) (m : Str) (f : Addr) : Prop where
  ga : PySem.W.specialIn K (.ref C) "__getattribute__" = some (some (.builtin "type.__getattribute__"))
  rd : PySem.W.readsIn K C (.type "type") = true
  fc : PySem.W.findCls K (.ref C) (.type "type") m = some (.val (.ref f))
  kp : PySem.W.keepIn K (.ref f) = true
theorem pe_cm {pl : Sem Bool} (B : ClsFn X.K C m f) (hm : X.mg x = some (.ref C)) (F : FnOk X.prog X.w X.K X.mg X.base CX k f fd ps sp) (hr : Room k X.A) (hb : Binds X.K fd ps []) (hx : Passes CX X E) (ha : PA X (e :: es) t) (hg : Gl X x := by rfl)
    (hdb : (x == ("__debug__" : Str)) = false := by decide) (h1 : isSt e = false := by rfl) (h2 : es.any isSt = false := by rfl)
    (ht : eval (.Call (.Attribute (.Name x p) m apos) (e :: es) [] pos) X.env = (do
      let ov ← eval (.Name x p) X.env
      standAt apos.atName
      let (f, first) ← holding [ov] (getMethod ov m pl)
      callWith pos f first (backTo pos (starEach (e :: es) X.env)) (backToKw pos (keywordEach [] X.env))) := by rfl) :
    PE X (.Call (.Attribute (.Name x p) m apos) (e :: es) [] pos) (tCall sp [] E t) := by
  refine ⟨?_⟩
  intro pins s σ H Q I h
  refine PySem.W.methodCall_KW (pl := pl) (ld_glob I hg hm ?_ hdb) ht
  refine PySem.W.method_cls I.kIn B.ga (PySem.W.cls_value I.kIn B.rd B.fc rfl ?_)
  have It := I.tok (s.toks + 1)
  refine PySem.W.callWith_K (first := []) (h₀ := X.base) I.ok.mod.kin B.kp (thn (ha pos pins _ σ H _ It h) fun us s2 ⟨vs, H2, I2, r, q2⟩ => ⟨I2.kIn, ?_⟩) (star_cons h1) (star_any h2)
  exact run_fn F hr hb .nil hx I2 r q2
end
theorem FunD.okE {P : Program} {w : World} {K : PySem.W.Frag} {mg : Str → Option Value} {base : Heap} {x qual : Str} {st : Stmt} {f : Addr} {fd : FuncData} {items : List Value} {N ps : List Str} {k : Nat} {sp : Sp} (F : FunD K x qual st f fd items) (S : FnScope N ps (defScope st)) (len : ∀ vs H Q E, sp vs H Q E → vs.length = ps.length)
    (hbody : ∀ (cdv : Value) (A : Around) (outer : List Env) (s : Shared) (H : Hp) (vs : List V) (Q : VK) (E : XK), Room k (A.deeper (envOfC qual (defScope st) s.heap.objs.size f cdv)) → sp vs H Q E →
      ∃ t, PSs (cxOf (CXe P w) P w K mg base N qual (defScope st) f cdv A outer s H E) (defBody st) t ∧ t { nx := fun _ H' => Q .non H', rt := Q } (start N vs) H) : FnOk P w K mg base (CXe P w) (k + 1) f fd ps sp := by
  obtain ⟨oc, od, T, kV, doc, pm, an, cdv, ct, osl, o, n, rfl, lk, hcd, _, _⟩ := F.ex
  exact fn_of lk hcd S len fun A outer s H vs Q E hr hsp => hbody cdv A outer s H vs Q E hr hsp
end L2

set_option Elab.async false
set_option linter.all false
set_option maxRecDepth 100000
set_option maxHeartbeats 4000000
namespace L2
open PySem PySem.Spec PyProof.Rows
/-- a statement that is never reached -/
theorem ps_dead {X : Cx} {st : Stmt} : PS X st (fun _ _ _ => False) := ⟨fun _ _ _ _ _ _ h => h.elim⟩
/-! ### a set of texts -/
def SetT (P : Program) (w : World) (a : Addr) (S : Str → Bool) (n : Nat) (h : Heap) : Prop := h.SetOf (strKind P w) a S n
abbrev setO (P : Program) (w : World) (a : Addr) (S : Str → Bool) (n : Nat) : HO := .ext (SetT P w a S n)
theorem setO_ok {P : Program} {w : World} {H : Hp} {h : Heap} {a : Addr} {S : Str → Bool} {n : Nat} (e : h.SetOf (strKind P w) a S n) : ObjOk P w H h a (setO P w a S n) :=
  ⟨e, let ⟨o, _, _, _, h1, _⟩ := e; ⟨o, h1⟩, fun g1 g2 q k => let ⟨o, es, ep, t, h1, c⟩ := q; ⟨o, es, ep, t, k o h1, c⟩⟩
section
variable {X : Cx}
theorem call_set0 : CallR X (.type "set") (fun xs H Q => xs = [] ∧ ∀ p, H p = none → Q (.ref p) (upd H p (setO X.prog X.w p (fun _ => false) 0))) := by
  intro pins s σ H xs us Q I r h
  obtain ⟨rfl, q⟩ := h
  cases r
  refine call_set_0 fun led => ?_
  have hf : H s.heap.objs.size = none := I.hok.fresh (Nat.le_refl _)
  refine ⟨.ref s.heap.objs.size, _, I.laid (t' := s.toks) (fun b u e => Heap.get?_push_of_some _ e) (Nat.le_refl _) (setO_ok ?_), rfl, q _ hf⟩
  exact (setObjOf_fresh led).setOf (Heap.get?_push_size _ rfl) (by decide)
theorem op_in_setT : OpR X (compareOp .In) (fun x y H Q => ∃ (a : Addr) (S : Str → Bool) (n : Nat) (z : Str), x = .str z ∧ y = .ref a ∧ H a = some (setO X.prog X.w a S n) ∧ Q (.bl (S z)) H) := by
  intro pins s σ H x y v u Q I rx ry h
  obtain ⟨a, S, n, z, rfl, rfl, e, q⟩ := h
  obtain ⟨t, rfl⟩ := rx
  cases ry
  have hS : s.heap.SetOf (strKind X.prog X.w) a S n := (I.hok a _ e).1
  exact wpAny_inSet_of (strKind_is X.prog X.w z t) rfl hS ⟨.bl (S z), H, I.tok _, rfl, q⟩
def tSAdd (P : Program) (w : World) (to te : TE) : TE := fun σ H Q => to σ H fun x H1 => ∃ (a : Addr) (S : Str → Bool) (n : Nat), x = .ref a ∧ H1 a = some (setO P w a S n) ∧ te σ H1 fun y H2 => ∃ (S : Str → Bool) (n : Nat) (z : Str), y = .str z ∧ H2 a = some (setO P w a S n) ∧ n + 1 < scanBound ∧
  Q .non (upd H2 a (setO P w a (fun k => S k || decide (k = z)) (if S z then n else n + 1)))
theorem pe_sadd {o e : Expr} {apos cpos : Pos} {to te : TE} (ho : PE X o to) (he : PE X e te) (m : M1 X o "add" apos e cpos) : PE X (.Call (.Attribute o "add" apos) [e] [] cpos) (tSAdd X.prog X.w to te) := by
  refine ⟨?_⟩
  intro pins s σ H Q I h
  refine wpAny_Call_method m.base m.few m.line PySem.F.plainAttrs_set PySem.F.slot_set_add PySem.F.type_set_add (thn (ho pins s σ H _ I h) fun u s1 ⟨x, H1, I1, rx, a, S, n, ex, d, q1⟩ => ?_)
  subst ex
  obtain rfl : u = Value.ref a := rx
  have hS : s1.heap.SetOf (strKind X.prog X.w) a S n := (I1.hok a _ d).1
  refine ⟨hS.typeIs, hS.noDict, ?_⟩
  rw [m.trees]
  refine Calls.callWith_builtin rfl (Calls.evalArgs_plain (Calls.spliced_cons (thn (he pins s1 σ H1 _ I1 q1) fun iv s2 ⟨y, H2, I2, ry, S2, n2, z, ey, e2, hn, q2⟩ => Calls.spliced_nil ?_)))
  subst ey
  obtain ⟨t, rfl⟩ := ry
  have hS2 : s2.heap.SetOf (strKind X.prog X.w) a S2 n2 := (I2.hok a _ e2).1
  refine call_set_add (strKind_is X.prog X.w z t) rfl hS2 hn fun h' hs hS3 => ⟨.non, _, ?_, rfl, q2⟩
  refine I2.write (x := a) (e := a) (by rw [e2]; exact True.intro) (.inl rfl) (fun b q hb z => (hs.2 b hb).trans z) (let ⟨o, _, _, _, h1, _⟩ := hS3; ⟨o, h1⟩) (setO_ok hS3)
/-! ### o.m() of an instance of one of several classes -/
def tMethP (Cs : Addr → Prop) (m : Str) (sp : Sp) (E : XK) (ta : TE) : TE := fun σ H Q => ta σ H fun x H1 => ∃ a C dx fs, x = .ref a ∧ Cs C ∧ H1 a = some (.ins C dx fs) ∧ fs.lookup m = none ∧ sp [x] H1 Q E
theorem pe_methP {CX : CXT} {k : Nat} {f : Addr} {fd : FuncData} {ps : List Str} {sp : Sp} {E : XK} {m : Str} {pos apos : Pos} {o : Expr} {ta : TE} {Cs : Addr → Prop} {pl : Sem Bool} (he : PE X o ta) (hC : ∀ C, Cs C → Cls X.K C ∧ Meth X.K C m f) (F : FnOk X.prog X.w X.K X.mg X.base CX k f fd ps sp) (hr : Room k X.A) (hb : Binds X.K fd ps []) (hx : Passes CX X E)
    (ht : eval (.Call (.Attribute o m apos) [] [] pos) X.env = (do
      let ov ← eval o X.env
      standAt apos.atName
      let (f, first) ← holding [ov] (getMethod ov m pl)
      callWith pos f first (backTo pos (starEach [] X.env)) (backToKw pos (keywordEach [] X.env))) := by rfl) :
    PE X (.Call (.Attribute o m apos) [] [] pos) (tMethP Cs m sp E ta) := by
  refine ⟨?_⟩
  intro pins s σ H Q I h
  refine PySem.W.methodCall_KW (pl := pl) (thn (he pins s σ H _ I h) fun u s1 ⟨x, H1, I1, rx, a, C, dx, fs, ex, hc, ea, l, q⟩ => ?_) ht
  subst ex
  obtain rfl : u = Value.ref a := rx
  obtain ⟨c, hm⟩ := hC C hc
  refine getmeth_ok I1 ea c hm l ?_
  exact PySem.W.callWith_K0 (first := [.ref a]) I1.kIn hm.kp (run_fn (us := [.ref a]) (vs := [.ref a]) F hr hb .nil hx I1 (.cons rfl .nil) q)
/-! ### D[e], D a written dict of the text with texts as keys -/
structure KTab (w : World) (K : PySem.W.Frag) (a : Addr) (f : Str → Option V) : Prop where
  obj : ∃ es n, K.lookup a = some ⟨.type "dict", none, .dict es n, #[]⟩ ∧ PySem.W.KeysLit w.params es.toList
  vals : ∀ x v, f x = some v → ∃ u, PySem.W.nsIn K a x = some (some u) ∧ RelV v u
theorem pe_kget {e : Expr} {d : Str} {p pos : Pos} {a : Addr} {f : Str → Option V} {te : TE} (T : KTab X.w X.K a f) (hm : X.mg d = some (.ref a)) (he : PE X e te) (hg : Gl X d := by rfl) (hs : NoSl e := by first | exact fun _ _ => rfl | decide | rfl) (hdb : (d == ("__debug__" : Str)) = false := by decide) :
    PE X (.Subscript (.Name d p) e pos) (fun σ H Q => te σ H fun y H1 => ∃ x v, y = .str x ∧ f x = some v ∧ Q v H1) := by
  refine ⟨?_⟩
  intro pins s σ H Q I h
  obtain ⟨es, n, hl, hk⟩ := T.obj
  refine subD_of PySem.F.slot_dict_getitem.lookup hs (ld_glob I hg hm (thn (he pins s σ H _ I h) fun iv s2 ⟨y, H2, I2, ry, x, v, ey, ef, q2⟩ => ?_) hdb)
  subst ey
  obtain ⟨t, rfl⟩ := ry
  obtain ⟨u, eu, ru⟩ := T.vals x v ef
  have hmap := PySem.W.mapOf_K (prog := X.prog) (w := X.w) I2.kIn hl hk
  exact ⟨hmap.typeIs, wpAny_getItem_of (strKind_is X.prog X.w x t) hmap (PySem.W.find_K hl eu) ⟨v, H2, I2.tok _, ru, q2⟩⟩
end
end L2

set_option Elab.async false
set_option linter.all false
set_option maxRecDepth 100000
set_option maxHeartbeats 4000000
namespace L2
open PySem PySem.Spec PyProof.Rows
section
variable {X : Cx} {pins : List (Addr × Obj)} {σ : St} {H : Hp} {s : Shared} {sc : Scope} {fr Nc : List Str} {fp : List Addr} {C : Addr}
/-- the block at its entry: the list at D, the frame at C, both new -/
theorem comp_startO {caps : List (Option Nat)} {h' : Heap} {D : Addr} {m : Str → Option Value} {t' : Nat} {o0 : HO} (I : Inv X pins σ H s) (B : BlockOk X.env sc fr) (hf : ∀ b ∈ fp, FpOk X pins H b) (ho : ∀ b ∈ fp, ∃ o, s.heap.get? b = some o)
    (hC : s.heap.objs.size ≤ C) (hD : s.heap.objs.size ≤ D) (hDC : D ≠ C) (keep : ∀ b o, s.heap.get? b = some o → h'.get? b = some o) (new : ObjOk X.prog X.w (upd H D o0) h' D o0) (hn : h'.Ns C m)
    (hcap : capChk X.N Nc caps X.env sc fr = true) (hlen : caps.length = Nc.length) :
    Inv (compCx X pins sc fr Nc fp s H C) [] (capS caps σ) (upd H D o0) { s with heap := h', toks := t' } := by
  have hk : X.env.scope.kind = .function := I.ok.kind
  have fresh : ∀ a, s.heap.objs.size ≤ a → H a = none := fun a ha => I.hok.fresh ha
  refine ⟨comp_ok I B hf ho hC, rfl, I.bare, Un.laid keep hD (fresh D hD), ⟨m, hn, fun i x v e1 e2 e3 => ?_⟩, fun x c h => ?_, ?_, fun x c h => ?_, fun p hp => ?_, ?_, ?_⟩
  · -- a captured name
    have e2' : (caps[i]?).map (fun o => match o with | none => none | some j => (σ[j]?).join) = some (some v) := by
      have : (capS caps σ)[i]? = some (some v) := e2
      unfold capS at this
      rw [List.getElem?_map] at this
      exact this
    cases hc : caps[i]? with
    | none => rw [hc] at e2'; cases e2'
    | some o =>
      rw [hc] at e2'
      cases o with
      | none => simp at e2'
      | some j =>
        have e4 : (σ[j]?).join = some v := by simpa using e2'
        have e5 : σ[j]? = some (some v) := by
          cases q : σ[j]? with
          | none => rw [q] at e4; cases e4
          | some w' => rw [q] at e4; simp at e4; rw [e4]
        have e6 : (Nc.zip caps)[i]? = some (x, some j) := by
          rw [List.getElem?_zip_eq_some]
          exact ⟨e1, hc⟩
        have e7 := List.all_eq_true.mp hcap _ (List.mem_of_getElem? e6)
        simp only [Bool.and_eq_true, beq_iff_eq, List.contains_iff_mem] at e7
        obtain ⟨⟨⟨a1, a2⟩, a3⟩, a4⟩ := e7
        obtain ⟨m0, hn0, hl0⟩ := I.loc
        obtain ⟨u, r, l⟩ := hl0 j x v a1 e5 (.inr (.inl a2))
        refine ⟨u, r, .inr ⟨.inl (relabel_free hk a3 a2), _, clB_in a4, ?_⟩⟩
        rcases l with ⟨z, _⟩ | ⟨_, c, ec, hcell⟩
        · rw [a2] at z; cases z
        · have : (X.env.cells.lookup x).getD 0 = c := by rw [ec]; rfl
          rw [this]
          exact hcell.keeps keep
  · obtain ⟨v, hv⟩ := I.cell x c (B.sub h)
    exact ⟨v, hv.keeps keep⟩
  · show upd H D o0 C = none
    rw [upd_ne (Ne.symm hDC)]; exact fresh C hC
  · obtain ⟨v, hv⟩ := I.cell x c (B.sub h)
    have : c ≠ D := fun z => by have := hv.lt; rw [z] at this; exact absurd (Nat.lt_of_lt_of_le this hD) (Nat.lt_irrefl _)
    rw [upd_ne this]; exact I.freeC x c (B.sub h)
  · have hp' : p ∈ X.pn ++ pins := by simpa using hp
    obtain ⟨e, n, ne, nf, d⟩ := I.pin p hp'
    have hlt := I.pin_lt hp'
    refine ⟨keep _ _ e, ?_, ?_, fun z => ?_, d⟩
    · rw [upd_ne (fun z => by rw [z] at hlt; exact absurd (Nat.lt_of_lt_of_le hlt hD) (Nat.lt_irrefl _))]; exact n
    · intro z
      have z' : p.1 = C := z
      rw [z'] at hlt; exact absurd (Nat.lt_of_lt_of_le hlt hC) (Nat.lt_irrefl _)
    · rcases List.mem_cons.mp (I.stkSub p.1 z) with q | q
      · exact ne q
      · exact nf q
  · exact I.hok.laid keep hD new
  · show (capS caps σ).length = Nc.length
    unfold capS
    rw [List.length_map, hlen]
end
section
variable {prog : Program} {w : World} {A : Around} {R : Result → Shared → Prop} {s : Shared}
theorem compLoop_anyD {kx vx target iter : Expr} {ifs : List Expr} {scope : Scope} {pos : Pos} {it : Value} {D : Addr} {env : Env} (I : Nat → Shared → Prop)
    (turn : ∀ n s, I n s → wpAny (model prog w) A (pyNext it) (fun r s₁ => match r with
      | none => R (.ok .next) s₁
      | some v => wpAny (model prog w) A (letOwnedTupleGo target it v) (fun _ s₀ => wpAny (model prog w) A (assign target env v) (fun _ s₂ =>
          wpAny (model prog w) A (forIn ifs true fun c r => if r = true then do let ok ← isTrue c env (eval c env); pure (ForInStep.yield ok) else pure (ForInStep.yield r)) (fun ok s₃ =>
            if ok = true then wpAny (model prog w) A (eval kx env) (fun kv s₄ => wpAny (model prog w) A (eval vx env) (fun vv s₅ =>
              wpAny (model prog w) A (dictSet D kv vv) (fun _ s₆ => ∃ m, m < n ∧ I m s₆) (fun _ _ => False) s₅) (fun _ _ => False) s₄) (fun _ _ => False) s₃
            else ∃ m, m < n ∧ I m s₃) (fun _ _ => False) s₂) (fun _ _ => False) s₀) (fun _ _ => False) s₁) (fun _ _ => False) s)
    (n : Nat) (h : I n s) :
    codeAny (model prog w) A (.compLoop (.DictComp kx vx [⟨target, iter, ifs, 0⟩] scope pos) 0 it (.ref D) env) R s := by
  refine codeAny_loop rfl I (fun n s hI => ?_) n h
  show wpAny _ A ((compTurn (.DictComp kx vx [⟨target, iter, ifs, 0⟩] scope pos) 0 it (.ref D) env).onRaise (fun x => do noteFrame x env; theTreesLotGoes x)) _ _ s
  refine wpAny_noted ?_
  rw [compTurn_dict]
  refine wpAny_bind (wpAny_standAt (wpAny_bind (wpAny_mono (turn n s hI) (fun r s₁ h₁ => ?_) fun _ _ z => z.elim)))
  cases r with
  | none => exact wpAny_pure h₁
  | some v =>
    refine wpAny_bind (wpAny_mono h₁ (fun _ s₀ h₀ => ?_) fun _ _ z => z.elim)
    refine wpAny_bind (wpAny_mono h₀ (fun _ s₂ h₂ => wpAny_bind (wpAny_mono h₂ (fun ok s₃ h₃ => ?_) fun _ _ z => z.elim)) fun _ _ z => z.elim)
    cases ok with
    | false => exact wpAny_pure ⟨rfl, h₃⟩
    | true =>
      exact wpAny_bind (wpAny_bind (wpAny_mono h₃ (fun kv s₄ h₄ => wpAny_bind (wpAny_holding (wpAny_mono h₄ (fun vv s₅ h₅ => wpAny_bind (wpAny_standAt (wpAny_holding (wpAny_mono h₅ (fun _ s₆ h₆ => wpAny_pure ⟨rfl, h₆⟩) fun _ _ z => z.elim)))) fun _ _ z => z.elim))) fun _ _ z => z.elim))
end
/-- what is asked of a block that makes the dict at D -/
def DCr (J : It) (caps : List (Option Nat)) (g : TG) (tt : TT) (tk tv : TE) (σ : St) (H1 : Hp) (Q : VK) (D : Addr) : Prop :=
  ∃ W : Nat → Nat → List (Key × V) → Hp → Prop, (∃ m, W 0 m [] (upd H1 D (.dK []))) ∧ ∀ i m ys H, W i m ys H →
    (J.stop i H ∧ Q (.ref D) H) ∨
    (J.go i H ∧ ∀ x H', J.yld i H x H' → g x (capS caps σ) H' fun σ2 H2 => tt σ2 H2 fun ok H3 =>
      (ok = true → tk σ2 H3 fun y H4 => tv σ2 H4 fun v H5 => ∃ k, y = kV k ∧ H5 D = some (.dK ys) ∧ ys.length < sizeLine ∧ ∃ m', m' < m ∧ W (i + 1) m' (putK ys k v) (upd H5 D (.dK (putK ys k v)))) ∧
      (ok = false → ∃ m', m' < m ∧ W (i + 1) m' ys H3))
def tDC (wi : TI) (caps : List (Option Nat)) (g : TG) (tt : TT) (tk tv : TE) : TE := fun σ H Q => wi σ H fun J H1 => ∀ D, H1 D = none → DCr J caps g tt tk tv σ H1 Q D
section
variable {X : Cx} {pins : List (Addr × Obj)} {σ : St} {s : Shared} {sc : Scope} {fr Nc : List Str} {caps : List (Option Nat)} {kx vx tg iter : Expr} {ifs : List Expr} {g : TG} {tt : TT} {tk tv : TE} {ow : List Nat} {pos pos2 : Pos} {E : Value → Shared → Prop}
theorem sysLt {H : Hp} (I : Inv X pins σ H s) : sysModules < s.heap.objs.size := I.big
theorem comp_runD {H2 : Hp} {it : Addr} {fp : List Addr} {tn : Nat → Heap → Prop} {J : It} {Q : VK} {RR : Value → Addr → Result → Shared → Prop}
    (hc : X.calm = true) (B : BlockOk X.env sc fr) (go : GOwn g ow) (how : (ow.all fun i => caps[i]? == some none) = true) (hcap : capChk X.N Nc caps X.env sc fr = true) (hlen : caps.length = Nc.length)
    (hb : ∀ (pins : List (Addr × Obj)) (fp : List Addr) (s : Shared) (H : Hp) (C : Addr), PG (compCx X pins sc fr Nc fp s H C) tg g ∧ PIf (compCx X pins sc fr Nc fp s H C) ifs tt ∧ PE (compCx X pins sc fr Nc fp s H C) kx tk ∧ PE (compCx X pins sc fr Nc fp s H C) vx tv)
    (I2 : Inv X pins σ H2 s) (T : Turn X.prog X.w X.K tg J fp it tn) (st2 : tn 0 s.heap) (f2 : ∀ b ∈ fp, FpOk X pins H2 b) (h : ∀ D, H2 D = none → DCr J caps g tt tk tv σ H2 Q D)
    (fin : ∀ (D C : Addr) (σ' : St) (H' : Hp) (s' : Shared), Inv (compCx X pins sc fr Nc fp s H2 C) [] σ' H' s' → Q (.ref D) H' → RR (.ref D) C (.ok .next) s') :
    wpAny (model X.prog X.w) X.A newDict (fun acc s₃ => wpAny (model X.prog X.w) X.A (newFunctionEnv sc X.env.globals (clB X.env fr) [] X.env.qual none .none (some X.env)) (fun cenv s₄ =>
      codeAny (model X.prog X.w) X.A (.compStart (.DictComp kx vx [⟨tg, iter, ifs, 0⟩] sc pos) 0 (.ref it) acc { cenv with scope := relabel sc X.env }) (RR acc cenv.locals) s₄) E s₃) E s := by
  have hcell : ∀ y ∈ sc.names, y.2 ≠ .cell := fun y hy => by
    have h3 := List.all_eq_true.mp B.names _ hy
    simp only [Bool.and_eq_true, bne_iff_ne, ne_eq] at h3
    exact h3.1.1
  refine wpAny_newObj_type (wpAny_newFunctionEnv hcell (by intro y hy; simp at hy) (fun h₁ hns₁ hsb₁ => ?_) B.kind)
  dsimp only at hns₁ hsb₁ ⊢
  have hnew : (s.heap.push { cls := .type "dict", dict := none, data := .dict #[] }).DictOf (mixKind X.prog X.w) s.heap.objs.size [] := Heap.DictOf.new s.heap
  generalize hH2 : s.heap.push { cls := .type "dict", dict := none, data := .dict #[] } = H3 at hns₁ hsb₁ hnew ⊢
  have hCs : H3.objs.size = s.heap.objs.size + 1 := by rw [← hH2, Heap.size_push]
  have hDC : s.heap.objs.size ≠ H3.objs.size := by rw [hCs]; exact Nat.ne_of_lt (Nat.lt_succ_self _)
  have hC : s.heap.objs.size ≤ H3.objs.size := by rw [hCs]; exact Nat.le_succ _
  have old : ∀ b o, s.heap.get? b = some o → h₁.get? b = some o := fun b o e =>
    hsb₁.extBut b o (Nat.ne_of_lt (Nat.lt_of_lt_of_le (Heap.lt_size e) hC)) (Heap.get?_push_of_some _ (hH2 ▸ Heap.get?_push_of_some _ e))
  have hsm : sysModules < s.heap.objs.size := sysLt I2
  have hD : h₁.DictOf (mixKind X.prog X.w) s.heap.objs.size [] := hnew.at fun o e => hsb₁.extBut _ _ hDC (Heap.get?_push_of_some _ e)
  have hDo : ∀ H', ObjOk X.prog X.w H' h₁ s.heap.objs.size (.dK []) := fun _ => ⟨Nat.zero_le _, beq_eq_false_iff_ne.mpr (Ne.symm (Nat.ne_of_lt hsm)), [], .nil, hD⟩
  have ho : ∀ b ∈ fp, ∃ o, s.heap.get? b = some o := fun b hb' => let ⟨o, e, _⟩ := T.obj 0 _ st2 b hb'; ⟨o, e⟩
  have I4 : ∀ t', Inv (compCx X pins sc fr Nc fp s H2 H3.objs.size) [] (capS caps σ) (upd H2 s.heap.objs.size (.dK [])) { s with heap := h₁, toks := t' } := fun t' =>
    comp_startO I2 B f2 ho hC (Nat.le_refl _) hDC old (hDo _) hns₁ hcap hlen
  have ok := (I4 0).ok
  obtain ⟨hbg, hbt, hbk, hbv⟩ := hb pins fp s H2 H3.objs.size
  obtain ⟨W, ⟨m0, w0⟩, turn⟩ := h s.heap.objs.size (I2.hok.fresh (Nat.le_refl _))
  have stat : ∀ {H' : Hp}, (∀ b ∈ fp, H' b = none) → ∀ b ∈ fp, FpOk (compCx X pins sc fr Nc fp s H2 H3.objs.size) [] H' b := fun hn b hb' =>
    ⟨hn b hb', (ok.exf b hb').1, ok.exfs b hb', .inl hb', (ok.exf b hb').2, fun p hp => (f2 b hb').2.2.2.2.2 p (by simpa using hp)⟩
  have hfp0 : ∀ b ∈ fp, upd H2 s.heap.objs.size (.dK []) b = none := fun b hb' => by
    obtain ⟨o, e⟩ := ho b hb'
    rw [upd_ne (Nat.ne_of_lt (Heap.lt_size e))]
    exact (f2 b hb').1
  have loop : ∀ s₃ : Shared, s₃ = { s with heap := h₁, toks := s.toks + ([] : List (Str × Value)).length } →
      codeAny (model X.prog X.w) X.A (.compLoop (.DictComp kx vx [⟨tg, iter, ifs, 0⟩] sc pos) 0 (.ref it) (.ref s.heap.objs.size) (compEnvC sc (clB X.env fr) H3.objs.size X.env)) (RR (.ref s.heap.objs.size) H3.objs.size) s₃ := by
    rintro s₃ rfl
    refine compLoop_anyD (fun n s' => ∃ i σ' H' ys, Inv (compCx X pins sc fr Nc fp s H2 H3.objs.size) [] σ' H' s' ∧ tn i s'.heap ∧ (∀ b ∈ fp, H' b = none) ∧ W i n ys H' ∧
      (∀ (k : Nat) (v : V), (capS caps σ)[k]? = some (some v) → σ'[k]? = some (some v))) ?_ m0
      ⟨0, _, _, [], I4 _, T.keep _ _ _ st2 (fun b _ o e => old b o e), hfp0, w0, fun _ _ e => e⟩
    rintro n s3 ⟨i, σ3, H4, ys, I3, st3, fr3, w3, wk3⟩
    have I3' : Inv (compCx X pins sc fr Nc fp s H2 H3.objs.size) [] (capS caps σ) H4 s3 := I3.weak (by rw [I3.len]; exact (I4 0).len) wk3
    rcases turn i n ys H4 w3 with ⟨stop, qn⟩ | ⟨gg, step⟩
    · refine thn (T.done (compCx X pins sc fr Nc fp s H2 H3.objs.size) rfl rfl rfl hc i [] s3 _ H4 (fun _ _ => False) I3' (stat fr3) st3 stop) fun r s4 ⟨hr, I4'⟩ => ?_
      subst hr
      exact fin _ _ _ _ _ I4' qn
    · refine thn (T.item (compCx X pins sc fr Nc fp s H2 H3.objs.size) rfl rfl rfl hc i [] s3 _ H4 (fun _ _ => False) I3' (stat fr3) st3 gg) fun r s4 ⟨u, hr, h4⟩ => ?_
      subst hr
      refine thn h4 fun _ s5 ⟨x, H5, I5, r5, y5, st5, fr5⟩ => ?_
      have I5' := I5.pinned (stat fr5) (T.obj _ _ st5)
      refine thn (hbg _ s5 _ H5 x u _ I5' r5 (go _ _ _ _ (step x H5 y5))) fun _ s6 ⟨σ6, H6, I6, q6, l6, k6⟩ => ?_
      have wk6 : ∀ (k : Nat) (v : V), (capS caps σ)[k]? = some (some v) → σ6[k]? = some (some v) := fun k v e => by
        rw [k6 k fun hk => ?_]
        · exact e
        · have h1 := List.all_eq_true.mp how k hk
          have h2 : caps[k]? = some none := by simpa using h1
          unfold capS at e
          rw [List.getElem?_map, h2] at e
          cases e
      refine thn (hbt _ s6 σ6 H6 _ I6 q6) fun ok s7 ⟨H7, I7, q7⟩ => ?_
      have again : ∀ {H8 : Hp} {s8 : Shared} {ys' : List (Key × V)}, Inv (compCx X pins sc fr Nc fp s H2 H3.objs.size) ([] ++ pinsAt fp s5.heap) σ6 H8 s8 → (∃ m', m' < n ∧ W (i + 1) m' ys' H8) →
          ∃ m, m < n ∧ ∃ i σ' H' ys, Inv (compCx X pins sc fr Nc fp s H2 H3.objs.size) [] σ' H' s8 ∧ tn i s8.heap ∧ (∀ b ∈ fp, H' b = none) ∧ W i m ys H' ∧ (∀ (k : Nat) (v : V), (capS caps σ)[k]? = some (some v) → σ'[k]? = some (some v)) := fun {H8 s8 ys'} I8 ⟨m', hm, w8⟩ => by
        refine ⟨m', hm, i + 1, σ6, H8, ys', I8.unpinned, T.keep _ _ _ st5 fun b hb' o e => (I8.pin (b, o) (List.mem_append_right _ (List.mem_append_right _ (mem_pinsAt hb' e)))).1, fun b hb' => ?_, w8, wk6⟩
        obtain ⟨o, e, d⟩ := T.obj _ _ st5 b hb'
        exact (I8.pin (b, o) (List.mem_append_right _ (List.mem_append_right _ (mem_pinsAt hb' e)))).2.1
      cases ok with
      | false =>
        rw [if_neg Bool.false_ne_true]
        exact again I7 (q7.2 rfl)
      | true =>
        rw [if_pos rfl]
        refine thn (hbk _ s7 σ6 H7 _ I7 (q7.1 rfl)) fun uk s8 ⟨y, H8, I8, r8, q8⟩ => ?_
        refine thn (hbv _ s8 σ6 H8 _ I8 q8) fun uv s9 ⟨v, H9, I9, r9, k, ey, hD9, hz, q9⟩ => ?_
        subst ey
        obtain ⟨z, hd, vs, rel, dd⟩ := dk_of I9.hok hD9
        have hzs : vs.length ≤ sizeLine := by rw [← rel.length]; exact z
        have hl : (putK ys k v).length ≤ sizeLine := by have := length_putK ys k v; omega
        refine wpAny_dictSet_pairs (hsz := hzs) (kV_is r8) dd fun h' dd' hs => ?_
        have he : ∃ q, h'.get? s.heap.objs.size = some q := let ⟨q, _, _, hq, _⟩ := dd'; ⟨q, hq⟩
        exact again (d_write I9 (by rw [hD9]; exact True.intro) hs he (dk_new hl hd (rel.put k r9) dd')) q9
  exact codeAny_compStart_dict (loop _ rfl) (T.self _ 0 _ _ _ (T.keep _ _ _ st2 (fun b _ o e => old b o e)) (loop _ rfl))
theorem pe_dc {wi : TI} (fr Nc : List Str) (caps : List (Option Nat)) (hc : X.calm = true) (B : BlockOk X.env sc fr) (hi : PI X tg iter wi) (go : GOwn g ow) (how : (ow.all fun i => caps[i]? == some none) = true)
    (hcap : capChk X.N Nc caps X.env sc fr = true) (hlen : caps.length = Nc.length)
    (hb : ∀ (pins : List (Addr × Obj)) (fp : List Addr) (s : Shared) (H : Hp) (C : Addr), PG (compCx X pins sc fr Nc fp s H C) tg g ∧ PIf (compCx X pins sc fr Nc fp s H C) ifs tt ∧ PE (compCx X pins sc fr Nc fp s H C) kx tk ∧ PE (compCx X pins sc fr Nc fp s H C) vx tv)
    (hs : ∀ x, foldedSetIterable iter X.env x = pure x := by intro _; rfl) : PE X (.DictComp kx vx [⟨tg, iter, ifs, 0⟩] sc pos) (tDC wi caps g tt tk tv) := by
  refine ⟨?_⟩
  intro pins s σ H Q I h
  rw [arm_eval_DictComp]
  refine wpAny_comprehension_free (use := none) rfl hs B.clos B.kind B.loc (thn (hi pins s σ H _ I h) fun v s1 h1 => thn h1 fun itv s2 h2 => ?_)
  obtain ⟨it, fp, tn, J, H2, e, I2, T, st2, f2, q⟩ := h2
  subst e
  refine comp_runD (RR := fun acc C => compPost (model X.prog X.w) X.A X.xe none (EP X pins σ Q) acc C) hc B go how hcap hlen hb I2 T st2 f2 q ?_
  intro D C σ' H' s' J' qq
  obtain ⟨m, hn, _⟩ := J'.loc
  exact ⟨m, hn, fun h' hs' => ⟨.ref D, H', comp_gone I2 J' (comp_back I2 f2 J') hs', rfl, qq⟩⟩
end
end L2

set_option Elab.async false
set_option linter.all false
set_option maxRecDepth 100000
set_option maxHeartbeats 4000000
namespace L2
open PySem PySem.Spec PyProof.Rows
/-! ### xs[::-1] -/
/-! ### xs.index(t): tuples of flat items -/
def eqT (xs ys : List V) : Bool := ((List.range (min xs.length ys.length)).all fun j => eqV (xs[j]?.getD .non) (ys[j]?.getD .non)) && xs.length == ys.length
end L2

set_option Elab.async false
set_option linter.all false
set_option maxRecDepth 100000
set_option maxHeartbeats 4000000
namespace L2
open PySem PySem.Spec PyProof.Rows
/-! ### a dict that is only read from now on -/
section
variable {X : Cx} {pins : List (Addr × Obj)} {σ : St} {H : Hp} {s : Shared}
theorem Inv.freeze (I : Inv X pins σ H s) {l : Addr} {kvs : List (Key × V)} (hl : H l = some (.dK kvs)) : ∃ o, s.heap.get? l = some o ∧ Inv X pins σ (upd H l (.frz o (.dK kvs))) s := by
  obtain ⟨hz, hy, vs, r, o, es, ep, ho, c⟩ := id (I.hok l _ hl)
  refine ⟨o, ho, ⟨I.ok, I.os, I.bare, ⟨I.base.keep, I.base.slot, fun b u e n x => ?_, I.base.there, fun b xs e => ?_, fun b u v e => ?_, fun b ps e => ?_⟩, I.loc, I.cell, ?_, fun x c e => ?_, fun p hp' => ?_, fun b u e => ?_, I.len⟩⟩
  · have e1 := I.base.free b u e n x
    rw [upd_ne (ne_of_none hl e1).symm]; exact e1
  · have e1 := I.base.tups b xs e
    rw [upd_ne (ne_of e1 hl (by intro z; cases z))]; exact e1
  · have e1 := I.base.frzs b u v e
    rw [upd_ne (ne_of e1 hl (by intro z; cases z))]; exact e1
  · obtain ⟨more, e1⟩ := I.base.tbls b ps e
    exact ⟨more, by rw [upd_ne (ne_of e1 hl (by intro z; cases z))]; exact e1⟩
  · rw [upd_ne (ne_of_none hl I.free).symm]; exact I.free
  · rw [upd_ne (ne_of_none hl (I.freeC x c e)).symm]; exact I.freeC x c e
  · obtain ⟨q1, q2, q3⟩ := I.pin p hp'
    exact ⟨q1, by rw [upd_ne (ne_of_none hl q2).symm]; exact q2, q3⟩
  · have ho' : ∀ c, ∀ b, H b = some (.own c) → upd H l (.frz o (.dK kvs)) b = some (.own c) := fun c b q => by rw [upd_ne (ne_of q hl (by intro z; cases z))]; exact q
    have ht' : ∀ b xs, H b = some (.tup xs) → upd H l (.frz o (.dK kvs)) b = some (.tup xs) := fun b xs q => by rw [upd_ne (ne_of q hl (by intro z; cases z))]; exact q
    by_cases hb : b = l
    · subst hb; rw [upd_same] at e; cases e
      exact ⟨ho, (I.hok b _ hl).stay (fun _ _ _ q => q) (ho' b) ht'⟩
    · rw [upd_ne hb] at e
      exact (I.hok b u e).stay (fun _ _ _ q => q) (ho' b) ht'
def tFrz (te : TE) : TE := fun σ H Q => te σ H fun x H1 => ∃ l kvs, x = .ref l ∧ H1 l = some (.dK kvs) ∧ ∀ o, Q x (upd H1 l (.frz o (.dK kvs)))
theorem pe_frz {e : Expr} {te : TE} (h : PE X e te) : PE X e (tFrz te) := by
  refine ⟨?_⟩
  intro pins s σ H Q I hw
  refine thn (h pins s σ H _ I hw) fun v s1 ⟨x, H1, I1, r1, l, kvs, ex, hl, q⟩ => ?_
  obtain ⟨o, _, I2⟩ := I1.freeze hl
  exact ⟨x, _, I2, r1, q o⟩
end
/-! ### for k, v in d.items(), d only read -/
theorem rel_key {k : Key} {u : Value} (h : keyIs k u = true) : RelV (kV k) u := by
  rcases keyIs_shape h with ⟨i, t, rfl, rfl⟩ | ⟨x, t, rfl, rfl⟩
  · exact ⟨t, rfl⟩
  · exact ⟨t, rfl⟩
def Itd (d : Addr) (o : Obj) (kvs : List (Key × V)) : It :=
  ⟨fun i H => H d = some (.frz o (.dK kvs)) ∧ i < kvs.length, fun i H x H' => ∃ (p : Addr) (k : Key) (v : V), x = .ref p ∧ H p = none ∧ kvs[i]? = some (k, v) ∧ H' = upd H p (.tup [kV k, v]), fun i H => H d = some (.frz o (.dK kvs)) ∧ kvs.length ≤ i⟩
theorem frz_at {X : Cx} {pins : List (Addr × Obj)} {σ : St} {H : Hp} {s : Shared} {d : Addr} {o : Obj} {kvs : List (Key × V)} {es : Array DictEntry} {ep : Nat} (I : Inv X pins σ H s) (hd : H d = some (.frz o (.dK kvs))) (ho : o.data = .dict es ep) :
    (d == sysModules) = false ∧ ∃ vs, KV kvs vs ∧ s.heap.DictAt (mixKind X.prog X.w) d vs ep := by
  obtain ⟨e, hz, hy, vs, r, o', es', ep', ho', c1, c2, c3⟩ := id (I.hok d _ hd)
  rw [e] at ho'
  cases ho'
  rw [ho] at c2
  cases c2
  exact ⟨hy, vs, r, o, es, e, c1, ho, c3⟩
theorem entry_itemiter_iter : entryFor table "dict_itemiterator.__iter__" = some Builtin.«dict_keyiterator.__iter__» := entryFor_alias (id' := "dict_keyiterator.__iter__") (by kernel_rfl) (by first | rfl | decide +kernel | (unfold String.splitOn; simp +decide [String.splitOnAux])) (by decide +kernel) (by kernel_rfl)
theorem wpAny_pyIter_itemiter {P : Program} {w : World} {A : Around} {E : Value → Shared → Prop} {s : Shared} {it d : Addr} {i n ep : Nat} {ok ov : Value} {Q : Value → Shared → Prop} (he : IsItemIter s.heap it d i n ep ok ov) (h : Q (.ref it) s) : wpAny (model P w) A (pyIter (.ref it)) Q E s := by
  have hT : s.TypeIs (.ref it) "dict_itemiterator" := ⟨_, he, rfl⟩
  refine wpAny_pyIter_slot hT F.slot_dict_itemiterator_iter (wpAny_call_entry F.slot_dict_itemiterator_iter hT entry_itemiter_iter ?_ (F.args_dict_itemiterator_iter_1 _))
  show wpAny _ _ (ret (.ref it)) _ _ s
  exact wpAny_pure ⟨_, rfl, "dict_itemiterator", _, hT, F.slot_dict_itemiterator_next.lookup, h⟩
theorem turn_items {P : Program} {w : World} {K : PySem.W.Frag} {elts : List Expr} {x1 : Nat} {tpos : Pos} (d it : Addr) (o : Obj) (kvs : List (Key × V)) (es : Array DictEntry) (ep : Nat) (ho : o.data = .dict es ep) :
    Turn P w K (.Tuple elts x1 tpos) (Itd d o kvs) [it] it (fun i h => ∃ ok ov, IsItemIter h it d i kvs.length ep ok ov) where
  mem := by simp
  obj := fun i h st b hb => by
    have e' : b = it := by simpa using hb
    subst e'
    obtain ⟨ok, ov, hi⟩ := st
    exact ⟨_, hi, fun v q => by cases q⟩
  keep := fun i h h' st k => by
    obtain ⟨ok, ov, hi⟩ := st
    exact ⟨ok, ov, k it (by simp) _ hi⟩
  item := by
    intro X hP hw hK hc i pins s σ H E I hf st hg
    subst hP hw hK
    obtain ⟨f0, f1, f2, f3, f4, f5⟩ := hf it (by simp)
    obtain ⟨ok, ov, hit⟩ := st
    obtain ⟨hd, hlt⟩ := hg
    obtain ⟨hy, vs, r, hm⟩ := frz_at I hd ho
    have hl : kvs.length = vs.length := r.length
    obtain ⟨⟨k2, u⟩, hu, ek, ru⟩ := Paired.get r (List.getElem?_eq_getElem hlt)
    rw [hl] at hit
    obtain ⟨k, v, hkv⟩ : ∃ k v, kvs[i] = (k, v) := ⟨_, _, rfl⟩
    have ek : k = k2 := by rw [hkv] at ek; exact ek
    have ru2 : RelV v u := by rw [hkv] at ru; exact ru
    subst ek
    refine wpAny_pyNext_items_item hit hm hu fun key h' hk2 he' htup hsz hkp => ?_
    have rk : RelV (kV k) key := rel_key hk2
    have I0 : Inv X pins σ H { s with heap := h' } := I.turned (t' := s.toks) (it := it) hkp f0 f1 f3 f4 f5
    have hfr : H s.heap.objs.size = none := I.hok.fresh (Nat.le_refl _)
    have I1 : Inv X pins σ (upd H s.heap.objs.size (.tup [kV k, v])) { s with heap := h' } := by
      have hok : HOk X.prog X.w (upd H s.heap.objs.size (.tup [kV k, v])) h' := fun b o q => by
        by_cases hb : b = s.heap.objs.size
        · subst hb
          rw [upd_same] at q; cases q
          exact ⟨by show 2 ≤ sizeLine; decide, [key, u], .cons rk (.cons ru2 .nil), ⟨_, htup, rfl, _, rfl⟩⟩
        · rw [upd_ne hb] at q
          exact (I0.hok b o q).stay (fun _ _ _ z => z) (fun c z => by rw [upd_ne (ne_of_none z hfr)]; exact z) fun c xs' z => by rw [upd_ne (ne_of_none z hfr)]; exact z
      refine I0.step (s := { s with heap := h' }) (g' := s.gens) (d' := s.drawn) (h' := h') (t' := s.toks) (ch := [s.heap.objs.size]) (fun b hb => ?_) (fun b o _ _ _ e1 _ => e1) (fun b o _ _ _ e1 _ => ⟨o.slots, e1⟩) (fun b o hb e1 n => by rw [upd_ne (fun z => hb (by simp [z]))]; exact n)
        (fun b o _ e1 => ⟨o, e1⟩) (fun b xs' e1 => by rw [upd_ne (ne_of_none e1 hfr)]; exact e1) (fun b o' u' e1 => by rw [upd_ne (ne_of_none e1 hfr)]; exact e1) (fun b ps e1 => ⟨#[], by rw [upd_ne (ne_of_none e1 hfr), e1]; simp⟩) (fun m hm => hm) hok I0.bare
      have e' : b = s.heap.objs.size := by simpa using hb
      subst e'
      refine ⟨.inr I.sz, fun z => ?_, fun y c h z => ?_, fun p hp' z => ?_⟩
      · have := I.lt; rw [← z] at this; exact absurd this (Nat.lt_irrefl _)
      · obtain ⟨v', hv⟩ := I.cell y c h
        have := hv.lt; rw [z] at this; exact absurd this (Nat.lt_irrefl _)
      · have := I.pin_lt hp'; rw [z] at this; exact absurd this (Nat.lt_irrefl _)
    refine ⟨_, rfl, wpAny_letOwnedTupleGo_items he' fun h2 he2 hs2 => ?_⟩
    have nis : s.heap.objs.size ≠ it := fun z => by
      have := Heap.lt_size (show s.heap.get? it = some _ from hit)
      rw [← z] at this; exact absurd this (Nat.lt_irrefl _)
    have I2 : Inv X pins σ (upd H s.heap.objs.size (.tup [kV k, v])) { s with heap := h2 } :=
      I1.turned (s := { s with heap := h' }) (t' := s.toks) (it := it) (fun b o hb q => (hs2.2 b hb).trans q) (by rw [upd_ne nis.symm]; exact f0) f1 f3 f4 f5
    refine ⟨.ref s.heap.objs.size, _, I2, rfl, ⟨_, k, v, rfl, hfr, by rw [List.getElem?_eq_getElem hlt, hkv], rfl⟩, ⟨_, _, by rw [hl]; exact he2⟩, fun b hb => ?_⟩
    have e' : b = it := by simpa using hb
    subst e'
    rw [upd_ne nis.symm]; exact f0
  done := by
    intro X hP hw hK hc i pins s σ H E I hf st hg
    subst hP hw hK
    obtain ⟨ok, ov, hit⟩ := st
    obtain ⟨f0, f1, f2, f3, f4, f5⟩ := hf it (by simp)
    obtain ⟨hd, hle⟩ := hg
    obtain ⟨hy, vs, r, hm⟩ := frz_at I hd ho
    have hl : kvs.length = vs.length := r.length
    rw [hl] at hit
    exact wpAny_pyNext_items_end (I.ok.hd hc) hit hm (List.getElem?_eq_none (by omega)) fun h' eb => ⟨rfl, I.turned (t' := s.toks) (fun b o hb e1 => eb b o hb e1) f0 f1 f3 f4 f5⟩
  self := fun A i s Q E st h => by
    obtain ⟨ok, ov, hit⟩ := st
    exact wpAny_pyIter_itemiter hit h
section
variable {X : Cx} {elts : List Expr} {x1 : Nat} {tpos : Pos}
def iItems (te : TE) : TI := fun σ H R => te σ H fun x H1 => ∃ d o kvs, x = .ref d ∧ H1 d = some (.frz o (.dK kvs)) ∧ R (Itd d o kvs) H1
theorem pi_items {l : Expr} {te : TE} {apos cpos : Pos} (hl : PE X l te) (hbase : attributeBase l "items" X.env (eval l X.env) = eval l X.env := by rfl) (hline : (apos.endLine == cpos.line) = true := by rfl) :
    PI X (.Tuple elts x1 tpos) (.Call (.Attribute l "items" apos) [] [] cpos) (iItems te) := by
  refine ⟨?_⟩
  intro pins s σ H R I h
  refine wpAny_Call_method0_late hbase hline (thn (hl pins s σ H _ I h) fun v s1 ⟨x, H1, I1, r1, d, o, kvs, ex, hd, q⟩ => ?_)
  subst ex
  cases r1
  obtain ⟨e, hz, hy, vs, r, o', es, ep, ho', c1, c2, c3⟩ := id (I1.hok d _ hd)
  rw [e] at ho'
  cases ho'
  have hm : s1.heap.DictAt (mixKind X.prog X.w) d vs ep := ⟨o, es, e, c1, c2, c3⟩
  refine ⟨"dict", "dict.items", F.plainAttrs_dict, F.slot_dict_items, F.type_dict_items, ⟨o, e, c1.1⟩, fun a ea => by cases ea; exact ⟨o, e, c1.2.1⟩, Calls.callWith_builtin rfl (PySem.evalArgs_none ?_)⟩
  refine call_meetsIn F.slot_dict_items ⟨o, e, c1.1⟩ F.entry_dict_items (F.args_dict_items_1 _) (meets_dict_items (mixKind X.prog X.w) d hy) ⟨⟨vs, hm.dictOf⟩, ?_⟩
  show wpAny _ _ (pyIter (.ref s1.heap.objs.size)) _ _ _
  have hl : kvs.length = vs.length := r.length
  refine wpAny_pyIter_items (knd := mixKind X.prog X.w) (d := d) (kvs := vs) (ep := ep) ⟨_, Heap.get?_push_size _ rfl, rfl, rfl⟩ (hm.push _) ?_
  have hk : ∀ b ob, s1.heap.get? b = some ob → ((s1.heap.push { cls := .type "dict_items", data := .fields #[.ref d] }).push { cls := .type "dict_itemiterator", data := .fields #[.none, .bool false, .ref d, .int 0 0, .int vs.length 0, .int ep 0, .none, .none] }).get? b = some ob := fun b ob q => Heap.get?_push_of_some _ (Heap.get?_push_of_some _ q)
  have I2 := I1.kept (t' := s1.toks) hk
  have hsz : (s1.heap.push { cls := .type "dict_items", data := .fields #[.ref d] }).objs.size = s1.heap.objs.size + 1 := Heap.size_push ..
  refine ⟨(s1.heap.push { cls := .type "dict_items", data := .fields #[.ref d] }).objs.size, [(s1.heap.push { cls := .type "dict_items", data := .fields #[.ref d] }).objs.size], _, Itd d o kvs, H1, rfl, I2, turn_items d _ o kvs es ep c2, ⟨.none, .none, ?_⟩, fun b hb => ?_, q⟩
  · rw [hl]
    exact Heap.get?_push_size (s1.heap.push { cls := .type "dict_items", data := .fields #[.ref d] }) (o := { cls := .type "dict_itemiterator", data := .fields #[.none, .bool false, .ref d, .int 0 0, .int vs.length 0, .int ep 0, .none, .none] }) rfl
  · have e' : b = (s1.heap.push { cls := .type "dict_items", data := .fields #[.ref d] }).objs.size := by simpa using hb
    subst e'
    rw [hsz]
    exact I1.fpOk (Nat.le_succ _) (I1.hok.fresh (Nat.le_succ _))
theorem for_items {d : Addr} {o : Obj} {kvs : List (Key × V)} {g : TG} {tb : TS} {D : Ends} {σ : St} {H : Hp} (Pv : Nat → St → Hp → Prop) (h0 : Pv 0 σ H) (hl : ∀ i σ H, i ≤ kvs.length → Pv i σ H → H d = some (.frz o (.dK kvs)))
    (hs : ∀ i k v p σ H, kvs[i]? = some (k, v) → Pv i σ H → H p = none → g (.ref p) σ (upd H p (.tup [kV k, v])) fun σ2 H2 => tb { D with nx := Pv (i + 1), ct := Pv (i + 1), bk := D.nx } σ2 H2) (hd : ∀ σ H, Pv kvs.length σ H → D.nx σ H) :
    ∃ W : Nat → Nat → St → Hp → Prop, (∃ m, W 0 m σ H) ∧ ∀ i m σ H, W i m σ H →
      ((Itd d o kvs).stop i H ∧ D.nx σ H) ∨ ((Itd d o kvs).go i H ∧ ∃ N : St → Hp → Prop, (∀ σ' H', N σ' H' → ∃ m', m' < m ∧ W (i + 1) m' σ' H') ∧ ∀ x H', (Itd d o kvs).yld i H x H' → g x σ H' fun σ2 H2 => tb { D with nx := N, ct := N, bk := D.nx } σ2 H2) := by
  refine ⟨fun i m σ H => m = kvs.length - i ∧ i ≤ kvs.length ∧ Pv i σ H, ⟨kvs.length, by simp, Nat.zero_le _, h0⟩, ?_⟩
  rintro i m σ H ⟨rfl, hi, p⟩
  have q := hl i σ H hi p
  by_cases hlt : i < kvs.length
  · refine .inr ⟨⟨q, hlt⟩, Pv (i + 1), fun σ' H' p' => ⟨kvs.length - (i + 1), by omega, rfl, hlt, p'⟩, fun x H' y => ?_⟩
    obtain ⟨pp, k, v, rfl, hp, y2, rfl⟩ := y
    exact hs i k v pp σ H y2 p hp
  · have e : i = kvs.length := by omega
    subst e
    exact .inl ⟨⟨q, Nat.le_refl _⟩, hd σ H p⟩
end
/-! ### == of tuples of flat items -/
theorem rc_T {X : Cx} {pins : List (Addr × Obj)} {σ : St} {H : Hp} {s : Shared} {A : Around} {a b : Addr} {xs ys : List V} (I : Inv X pins σ H s) (ha : SqT X.K H a xs) (hb : SqT X.K H b ys) (fx : xs.all flatV = true) (fy : ys.all flatV = true) (hu : A.units + 8 < cLine) :
    SeqAt.RcAt A s (.ref a) (.ref b) (eqT xs ys) := by
  obtain ⟨ia, va, pa, _⟩ := I.tuple ha
  obtain ⟨ib, vb, pb, _⟩ := I.tuple hb
  have la : ia.toArray.size = xs.length := by rw [List.size_toArray]; exact va.length.symm
  have lb : ib.toArray.size = ys.length := by rw [List.size_toArray]; exact vb.length.symm
  have := SeqAt.RcAt.tuples (A := A) (s := s) (e := fun j => eqV (xs[j]?.getD .non) (ys[j]?.getD .non)) (show s.heap.IsTuple a ia.toArray from pa) (show s.heap.IsTuple b ib.toArray from pb) (by omega) (fun j h1 h2 => by
    have j1 : j < ia.length := by simpa using h1
    have j2 : j < ib.length := by simpa using h2
    have hxl : j < xs.length := by rw [va.length]; exact j1
    have hyl : j < ys.length := by rw [vb.length]; exact j2
    obtain ⟨u', e1, e2⟩ := va.get (i := j) (List.getElem?_eq_getElem hxl)
    obtain ⟨v', e3, e4⟩ := vb.get (i := j) (List.getElem?_eq_getElem hyl)
    rw [List.getElem?_eq_getElem j1] at e1
    rw [List.getElem?_eq_getElem j2] at e3
    cases e1; cases e3
    have q := eqAt_V (A := A.in1) (s := s) e2 e4 (List.all_eq_true.mp fx _ (List.getElem_mem hxl)) (List.all_eq_true.mp fy _ (List.getElem_mem hyl))
    simpa [hxl, hyl] using q)
  rw [la, lb] at this
  exact this
def rEqTup (K : PySem.W.Frag) : R2 := fun x y H Q => ∃ (a c : Addr) (xs ys : List V), x = .ref a ∧ y = .ref c ∧ SqT K H a xs ∧ SqT K H c ys ∧ xs.all flatV = true ∧ ys.all flatV = true ∧ Q (.bl (eqT xs ys)) H
theorem op_eqTup {X : Cx} (hu : X.A.units + 64 < cLine) : OpR X (compareOp .Eq) (rEqTup X.K) := by
  intro pins s σ H x y v u Q I rx ry h
  obtain ⟨a, c, xs, ys, rfl, rfl, ha, hc, fx, fy, q⟩ := h
  cases rx; cases ry
  exact rc_T (A := X.A) I ha hc fx fy (by omega) X.prog X.w X.xe _ ⟨.bl _, H, I, rfl, q⟩
end L2

set_option Elab.async false
set_option linter.all false
set_option maxRecDepth 100000
set_option maxHeartbeats 4000000
namespace L2
open PySem PySem.Spec PyProof.Rows
/-! ### set(xs), xs a list of texts -/
def seen (val : Nat → Str) (T : Str → Bool) : Nat → Nat → Str → Bool
  | _, 0, z => T z
  | i, k + 1, z => seen val (fun y => T y || decide (y = val i)) (i + 1) k z
section
variable {P : Program} {w : World} {A : Around} {R : Result → Shared → Prop} {I : Addr} {fp wr : List Addr} {G : Array GenState → Array GenState → Prop} {n : Nat} {Pr : Nat → Value → Prop} {Sg : Nat → Shared → Prop}
theorem texts_loop (W : WalksS P w A.in1 I fp wr G n Pr Sg) (a : Addr) (ha : a ∉ fp) (val : Nat → Str) (hv : ∀ i v, Pr i v → ∃ t, v = .str (val i) t) (hb : n + 1 < scanBound) :
    ∀ (k i : Nat) (s : Shared) (T : Str → Bool) (c : Nat), n - i = k → i ≤ n → Sg i s → c ≤ i → s.heap.SetOf (strKind P w) a T c →
      (∀ s' c', Moved (a :: wr) G s s' → c' ≤ n → s'.heap.SetOf (strKind P w) a (seen val T i k) c' → R (.ok (.ret .none)) s') →
      codeAny (model P w) A (.builtin "set.update.loop" ⟨[.ref a, .ref I], []⟩) R s
  | 0, i, s, T, c, hk, hi, hg, hc, hT, hR => by
    have hw : a ∉ wr := fun z => ha (W.sub _ z)
    have ei : i = n := by omega
    subst ei
    refine codeAny_builtin PyProof.Rows.F.entry_set_update_loop ?_; rw [Around.under_plainId PyProof.Rows.F.plain_set_update_loop _]
    show wpAny _ A.in1 (pyNext (.ref I) >>= _) _ _ _; refine wpAny_bind (W.done s _ _ hg fun s' hm => ?_)
    show wpAny _ A.in1 (ret Value.none) _ _ _; refine wpAny_pure (hR s' c (hm.mono fun b z => List.mem_cons_of_mem _ z) hc ?_)
    obtain ⟨ob, es, ep, t, h1, h2⟩ := hT
    exact ⟨ob, es, ep, t, hm.heap a _ hw h1, h2⟩
  | k + 1, i, s, T, c, hk, hi, hg, hc, hT, hR => by
    have hw : a ∉ wr := fun z => ha (W.sub _ z)
    have hlt : i < n := by omega
    refine codeAny_builtin PyProof.Rows.F.entry_set_update_loop ?_; rw [Around.under_plainId PyProof.Rows.F.plain_set_update_loop _]
    show wpAny _ A.in1 (pyNext (.ref I) >>= _) _ _ _; refine wpAny_bind (W.item i s _ _ hlt hg fun v s' hP hg' hm => ?_)
    obtain ⟨t, rfl⟩ := hv i v hP
    have hT' : s'.heap.SetOf (strKind P w) a T c := by
      obtain ⟨ob, es, ep, tb, h1, h2⟩ := hT
      exact ⟨ob, es, ep, tb, hm.heap a _ hw h1, h2⟩
    show wpAny _ A.in1 (holding [Value.str (val i) t] (setAdd a (.str (val i) t)) >>= _) _ _ s'
    refine wpAny_bind (wpAny_holding ?_); unfold setAdd; refine wpAny_holding ?_
    refine wpAny_bind ((strKind P w).pyHash (k := val i) (strKind_is _ _ _ _) ?_)
    refine wpAny_setAddHashed_of (knd := strKind P w) (s := { s' with toks := s'.toks + 1 }) (strKind_is _ _ _ _) rfl hT' (by omega) fun h' hsb h3 => ?_
    refine wpAny_pure ⟨plainId_quiet PyProof.Rows.F.plain_set_update_loop _, texts_loop W a ha val hv hb k (i + 1) _ _ _ (by omega) hlt (W.frame _ s' _ _ hg' (Nat.le_succ _) fun b hb' o e => ?_) (by split <;> omega) h3 fun s2 c2 hm2 hc2 h4 => ?_⟩
    · have : b ≠ a := fun z => ha (z ▸ hb')
      rw [hsb.2 b this]; exact e
    · refine hR s2 c2 (Moved.trans W.gtrans ((hm.mono fun b z => List.mem_cons_of_mem _ z).then_heap (Nat.le_succ _) fun b o hb' e => ?_) hm2) hc2 h4
      have : b ≠ a := fun z => hb' (z ▸ List.mem_cons_self)
      rw [hsb.2 b this]; exact e
end
abbrev setN (led : Bool) : Obj := { cls := .type "set", dict := none, data := .set #[] 0 (.fresh 0 0 led) }
set_option maxHeartbeats 8000000 in
theorem call_texts {P : Program} {w : World} {A : Around} {E : Value → Shared → Prop} {s : Shared} {l : Addr} {items : Array Value} {zs : List Str} {Q : Value → Shared → Prop}
    (hh : A.handled = none) (hl : s.heap.IsList l items) (hv : ∀ (i : Nat) (v : Value), items[i]? = some v → ∃ t, v = .str (zs.getD i "") t) (hb : items.size + 1 < scanBound)
    (h : ∀ (h' : Heap) (tk c : Nat), h'.SetOf (strKind P w) s.heap.objs.size (seen (fun i => zs.getD i "") (fun _ => false) 0 items.size) c → (∀ b o, b < s.heap.objs.size → s.heap.get? b = some o → h'.get? b = some o) → Q (.ref s.heap.objs.size) { s with heap := h', toks := tk }) :
    wpAny (model P w) A (call (.type "set") [.ref l]) Q E s := by
  obtain ⟨mc, mt, mro⟩ := PySem.F.called_set.mro
  have q1 := PySem.F.called_set.made; have q2 := PySem.F.called_set.sub; have q3 := PySem.F.called_set.notType; have q4 := PySem.F.called_set.canCreate; have q5 := PySem.F.typeCall_set_1 (.ref l)
  refine wpAny_call (codeAny_of_tree ?_); show wpAny _ _ (callAny (.type "set") _) _ _ _
  refine wpAny_pure ⟨Code.quiet_builtin _ (by decide +kernel), codeAny_builtin PySem.F.entry_type_call ?_⟩; rw [Around.under_plain (weight_type_call_type "set" [.ref l] []) rfl]
  repeat (any_goals first | assumption | wp_step)
  refine codeAny_mono (code_set_new_1 (.ref l) (E := E) (Q₁ := fun obj s₁ => ∃ led : Bool, obj = .ref s.heap.objs.size ∧ s₁ = { s with heap := s.heap.push (setN led) }) fun led => ⟨led, rfl, rfl⟩) fun r s₁ hr => ?_
  rcases r with e | (_ | _ | _ | obj)
  · exact hr
  · exact hr.elim
  · exact hr.elim
  · exact hr.elim
  · obtain ⟨led, rfl, rfl⟩ := hr
    have hS : (s.heap.push (setN led)).get? s.heap.objs.size = some (setN led) := Heap.get?_push_size _ rfl
    have hT : Shared.TypeIs { s with heap := s.heap.push (setN led) } (.ref s.heap.objs.size) "set" := ⟨_, hS, rfl⟩
    have q6 := PySem.F.called_set.init.lookup; have q7 := PySem.F.called_set.init.bind (.ref s.heap.objs.size)
    repeat (any_goals first | assumption | wp_step)
    refine codeAny_mono (codeAny_call_builtin (R := wants (fun r s₂ => r = .none ∧ ∃ h' tk c, s₂ = { s with heap := h', toks := tk } ∧ h'.SetOf (strKind P w) s.heap.objs.size (seen (fun i => zs.getD i "") (fun _ => false) 0 items.size) c ∧ ∀ b o, b < s.heap.objs.size → s.heap.get? b = some o → h'.get? b = some o) E) PySem.F.called_set.init.plain PySem.F.entry_set_init (check_set_init_1 hT ?_)) fun r₂ s₂ hr₂ => ?_
    · obtain ⟨ol, hol, hcl, nl, hdl⟩ := id hl
      obtain ⟨ocls, odict, odata, oslots⟩ := ol
      simp only at hcl hdl
      subst hcl hdl
      have hol' : (s.heap.push (setN led)).get? l = _ := Heap.get?_push_of_some (setN led) hol
      have t1 := PySem.F.sub_list_set; have t2 := PySem.F.sub_list_frozenset
      have t3 : (Value.type "list" == Value.type "dict") = false := by decide
      have hl1 : (s.heap.push (setN led)).IsList l items := ⟨_, hol', rfl, nl, rfl⟩
      have hlS : l < s.heap.objs.size := Heap.lt_size hol
      unfold Builtin.«set.__init__» noKeywords Builtin.Frozenset.updateFrom
      generalize hq : pyIter = pit
      wp_walk
      subst hq
      refine wpAny_pyIter_list hl1 (wpAny_bind (wpAny_runValue ?_))
      have hz : (s.heap.push (setN led)).objs.size = s.heap.objs.size + 1 := Heap.size_push ..
      have n1 : l ≠ (s.heap.push (setN led)).objs.size := by rw [hz]; exact Nat.ne_of_lt (Nat.lt_succ_of_lt hlS)
      have n2 : ∀ b : Addr, b < s.heap.objs.size → b ∉ [s.heap.objs.size, (s.heap.push (setN led)).objs.size] := fun b hb' z => by
        rw [hz] at z
        rcases List.mem_cons.mp z with e | e
        · exact Nat.ne_of_lt hb' e
        · exact Nat.ne_of_lt (Nat.lt_succ_of_lt hb') (List.mem_singleton.mp e)
      have n3 : s.heap.objs.size ∉ [(s.heap.push (setN led)).objs.size, l] := fun z => by
        rw [hz] at z
        rcases List.mem_cons.mp z with e | e
        · exact Nat.ne_of_lt (Nat.lt_succ_self _) e
        · exact Nat.ne_of_gt hlS (List.mem_singleton.mp e)
      refine texts_loop ((Walks.list (by simp [hh]) _ l n1 items).toS) s.heap.objs.size n3 (fun i => zs.getD i "") hv hb items.size 0 _ (fun _ => false) 0 (by omega) (Nat.zero_le _) ⟨⟨_, Heap.get?_push_size _ rfl, rfl, rfl⟩, hl1.push _⟩ (Nat.le_refl _) ?_ ?_
      · exact (PyProof.Rows.setObjOf_fresh (knd := strKind P w) led).setOf (Heap.get?_push_of_some _ hS) (by unfold scanBound; omega)
      · rintro ⟨h', g', d', tk', os'⟩ c' hm hc' hS'
        have e1 : g' = s.gens := hm.gens
        have e2 : d' = s.drawn := hm.drawn
        have e3 : os' = s.os := hm.os
        subst e1 e2 e3
        show wpAny _ _ _ _ _ _
        refine wpAny_pure ?_; show wpAny _ _ (ret Value.none) _ _ _
        refine wpAny_pure ⟨rfl, h', tk', c', rfl, hS', fun b o hb' e => hm.heap b o (n2 b hb') (Heap.get?_push_of_some _ (Heap.get?_push_of_some _ e))⟩
    · rcases r₂ with e | (_ | _ | _ | ob2)
      · exact hr₂
      · exact hr₂.elim
      · exact hr₂.elim
      · exact hr₂.elim
      · obtain ⟨rfl, h', tk, c', rfl, hS', hk'⟩ := hr₂
        repeat (any_goals first | assumption | wp_step)
        exact h _ _ _ hS' hk'
end L2

set_option Elab.async false
set_option linter.all false
set_option maxRecDepth 100000
set_option maxHeartbeats 4000000
namespace L2
open PySem PySem.Spec PyProof.Rows
theorem seen_any (val : Nat → Str) (z : Str) : ∀ (k i : Nat) (T : Str → Bool), seen val T i k z = true ↔ (T z = true ∨ ∃ j, j < k ∧ z = val (i + j))
  | 0, i, T => ⟨fun h => .inl h, fun h => h.elim id fun ⟨j, hj, _⟩ => absurd hj (Nat.not_lt_zero _)⟩
  | k + 1, i, T => by
    show seen val (fun y => T y || decide (y = val i)) (i + 1) k z = true ↔ _
    rw [seen_any val z k (i + 1)]
    simp only [Bool.or_eq_true, decide_eq_true_eq]
    constructor
    · rintro ((h | h) | ⟨j, hj, e⟩)
      · exact .inl h
      · exact .inr ⟨0, by omega, h⟩
      · exact .inr ⟨j + 1, by omega, by rw [show i + (j + 1) = i + 1 + j by omega]; exact e⟩
    · rintro (h | ⟨j, hj, e⟩)
      · exact .inl (.inl h)
      · cases j with
        | zero => exact .inl (.inr e)
        | succ j => exact .inr ⟨j, by omega, by rw [show i + 1 + j = i + (j + 1) by omega]; exact e⟩
theorem seen_mem (zs : List Str) (z : Str) : seen (fun i => zs.getD i "") (fun _ => false) 0 zs.length z = decide (z ∈ zs) := by
  rw [Bool.eq_iff_iff, seen_any, decide_eq_true_eq]
  constructor
  · rintro (h | ⟨j, hj, e⟩)
    · cases h
    · rw [e, Nat.zero_add]
      show zs.getD j "" ∈ zs
      rw [List.getD_eq_getElem?_getD, List.getElem?_eq_getElem hj]
      exact List.getElem_mem hj
  · intro h
    obtain ⟨j, hj, e⟩ := List.mem_iff_getElem.mp h
    refine .inr ⟨j, hj, ?_⟩
    rw [Nat.zero_add]
    show z = zs.getD j ""
    rw [List.getD_eq_getElem?_getD, List.getElem?_eq_getElem hj]
    exact e.symm
theorem Vals.strs_at : ∀ {zs : List Str} {us : List Value}, Vals (zs.map V.str) us → ∀ (i : Nat) (v : Value), us[i]? = some v → ∃ t, v = .str (zs.getD i "") t
  | [], _, .nil, i, v, h => by simp at h
  | z :: zs, _, .cons r t, 0, v, h => by
    obtain ⟨tk, e⟩ := r
    have : v = .str z tk := by rw [← e]; simpa using h.symm
    exact ⟨tk, this⟩
  | z :: zs, _, .cons r t, i + 1, v, h => Vals.strs_at t i v (by simpa using h)
/-- set(xs), xs a list of texts -/
theorem call_setT {X : Cx} (hc : X.calm = true) : CallR X (.type "set") (fun xs H Q => ∃ (p : Addr) (zs : List Str), xs = [.ref p] ∧ SqL X.K H p (zs.map V.str) ∧ zs.length ≤ 900 ∧ ∀ (l : Addr) (n : Nat), H l = none → Q (.ref l) (upd H l (setO X.prog X.w l (fun z => decide (z ∈ zs)) n))) := by
  intro pins s σ H xs us Q I r h
  obtain ⟨p, zs, rfl, hS, lz, q⟩ := h
  obtain ⟨u, rfl, ru⟩ := vals1 r
  cases ru
  obtain ⟨its, rv, hp, hz⟩ := I.list hS
  have hl : its.length = zs.length := by rw [← rv.length, List.length_map]
  have hb : its.toArray.size + 1 < scanBound := by
    rw [List.size_toArray, hl]
    have : 1000 < scanBound := by unfold scanBound; decide
    omega
  refine call_texts (I.ok.hd hc) hp.isList (fun i v e => rv.strs_at i v (by simpa using e)) hb fun h' tk c hS' hk => ?_
  have hsz : its.toArray.size = zs.length := by rw [List.size_toArray, hl]
  rw [hsz] at hS'
  have eS : seen (fun i => zs.getD i "") (fun _ => false) 0 zs.length = fun z => decide (z ∈ zs) := funext (seen_mem zs)
  rw [eS] at hS'
  refine ⟨.ref s.heap.objs.size, _, I.laid (t' := tk) (fun b ob e => hk b ob (Heap.lt_size e) e) (Nat.le_refl _) (setO_ok hS'), rfl, q _ c (I.hok.fresh (Nat.le_refl _))⟩
end L2

set_option Elab.async false
set_option linter.all false
set_option maxRecDepth 100000
set_option maxHeartbeats 4000000
namespace L2
open PySem PySem.Spec PyProof.Rows
section
variable {X : Cx}
/-! ### any(xs), a list of bools -/
theorem call_anyB (hc : X.calm = true) : CallR X (.builtin "any") (fun xs H Q => ∃ (p : Addr) (bs : List Bool), xs = [.ref p] ∧ SqL X.K H p (bs.map V.bl) ∧ Q (.bl (bs.any id)) H) := by
  intro pins s σ H xs us Q I r h
  obtain ⟨p, bs, rfl, hS, q⟩ := h
  obtain ⟨u, rfl, ru⟩ := vals1 r
  cases ru
  obtain ⟨its, rv, hp, hz⟩ := I.list hS
  have hlen : its.length = bs.length := by rw [← rv.length, List.length_map]
  have hne : p ≠ s.heap.objs.size := Nat.ne_of_lt (by obtain ⟨_, e, _⟩ := hp.isList; exact Heap.lt_size e)
  refine call_any_walk (wpAny_pyIter_list hp.isList ?_)
  refine ⟨s.heap.objs.size, _, _, _, _, _, fun i => bs.getD i false, rfl, Walks.list (A := X.A.in1) (I.ok.hd hc) s.heap.objs.size p hne its.toArray, ⟨⟨_, Heap.get?_push_size _ rfl, rfl, rfl⟩, hp.isList.push _⟩, ?_, fun h' tk k => ?_⟩
  · intro i v s' Q' E' hP hQ
    have hv : its[i]? = some v := by simpa using hP
    have hi : i < bs.length := by rw [← hlen]; exact (List.getElem?_eq_some_iff.mp hv).1
    obtain ⟨u', e1, e2⟩ := rv.get (i := i) (x := V.bl bs[i]) (by rw [List.getElem?_map, List.getElem?_eq_getElem hi]; rfl)
    rw [hv] at e1
    cases e1
    cases e2
    refine wpAny_truthy_bool ?_
    have : bs.getD i false = bs[i] := by rw [List.getD_eq_getElem?_getD, List.getElem?_eq_getElem hi]; rfl
    rw [← this]
    exact hQ
  · have e : ((List.range its.toArray.size).any fun i => bs.getD i false) = bs.any id := by
      rw [List.size_toArray, hlen, Bool.eq_iff_iff, List.any_eq_true, List.any_eq_true]
      constructor
      · rintro ⟨i, hi, hb⟩
        have hi' := List.mem_range.mp hi
        rw [List.getD_eq_getElem?_getD, List.getElem?_eq_getElem hi'] at hb
        exact ⟨_, List.getElem_mem hi', hb⟩
      · rintro ⟨b, hb, h1⟩
        obtain ⟨i, hi, rfl⟩ := List.getElem_of_mem hb
        refine ⟨i, List.mem_range.mpr hi, ?_⟩
        rw [List.getD_eq_getElem?_getD, List.getElem?_eq_getElem hi]
        exact h1
    rw [e]
    exact ⟨.bl (bs.any id), H, I.kept (h' := h') (t' := tk) (fun b o q => k b o (fun hm => by
      have e : b = s.heap.objs.size := by simpa using hm
      exact absurd (Heap.lt_size q) (by rw [e]; exact Nat.lt_irrefl _)) (Heap.get?_push_of_some _ q)), rfl, q⟩
end
end L2

set_option Elab.async false
set_option linter.all false
set_option maxRecDepth 100000
set_option maxHeartbeats 4000000
namespace L2
open PySem PySem.Spec PyProof.Rows
/-! ### range(n) as a thing, list(range(n)) -/
def intsTo (n : Nat) : List Int := (List.range n).map fun (i : Nat) => (i : Int)
theorem Vals.of_at {ts : List Int} : ∀ {us : List Value}, us.length = ts.length → (∀ (i : Nat) (v : Value), us[i]? = some v → ∃ t, v = Value.int (ts.getD i 0) t) → Vals (ts.map V.int) us := by
  induction ts with
  | nil =>
    intro us hl _
    have : us = [] := List.length_eq_zero_iff.mp hl
    subst this
    exact .nil
  | cons t ts ih =>
    intro us hl h
    cases us with
    | nil => cases hl
    | cons u us =>
      obtain ⟨k, e⟩ := h 0 u rfl
      exact .cons ⟨k, e⟩ (ih (by simpa using hl) fun i v e => h (i + 1) v e)
section
variable {X : Cx}
theorem call_rng : CallR X (.type "range") (fun xs H Q => ∃ n : Nat, xs = [.int (n : Nat)] ∧ ∀ p, H p = none → Q (.ref p) (upd H p (.rng 0 (n : Nat)))) := by
  intro pins s σ H xs us Q I r h
  obtain ⟨n, rfl, q⟩ := h
  obtain ⟨u, rfl, ru⟩ := vals1 r
  obtain ⟨t, rfl⟩ := ru
  refine call_range_1 ?_
  refine ⟨.ref s.heap.objs.size, _, I.laid (o := .rng 0 (n : Nat)) (fun b u e => Heap.get?_push_of_some _ e) (Nat.le_refl _) ?_, rfl, q _ (I.hok.fresh (Nat.le_refl _))⟩
  exact ⟨_, _, _, Heap.get?_push_size _ rfl⟩
theorem call_listR (hc : X.calm = true) : CallR X (.type "list") (fun xs H Q => ∃ (p : Addr) (n : Nat), xs = [.ref p] ∧ H p = some (.rng 0 (n : Nat)) ∧ n ≤ 900 ∧ ∀ l, H l = none → Q (.ref l) (upd H l (.lst ((intsTo n).map V.int)))) := by
  intro pins s σ H xs us Q I r h
  obtain ⟨p, n, rfl, hp, hn, q⟩ := h
  obtain ⟨u, rfl, ru⟩ := vals1 r
  cases ru
  obtain ⟨t, u', v', e⟩ := I.hok p _ hp
  refine call_list_range (n := n) (I.ok.hd hc) e ?_ ?_ (by omega) fun h' tk acc c' hk he hacc => ?_
  · exact small_one (by omega) (by omega) (by omega) (by omega)
  · unfold Builtin.Range.rangeSize
    rw [if_pos (by decide)]
    split <;> omega
  · have hl : acc.toList.length = (intsTo n).length := by
      unfold intsTo
      rw [List.length_map, List.length_range]
      simpa using hacc.1
    have hv : Vals ((intsTo n).map V.int) acc.toList := Vals.of_at hl fun i v e => by
      obtain ⟨t, rfl⟩ := hacc.2 i v (by simpa using e)
      refine ⟨t, ?_⟩
      have hi : i < n := by
        have := (List.getElem?_eq_some_iff.mp e).1
        rw [hl] at this
        unfold intsTo at this
        simpa using this
      have eg : (intsTo n).getD i 0 = (i : Int) := by
        unfold intsTo
        rw [List.getD_eq_getElem?_getD, List.getElem?_map, List.getElem?_range hi]
        rfl
      rw [eg]
      simp
    refine ⟨.ref s.heap.objs.size, _, I.laid (t' := tk) (o := .lst ((intsTo n).map V.int)) hk (Nat.le_refl _) ⟨?_, acc.toList, c', hv, by simpa using he⟩, rfl, q _ (I.hok.fresh (Nat.le_refl _))⟩
    unfold intsTo
    rw [List.length_map, List.length_map, List.length_range]
    have : 1000 ≤ sizeLine := by decide
    omega
end
end L2

set_option Elab.async false
set_option linter.all false
set_option maxRecDepth 100000
set_option maxHeartbeats 4000000
namespace K65
open PySem L2 PyProof.Rows
def top (i : Nat) : Stmt := PySem.Challenge.pw_callbinds_k65_nothing_left.main.body.getD i (.Pass ⟨0, 0, 0, 0⟩)
abbrev sPInit : Stmt := inClass (top 48) 0
abbrev sFree : Stmt := inClass (top 48) 1
abbrev sByPlace : Stmt := inClass (top 48) 2
abbrev sByName : Stmt := inClass (top 48) 3
abbrev sTakes : Stmt := inClass (top 48) 4
abbrev sTold : Stmt := inClass (top 48) 5
abbrev sSeat : Stmt := inClass (top 49) 0
abbrev sBoth : Stmt := inClass (top 50) 0
abbrev sTail : Stmt := inClass (top 51) 0
abbrev sTag : Stmt := inClass (top 52) 0
abbrev sBag : Stmt := inClass (top 53) 0
abbrev sFInit : Stmt := inClass (top 37) 0
abbrev sKeep : Stmt := inClass (top 37) 1
abbrev sFPars : Stmt := inClass (top 37) 2
abbrev sFBars : Stmt := inClass (top 37) 3
abbrev sFPlaces : Stmt := inClass (top 37) 4
abbrev sFTail : Stmt := inClass (top 37) 5
abbrev sFBag : Stmt := inClass (top 37) 6
abbrev sFNum : Stmt := inClass (top 37) 7
abbrev sPtInit : Stmt := inClass (top 55) 0
abbrev sPtWhole : Stmt := inClass (top 55) 1
abbrev sPtLeft : Stmt := inClass (top 55) 3
abbrev sIs : Stmt := top 31
abbrev sRMany : Stmt := top 39
abbrev sROrder : Stmt := top 40
abbrev sRBars : Stmt := top 41
abbrev sRTwice : Stmt := top 42
abbrev sNumW : Stmt := top 43
abbrev sLaid : Stmt := top 1
abbrev sOf : Stmt := top 2
abbrev sMisfits : Stmt := top 17
abbrev sFits : Stmt := top 18
abbrev sShape : Stmt := top 19
abbrev sFirsts : Stmt := top 20
abbrev sMOf : Stmt := top 21
abbrev sOvers : Stmt := top 22
abbrev sUnw : Stmt := top 23
abbrev sLack : Stmt := top 24
abbrev sOneE : Stmt := top 25
abbrev sFBoth : Stmt := top 26
abbrev sToldF : Stmt := top 38
abbrev sRFirst : Stmt := top 56
abbrev sLeftB : Stmt := top 57
abbrev sTailL : Stmt := top 58
abbrev sTagsL : Stmt := top 59
abbrev sBagOf : Stmt := top 60
abbrev sNth : Stmt := top 62
abbrev sName : Stmt := top 63
abbrev sPlaces : Stmt := top 64
abbrev sEnds : Stmt := top 65
abbrev sCall : Stmt := top 66
abbrev sPacked : Stmt := top 67
abbrev sFitsW : Stmt := top 68
abbrev sLaw : Stmt := top 69


/-! ### the mathematics of names -/
def low (c : Nat) : Bool := decide (97 ≤ c) && decide (c ≤ 122)
def nameB (z : Str) : Bool := decide (1 ≤ z.length) && decide (z.length ≤ 8) && z.cps.toList.all low
def nmV : V → Bool
  | .str z => nameB z
  | _ => false
def OkS (z : Str) : Prop := z.length ≤ 1000 ∧ ∀ c ∈ z.cps.toList, c < 128
def OkV (K : PySem.W.Frag) (H : Hp) (x : V) : Prop := (∃ z, x = .str z ∧ OkS z) ∨ (nmV x = false ∧ ∃ t, TyOf K H x t ∧ PySem.W.kitOne K t (.type "str") = some false)
theorem nameB_iff {z : Str} : nameB z = true ↔ 1 ≤ z.length ∧ z.length ≤ 8 ∧ ∀ c ∈ z.cps.toList, 97 ≤ c ∧ c ≤ 122 := by
  unfold nameB low
  simp only [Bool.and_eq_true, decide_eq_true_eq, List.all_eq_true]
  constructor
  · rintro ⟨⟨a, b⟩, c⟩; exact ⟨a, b, c⟩
  · rintro ⟨a, b, c⟩; exact ⟨⟨a, b⟩, c⟩
theorem nameB_long {z : Str} (h : z.length = 0 ∨ 9 ≤ z.length) : nameB z = false := by
  cases e : nameB z with
  | false => rfl
  | true =>
    have := nameB_iff.mp e
    omega
theorem nameB_ok {z : Str} (h : nameB z = true) : OkS z := by
  obtain ⟨_, h2, h3⟩ := nameB_iff.mp h
  exact ⟨by omega, fun c hc => by have := h3 c hc; omega⟩
def letters : Str := "abcdefghijklmnopqrstuvwxyz"
theorem letters_in : ∀ c : Nat, c < 128 → (!(Builtin.Str.occurrences letters ⟨#[c]⟩ 0 letters.length 1).isEmpty) = low c := by decide +kernel
theorem same_new {H : Hp} {p : Addr} (h : H p = none) (o : HO) : Same H (upd H p o) := fun b u q => by rw [upd_ne (ne_of_none q h)]; exact q
theorem nd1 : ([Str.ofString "sign"] : List Str).Nodup := by decide +kernel
/-! ### the promises -/
def spIs (K : PySem.W.Frag) : Sp := fun vs H Q _ => ∃ x, vs = [x] ∧ OkV K H x ∧ ∀ H', Same H H' → Q (.bl (nmV x)) H'
def spLaw (K : PySem.W.Frag) : Sp := fun vs H Q _ => ∃ (a : Addr) (ns : List Int), vs = [.ref a] ∧ SqL K H a (ns.map V.int) ∧ ns.length ≤ 63 ∧ ∀ H', Q (.bl true) H'
structure Txt1 (K : PySem.W.Frag) (mg : Str → Option Value) : Prop where
  isi : mg "isinstance" = none
  str : mg "str" = none
  bool : mg "bool" = none
  len : mg "len" = none
  all : mg "all" = none
  range : mg "range" = none
  letters : ∃ t, mg "LETTERS" = some (.str letters t)
  longest : ∃ t, mg "LONGEST" = some (.int 8 t)
  kNon : PySem.W.kitOne K (.type "NoneType") (.type "str") = some false
  kInt : PySem.W.kitOne K (.type "int") (.type "str") = some false
  kBl : PySem.W.kitOne K (.type "bool") (.type "str") = some false
  kLst : PySem.W.kitOne K (.type "list") (.type "str") = some false
  kTup : PySem.W.kitOne K (.type "tuple") (.type "str") = some false
  kDct : PySem.W.kitOne K (.type "dict") (.type "str") = some false
  kStr : PySem.W.kitOne K (.type "str") (.type "str") = some true
  bBl : PySem.W.kitOne K (.type "bool") (.type "bool") = some true
end K65

set_option Elab.async false
set_option linter.all false
set_option maxRecDepth 100000
set_option maxHeartbeats 4000000
namespace K65
open PySem L2 PyProof.Rows
section
variable {P : Program} {w : World} {K : PySem.W.Frag} {mg : Str → Option Value} {base : Heap} {f : Addr} {fd : FuncData}
theorem scIs : FnScope ["thing"] ["thing"] (defScope sIs) := ⟨rfl, rfl, rfl, by decide +kernel, rfl, by decide +kernel, by decide +kernel⟩
theorem ok_is (F : Fun K "is_name" "is_name" sIs f fd) (T : Txt1 K mg) : FnOk P w K mg base CX0 1 f fd ["thing"] (spIs K) := by
  refine F.ok scIs (fun vs H Q E h => ?_) (fun cdv A outer s H vs Q E hr h => ?_)
  · obtain ⟨x, rfl, _⟩ := h
    rfl
  obtain ⟨x, rfl, hx, q⟩ := h
  obtain ⟨tL, hL⟩ := T.letters
  obtain ⟨tN, hN⟩ := T.longest
  refine ⟨_, pss_cons (ps_if (PW.pt (pw_or (pt_not (pt_val (cB call_isinst T.isi boot_isinstance (ac (pv 0) (ac (pe_bltn (v := .ty "str") rfl T.str PyProof.Rows.boot_str rfl) pa_nil)))))
      (pw_or1 (pt_not (pt_chain op_le op_le pe_int (cB call_len_str T.len PySem.boot_len (ac (pv 0) pa_nil)) (pe_glob (v := .int 8) rfl hN ⟨_, rfl⟩))))))
      (pss_one (ps_ret pe_bl)) pss_nil)
    (pss_one (ps_ret (cB (call_allB rfl) T.all boot_all (ac (pe_lc [] ["sign"] [none] rfl ⟨rfl, rfl, rfl, rfl⟩ (pi_str (pv 0)) (gown_name 0) rfl rfl rfl
      (fun pins fp s H C => ⟨pg_name (i := 0) nd1 rfl (Or.inl rfl) (.inr rfl), pif_nil, pe_cmpR op_in_str (pv 0) (pe_glob (v := .str letters) rfl hL ⟨_, rfl⟩) (by with_unfolding_all rfl)⟩)) pa_nil)))), ?_⟩
  rcases hx with ⟨z, rfl, hz1, hz2⟩ | ⟨hn, t, ty, e⟩
  · refine ⟨_, rfl, _, _, _, _, rfl, .str z, T.kStr, _, rfl, ?_⟩
    refine iteF ?_
    refine ⟨_, rfl, z, rfl, Nat.le_trans hz1 (by decide), _, _, rfl, rfl, _, rfl, ?_⟩
    have no : nameB z = false → Q (.bl false) H := fun e => by
      have := q H (Same.refl H)
      have e' : nmV (.str z) = false := e
      rw [e'] at this
      exact this
    refine ite2 (fun c => ?_) (fun c => ?_)
    · have c' : (1 : Int) ≤ (z.length : Int) := of_decide_eq_true c
      refine ⟨_, _, rfl, rfl, _, rfl, ?_⟩
      by_cases h8 : (z.length : Int) ≤ 8
      · rw [decide_eq_true h8]
        refine iteF ?_
        -- all([sign in LETTERS for sign in thing])
        refine ⟨_, rfl, z, rfl, fun D hD => ?_⟩
        refine ⟨fun i m ys H' => i ≤ z.cps.size ∧ m = z.cps.size - i ∧ ys = (z.cps.toList.take i).map (fun c => V.bl (low c)) ∧ H' = upd H D (.lst ys), ⟨_, Nat.zero_le _, rfl, rfl, rfl⟩, ?_⟩
        rintro i m ys H' ⟨hi, rfl, rfl, rfl⟩
        by_cases he : i = z.cps.size
        · subst he
          refine .inl ⟨Nat.le_refl _, ?_⟩
          refine ⟨D, z.cps.toList.map low, rfl, SqL.of ?_, ?_⟩
          · rw [upd_same, List.take_of_length_le (by simp), List.map_map]
            rfl
          · have e : (z.cps.toList.map low).all id = nmV (.str z) := by
              show _ = nameB z
              unfold nameB
              rw [decide_eq_true (show 1 ≤ z.length by omega), decide_eq_true (show z.length ≤ 8 by omega), List.all_map]
              rfl
            rw [e]
            exact q _ (same_new hD _)
        · refine .inr ⟨by show i < z.cps.size; omega, ?_⟩
          rintro x H' ⟨rfl, c, hc, rfl⟩
          refine ⟨fun _ => ?_, fun e => Bool.noConfusion e⟩
          refine ⟨_, rfl, _, _, rfl, rfl, upd_same, ?_, z.cps.size - (i + 1), by omega, by omega, rfl, ?_, ?_⟩
          · rw [List.length_map, List.length_take]
            have : z.cps.size ≤ 1000 := hz1
            exact small1000 (by omega)
          · have hc' : z.cps.toList[i]? = some c := by simpa using hc
            have hlow := letters_in c (hz2 c (List.mem_of_getElem? hc'))
            rw [hlow, List.take_add_one, hc', List.map_append]
            rfl
          · rw [upd_upd]
      · rw [decide_eq_false h8]
        refine iteT ?_
        exact no (nameB_long (.inr (by omega)))
    · have c' : ¬ (1 : Int) ≤ (z.length : Int) := of_decide_eq_false (Bool.eq_false_iff.mpr c)
      refine ⟨_, rfl, ?_⟩
      exact iteT (no (nameB_long (.inl (by omega))))
  · refine ⟨_, rfl, _, _, _, _, rfl, ty, e, _, rfl, ?_⟩
    refine iteT ?_
    refine iteT ?_
    have := q H (Same.refl H)
    rw [hn] at this
    exact this


end
end K65

set_option Elab.async false
set_option linter.all false
set_option maxRecDepth 100000
set_option maxHeartbeats 4000000
namespace K65
open PySem L2 PyProof.Rows
abbrev EB : List Value := [.type "ValueError", .type "Exception", .type "BaseException", .type "object"]
theorem dT {A B : Prop} {c : Prop} [Decidable c] (h : c) (a : A) : if decide c = true then A else B := by rw [decide_eq_true h]; exact iteT a
theorem dF {A B : Prop} {c : Prop} [Decidable c] (h : ¬ c) (b : B) : if decide c = true then A else B := by rw [decide_eq_false h]; exact iteF b
def kw : Nat → Str
  | 0 => "seat" | 1 => "both" | 2 => "tail" | 3 => "tag" | _ => "bag"
def fr (k : Nat) (b : Bool) : Bool := match k with
  | 0 => b | 1 => b | 2 => true | 3 => b | _ => true
theorem lt5 {k : Nat} (h : k < 5) : k = 0 ∨ k = 1 ∨ k = 2 ∨ k = 3 ∨ k = 4 := by omega
/-- the attributes of a parameter -/
def pf (wd : Str) (x : V) (b : Bool) : List (Str × V) := putF "may_lack" (.bl b) (putF "name" x (putF "word" (.str wd) []))
theorem pf_word {wd : Str} {x : V} {b : Bool} : (pf wd x b).lookup ("word" : Str) = some (.str wd) := by
  unfold pf
  rw [lookup_putF, if_neg (by decide +kernel), lookup_putF, if_neg (by decide +kernel), lookup_putF, if_pos rfl]
theorem pf_name {wd : Str} {x : V} {b : Bool} : (pf wd x b).lookup ("name" : Str) = some x := by
  unfold pf
  rw [lookup_putF, if_neg (by decide +kernel), lookup_putF, if_pos rfl]
theorem pf_lack {wd : Str} {x : V} {b : Bool} : (pf wd x b).lookup ("may_lack" : Str) = some (.bl b) := by
  unfold pf
  rw [lookup_putF, if_pos rfl]
theorem pf_no {wd : Str} {x : V} {b : Bool} {m : Str} (h1 : ¬ m = "may_lack") (h2 : ¬ m = "name") (h3 : ¬ m = "word") : (pf wd x b).lookup m = none := by
  unfold pf
  rw [lookup_putF, if_neg h1, lookup_putF, if_neg h2, lookup_putF, if_neg h3]
  rfl
/-- the methods' defs -/
structure MA where
  (fF fP fB fT fO : Addr)
structure PC (K : PySem.W.Frag) (m : MA) (C : Addr) : Prop where
  cl : Cls K C
  nW : NoAttr K C "word"
  nN : NoAttr K C "name"
  nM : NoAttr K C "may_lack"
  mF : Meth K C "free" m.fF
  mP : Meth K C "by_place" m.fP
  mB : Meth K C "by_name" m.fB
  mT : Meth K C "takes_one" m.fT
  mO : Meth K C "told" m.fO
def spP (K : PySem.W.Frag) (m : MA) (N : Addr) : Sp := fun vs H Q E => ∃ (p dx C : Addr) (wd : Str) (x : V) (b : Bool), vs = [.ref p, .str wd, x, .bl b] ∧ H p = some (.ins C dx []) ∧ PC K m C ∧ OkV K H x ∧ (nmV x = true → ∀ H1, Same H H1 → Q .non (upd H1 p (.ins C dx (pf wd x b)))) ∧ (nmV x = false → ∀ H1, Same H H1 → E (.ref N) none H1)
def spS (K : PySem.W.Frag) (C N : Addr) (wd : Str) : Sp := fun vs H Q E => ∃ (p dx : Addr) (x : V) (b : Bool), vs = [.ref p, x, .bl b] ∧ H p = some (.ins C dx []) ∧ OkV K H x ∧ (nmV x = true → ∀ H1, Same H H1 → Q .non (upd H1 p (.ins C dx (pf wd x b)))) ∧ (nmV x = false → ∀ H1, Same H H1 → E (.ref N) none H1)
def spT (K : PySem.W.Frag) (C N : Addr) (wd : Str) : Sp := fun vs H Q E => ∃ (p dx : Addr) (x : V), vs = [.ref p, x] ∧ H p = some (.ins C dx []) ∧ OkV K H x ∧ (nmV x = true → ∀ H1, Same H H1 → Q .non (upd H1 p (.ins C dx (pf wd x true)))) ∧ (nmV x = false → ∀ H1, Same H H1 → E (.ref N) none H1)
def bpL : List V := [.str "seat", .str "both"]
def bnL : List V := [.str "both", .str "tag"]
def otL : List V := [.str "seat", .str "both", .str "tag"]
def spFree (K : PySem.W.Frag) (m : MA) : Sp := fun vs H Q _ => ∃ (p dx C : Addr) (wd : Str) (x : V) (b : Bool), vs = [.ref p] ∧ PC K m C ∧ H p = some (.ins C dx (pf wd x b)) ∧ Q (.bl b) H
def spIn (K : PySem.W.Frag) (m : MA) (l : List V) : Sp := fun vs H Q _ => ∃ (p dx C : Addr) (wd : Str) (x : V) (b : Bool), vs = [.ref p] ∧ PC K m C ∧ H p = some (.ins C dx (pf wd x b)) ∧ Q (.bl (inV (.str wd) l)) H
/-- the written tuples of words -/
structure Wds (K : PySem.W.Frag) (mg : Str → Option Value) (tP tB tO : Addr) : Prop where
  mP : mg "BY_PLACE" = some (.ref tP)
  mB : mg "BY_NAME" = some (.ref tB)
  mO : mg "OF_ONE_THING" = some (.ref tO)
  hP : ∀ H, SqT K H tP bpL
  hB : ∀ H, SqT K H tB bnL
  hO : ∀ H, SqT K H tO otL
section
variable {P : Program} {w : World} {K : PySem.W.Frag} {mg : Str → Option Value} {base : Heap} {f C N tP tB tO : Addr} {fd : FuncData} {m : MA}
theorem scPInit : FnScope ["self", "word", "name", "may_lack"] ["self", "word", "name", "may_lack"] (defScope sPInit) := ⟨rfl, rfl, rfl, by decide +kernel, rfl, by decide +kernel, by decide +kernel⟩
theorem ok_pinit {g : Addr} {gd : FuncData} (F : Fun K "__init__" "Parameter.__init__" sPInit f fd) (own : OwnCls "NoName" N EB "ValueError.__new__" mg base) (cI : Callee P w K mg base 1 "is_name" g gd ["thing"] (spIs K)) :
    FnOk P w K mg base (CXe P w) 2 f fd ["self", "word", "name", "may_lack"] (spP K m N) := by
  refine F.okE scPInit (fun vs H Q E h => ?_) (fun cdv A outer s H vs Q E hr h => ?_)
  · obtain ⟨p, dx, C, wd, x, b, rfl, _⟩ := h
    rfl
  obtain ⟨p, dx, C, wd, x, b, rfl, hp, c, hx, q1, q2⟩ := h
  refine ⟨_, pss_cons (ps_if (pt_not (pt_val (cF cI hr (ac (pv 2) pa_nil)))) (pss_one (ps_raise raises_cx own PySem.F.excBase_ValueError (by decide) PySem.F.excBase_ValueError rfl (ac pe_str pa_nil))) pss_nil)
    (pss_cons (ps_fld (pv 0) (pv 1) rfl) (pss_cons (ps_fld (pv 0) (pv 2) rfl) (pss_one (ps_fld (pv 0) (pv 3) rfl)))), ?_⟩
  refine ⟨_, rfl, x, rfl, hx, fun H1 s1 => ⟨_, rfl, ?_⟩⟩
  cases e : nmV x with
  | false =>
    refine iteT ?_
    exact ⟨by show 1 ≤ sizeLine; decide, q2 e _ s1⟩
  | true =>
    refine iteF ?_
    refine ⟨_, rfl, _, rfl, p, C, dx, [], rfl, s1 _ _ hp, c.cl, c.nW, (by show 0 < 1000; decide), ?_⟩
    refine ⟨_, rfl, _, rfl, p, C, dx, _, rfl, upd_same, c.cl, c.nN, (by show 1 < 1000; decide), ?_⟩
    refine ⟨_, rfl, _, rfl, p, C, dx, _, rfl, upd_same, c.cl, c.nM, (by show 2 < 1000; decide), ?_⟩
    rw [upd_upd, upd_upd]
    exact q1 e _ s1
theorem scSeat : FnScope ["self", "name", "free"] ["self", "name", "free"] (defScope sSeat) := ⟨rfl, rfl, rfl, by decide +kernel, rfl, by decide +kernel, by decide +kernel⟩
theorem ok_seat {g D : Addr} {gd : FuncData} {ds : List Value} (F : FunD K "__init__" "Seat.__init__" sSeat f fd ds) (c : PC K m C) (B : ClsFn K D "__init__" g) (mD : mg "Parameter" = some (.ref D)) (G : FnOk P w K mg base (CXe P w) 2 g gd ["self", "word", "name", "may_lack"] (spP K m N)) (bg : Binds K gd ["self", "word", "name", "may_lack"] []) :
    FnOk P w K mg base (CXe P w) 3 f fd ["self", "name", "free"] (spS K C N "seat") := by
  refine F.okE scSeat (fun vs H Q E h => ?_) (fun cdv A outer s H vs Q E hr h => ?_)
  · obtain ⟨p, dx, x, b, rfl, _⟩ := h
    rfl
  obtain ⟨p, dx, x, b, rfl, hp, hx, q1, q2⟩ := h
  refine ⟨_, pss_one (ps_expr (pe_cm B mD G hr bg (passE fun _ _ _ z => z) (ac (pv 0) (ac pe_str (ac (pv 1) (ac (pv 2) pa_nil)))))), ?_⟩
  exact ⟨_, rfl, _, rfl, _, rfl, p, dx, C, _, x, b, rfl, hp, c, hx, q1, q2⟩
theorem scBoth : FnScope ["self", "name", "free"] ["self", "name", "free"] (defScope sBoth) := ⟨rfl, rfl, rfl, by decide +kernel, rfl, by decide +kernel, by decide +kernel⟩
theorem ok_both {g D : Addr} {gd : FuncData} {ds : List Value} (F : FunD K "__init__" "Both.__init__" sBoth f fd ds) (c : PC K m C) (B : ClsFn K D "__init__" g) (mD : mg "Parameter" = some (.ref D)) (G : FnOk P w K mg base (CXe P w) 2 g gd ["self", "word", "name", "may_lack"] (spP K m N)) (bg : Binds K gd ["self", "word", "name", "may_lack"] []) :
    FnOk P w K mg base (CXe P w) 3 f fd ["self", "name", "free"] (spS K C N "both") := by
  refine F.okE scBoth (fun vs H Q E h => ?_) (fun cdv A outer s H vs Q E hr h => ?_)
  · obtain ⟨p, dx, x, b, rfl, _⟩ := h
    rfl
  obtain ⟨p, dx, x, b, rfl, hp, hx, q1, q2⟩ := h
  refine ⟨_, pss_one (ps_expr (pe_cm B mD G hr bg (passE fun _ _ _ z => z) (ac (pv 0) (ac pe_str (ac (pv 1) (ac (pv 2) pa_nil)))))), ?_⟩
  exact ⟨_, rfl, _, rfl, _, rfl, p, dx, C, _, x, b, rfl, hp, c, hx, q1, q2⟩
theorem scTag : FnScope ["self", "name", "free"] ["self", "name", "free"] (defScope sTag) := ⟨rfl, rfl, rfl, by decide +kernel, rfl, by decide +kernel, by decide +kernel⟩
theorem ok_tag {g D : Addr} {gd : FuncData} {ds : List Value} (F : FunD K "__init__" "Tag.__init__" sTag f fd ds) (c : PC K m C) (B : ClsFn K D "__init__" g) (mD : mg "Parameter" = some (.ref D)) (G : FnOk P w K mg base (CXe P w) 2 g gd ["self", "word", "name", "may_lack"] (spP K m N)) (bg : Binds K gd ["self", "word", "name", "may_lack"] []) :
    FnOk P w K mg base (CXe P w) 3 f fd ["self", "name", "free"] (spS K C N "tag") := by
  refine F.okE scTag (fun vs H Q E h => ?_) (fun cdv A outer s H vs Q E hr h => ?_)
  · obtain ⟨p, dx, x, b, rfl, _⟩ := h
    rfl
  obtain ⟨p, dx, x, b, rfl, hp, hx, q1, q2⟩ := h
  refine ⟨_, pss_one (ps_expr (pe_cm B mD G hr bg (passE fun _ _ _ z => z) (ac (pv 0) (ac pe_str (ac (pv 1) (ac (pv 2) pa_nil)))))), ?_⟩
  exact ⟨_, rfl, _, rfl, _, rfl, p, dx, C, _, x, b, rfl, hp, c, hx, q1, q2⟩
theorem scTail : FnScope ["self", "name"] ["self", "name"] (defScope sTail) := ⟨rfl, rfl, rfl, by decide +kernel, rfl, by decide +kernel, by decide +kernel⟩
theorem ok_tail {g D : Addr} {gd : FuncData} (F : Fun K "__init__" "Tail.__init__" sTail f fd) (c : PC K m C) (B : ClsFn K D "__init__" g) (mD : mg "Parameter" = some (.ref D)) (G : FnOk P w K mg base (CXe P w) 2 g gd ["self", "word", "name", "may_lack"] (spP K m N)) (bg : Binds K gd ["self", "word", "name", "may_lack"] []) :
    FnOk P w K mg base (CXe P w) 3 f fd ["self", "name"] (spT K C N "tail") := by
  refine F.okE scTail (fun vs H Q E h => ?_) (fun cdv A outer s H vs Q E hr h => ?_)
  · obtain ⟨p, dx, x, rfl, _⟩ := h
    rfl
  obtain ⟨p, dx, x, rfl, hp, hx, q1, q2⟩ := h
  refine ⟨_, pss_one (ps_expr (pe_cm B mD G hr bg (passE fun _ _ _ z => z) (ac (pv 0) (ac pe_str (ac (pv 1) (ac pe_bl pa_nil)))))), ?_⟩
  exact ⟨_, rfl, _, rfl, p, dx, C, _, x, true, rfl, hp, c, hx, q1, q2⟩
theorem scBag : FnScope ["self", "name"] ["self", "name"] (defScope sBag) := ⟨rfl, rfl, rfl, by decide +kernel, rfl, by decide +kernel, by decide +kernel⟩
theorem ok_bag {g D : Addr} {gd : FuncData} (F : Fun K "__init__" "Bag.__init__" sBag f fd) (c : PC K m C) (B : ClsFn K D "__init__" g) (mD : mg "Parameter" = some (.ref D)) (G : FnOk P w K mg base (CXe P w) 2 g gd ["self", "word", "name", "may_lack"] (spP K m N)) (bg : Binds K gd ["self", "word", "name", "may_lack"] []) :
    FnOk P w K mg base (CXe P w) 3 f fd ["self", "name"] (spT K C N "bag") := by
  refine F.okE scBag (fun vs H Q E h => ?_) (fun cdv A outer s H vs Q E hr h => ?_)
  · obtain ⟨p, dx, x, rfl, _⟩ := h
    rfl
  obtain ⟨p, dx, x, rfl, hp, hx, q1, q2⟩ := h
  refine ⟨_, pss_one (ps_expr (pe_cm B mD G hr bg (passE fun _ _ _ z => z) (ac (pv 0) (ac pe_str (ac (pv 1) (ac pe_bl pa_nil)))))), ?_⟩
  exact ⟨_, rfl, _, rfl, p, dx, C, _, x, true, rfl, hp, c, hx, q1, q2⟩
theorem scFree : FnScope ["self"] ["self"] (defScope sFree) := ⟨rfl, rfl, rfl, by decide +kernel, rfl, by decide +kernel, by decide +kernel⟩
theorem ok_free (F : Fun K "free" "Parameter.free" sFree f fd) : FnOk P w K mg base CX0 1 f fd ["self"] (spFree K m) := by
  refine F.ok scFree (fun vs H Q E h => ?_) (fun cdv A outer s H vs Q E hr h => ?_)
  · obtain ⟨p, dx, C, wd, x, b, rfl, _⟩ := h
    rfl
  obtain ⟨p, dx, C, wd, x, b, rfl, c, hp, q⟩ := h
  refine ⟨_, pss_one (ps_ret (pe_fld (pv 0) rfl)), ?_⟩
  exact ⟨_, rfl, p, C, dx, _, _, rfl, hp, c.cl, c.nM, pf_lack, q⟩
theorem scByPlace : FnScope ["self"] ["self"] (defScope sByPlace) := ⟨rfl, rfl, rfl, by decide +kernel, rfl, by decide +kernel, by decide +kernel⟩
theorem ok_by_place (F : Fun K "by_place" "Parameter.by_place" sByPlace f fd) (Wd : Wds K mg tP tB tO) : FnOk P w K mg base CX0 1 f fd ["self"] (spIn K m bpL) := by
  refine F.ok scByPlace (fun vs H Q E h => ?_) (fun cdv A outer s H vs Q E hr h => ?_)
  · obtain ⟨p, dx, C, wd, x, b, rfl, _⟩ := h
    rfl
  obtain ⟨p, dx, C, wd, x, b, rfl, c, hp, q⟩ := h
  refine ⟨_, pss_one (ps_ret (pe_cmpR op_in_seq (pe_fld (pv 0) rfl) (pe_glob (v := .ref tP) rfl Wd.mP rfl) (by with_unfolding_all rfl))), ?_⟩
  exact ⟨_, rfl, p, C, dx, _, _, rfl, hp, c.cl, c.nW, pf_word, tP, bpL, rfl, .inr (Wd.hP H), rfl, (by decide), q⟩
theorem scByName : FnScope ["self"] ["self"] (defScope sByName) := ⟨rfl, rfl, rfl, by decide +kernel, rfl, by decide +kernel, by decide +kernel⟩
theorem ok_by_name (F : Fun K "by_name" "Parameter.by_name" sByName f fd) (Wd : Wds K mg tP tB tO) : FnOk P w K mg base CX0 1 f fd ["self"] (spIn K m bnL) := by
  refine F.ok scByName (fun vs H Q E h => ?_) (fun cdv A outer s H vs Q E hr h => ?_)
  · obtain ⟨p, dx, C, wd, x, b, rfl, _⟩ := h
    rfl
  obtain ⟨p, dx, C, wd, x, b, rfl, c, hp, q⟩ := h
  refine ⟨_, pss_one (ps_ret (pe_cmpR op_in_seq (pe_fld (pv 0) rfl) (pe_glob (v := .ref tB) rfl Wd.mB rfl) (by with_unfolding_all rfl))), ?_⟩
  exact ⟨_, rfl, p, C, dx, _, _, rfl, hp, c.cl, c.nW, pf_word, tB, bnL, rfl, .inr (Wd.hB H), rfl, (by decide), q⟩
end
end K65

set_option Elab.async false
set_option linter.all false
set_option maxRecDepth 100000
set_option maxHeartbeats 4000000
namespace K65
open PySem L2 PyProof.Rows
structure C5 where
  (c0 c1 c2 c3 c4 : Addr)
def C5.at (c : C5) : Nat → Addr
  | 0 => c.c0 | 1 => c.c1 | 2 => c.c2 | 3 => c.c3 | _ => c.c4
def g21 {α : Type} : List α → List α → List α
  | [u, v], [w] => [u, v, w]
  | _, _ => []
theorem g21_rel {vs : List V} {us : List Value} {zs : List V} {ws : List Value} (r : Vals vs us) (q : Vals zs ws) : Vals (g21 vs zs) (g21 us ws) := by
  cases r with
  | nil => exact .nil
  | cons a r => cases r with
    | nil => exact .nil
    | cons a2 r => cases r with
      | cons _ _ => exact .nil
      | nil => cases q with
        | nil => exact .nil
        | cons b q => cases q with
          | nil => exact .cons a (.cons a2 (.cons b .nil))
          | cons _ _ => exact .nil
structure Ctors (P : Program) (w : World) (K : PySem.W.Frag) (mg : Str → Option Value) (base : Heap) (c : C5) (N : Addr) (i0 i1 i2 i3 i4 : Addr) (d0 d1 d2 d3 d4 : FuncData) : Prop where
  k0 : Ctor P w K mg base (CXe P w) 3 "Seat" c.c0 i0 d0 ["self", "name", "free"] [] (spS K c.c0 N "seat")
  e0 : Ctor P w K mg base (CXe P w) 3 "Seat" c.c0 i0 d0 ["self", "name", "free"] [.bool false] (spS K c.c0 N "seat")
  b0 : KBinds K d0 ["self", "name", "free"] ["free"] g21 g21
  k1 : Ctor P w K mg base (CXe P w) 3 "Both" c.c1 i1 d1 ["self", "name", "free"] [] (spS K c.c1 N "both")
  e1 : Ctor P w K mg base (CXe P w) 3 "Both" c.c1 i1 d1 ["self", "name", "free"] [.bool false] (spS K c.c1 N "both")
  b1 : KBinds K d1 ["self", "name", "free"] ["free"] g21 g21
  k2 : Ctor P w K mg base (CXe P w) 3 "Tail" c.c2 i2 d2 ["self", "name"] [] (spT K c.c2 N "tail")
  k3 : Ctor P w K mg base (CXe P w) 3 "Tag" c.c3 i3 d3 ["self", "name", "free"] [] (spS K c.c3 N "tag")
  e3 : Ctor P w K mg base (CXe P w) 3 "Tag" c.c3 i3 d3 ["self", "name", "free"] [.bool false] (spS K c.c3 N "tag")
  b3 : KBinds K d3 ["self", "name", "free"] ["free"] g21 g21
  k4 : Ctor P w K mg base (CXe P w) 3 "Bag" c.c4 i4 d4 ["self", "name"] [] (spT K c.c4 N "bag")
section
variable {P : Program} {w : World} {K : PySem.W.Frag} {mg : Str → Option Value} {base : Heap} {f N i0 i1 i2 i3 i4 : Addr} {fd d0 d1 d2 d3 d4 : FuncData} {c : C5}
end
end K65

set_option Elab.async false
set_option linter.all false
set_option maxRecDepth 100000
set_option maxHeartbeats 4000000
namespace L2
open PySem PySem.Spec PyProof.Rows
/-- what a turn of a block that makes the dict at D asks of its pair -/
def dcN (n i : Nat) (D : Addr) (Pv : Nat → List (Key × V) → Hp → Prop) (ys : List (Key × V)) (y : V) : VK := fun v H5 => ∃ k, y = kV k ∧ H5 D = some (.dK ys) ∧ ys.length < sizeLine ∧ ∃ m', m' < n - i ∧ m' = n - (i + 1) ∧ i + 1 ≤ n ∧ Pv (i + 1) (putK ys k v) (upd H5 D (.dK (putK ys k v)))
def dcS (n i : Nat) (Pv : Nat → List (Key × V) → Hp → Prop) (ys : List (Key × V)) (H4 : Hp) : Prop := ∃ m', m' < n - i ∧ m' = n - (i + 1) ∧ i + 1 ≤ n ∧ Pv (i + 1) ys H4
theorem dcN.mk {n i : Nat} {D : Addr} {Pv : Nat → List (Key × V) → Hp → Prop} {ys : List (Key × V)} {y v : V} {H5 : Hp} (k : Key) (hi : i < n) (ek : y = kV k) (hn : n ≤ sizeLine) (hD : H5 D = some (.dK ys)) (hy : ys.length ≤ i) (p : Pv (i + 1) (putK ys k v) (upd H5 D (.dK (putK ys k v)))) : dcN n i D Pv ys y v H5 :=
  ⟨k, ek, hD, by omega, n - (i + 1), by omega, rfl, hi, p⟩
theorem dcS.mk {n i : Nat} {Pv : Nat → List (Key × V) → Hp → Prop} {ys : List (Key × V)} {H4 : Hp} (hi : i < n) (p : Pv (i + 1) ys H4) : dcS n i Pv ys H4 := ⟨n - (i + 1), by omega, rfl, hi, p⟩
theorem dc_enum {K : PySem.W.Frag} {a : Addr} {xs : List V} {caps : List (Option Nat)} {g : TG} {tt : TT} {tk tv : TE} {σ : St} {H1 : Hp} {Q : VK} {D : Addr} (Pv : Nat → List (Key × V) → Hp → Prop) (h0 : Pv 0 [] (upd H1 D (.dK [])))
    (hl : ∀ i ys H, Pv i ys H → SqL K H a xs)
    (hs : ∀ i x p ys H, i < xs.length → xs[i]? = some x → Pv i ys H → H p = none → g (.ref p) (capS caps σ) (upd H p (.tup [.int i, x])) fun σ2 H2 => tt σ2 H2 fun ok H3 => (ok = true → tk σ2 H3 fun y H4 => tv σ2 H4 (dcN xs.length i D Pv ys y)) ∧ (ok = false → dcS xs.length i Pv ys H3))
    (hd : ∀ ys H, Pv xs.length ys H → Q (.ref D) H) : DCr (Ite K a) caps g tt tk tv σ H1 Q D := by
  refine ⟨fun i m ys H => m = xs.length - i ∧ i ≤ xs.length ∧ Pv i ys H, ⟨xs.length, by simp, Nat.zero_le _, h0⟩, ?_⟩
  rintro i m ys H ⟨rfl, hi, p⟩
  have q := hl i ys H p
  by_cases hlt : i < xs.length
  · refine .inr ⟨⟨xs, xs[i], q, by simp [hlt]⟩, fun x H' y => ?_⟩
    obtain ⟨pp, y, rfl, hp, y2, rfl⟩ := y
    exact hs i y pp ys H hlt (y2 xs q) p hp
  · have e : i = xs.length := by omega
    subst e
    exact .inl ⟨⟨xs, q, Nat.le_refl _⟩, hd ys H p⟩
end L2
namespace K65
open PySem L2 PyProof.Rows
/-! ### rows and forms -/
structure Rw where
  (k : Nat) (z : Str) (b : Bool)
def Rw.ok (r : Rw) : Prop := r.k < 5 ∧ nameB r.z = true
abbrev pr (r : Rw) : List (Str × V) := pf (kw r.k) (.str r.z) (fr r.k r.b)
def PAt (c : C5) (H : Hp) (p : Addr) (r : Rw) : Prop := ∃ dx, H p = some (.ins (c.at r.k) dx (pr r))
def byPl (k : Nat) : Bool := k == 0 || k == 1
def byNm (k : Nat) : Bool := k == 1 || k == 3
theorem in_pl : ∀ k : Nat, k < 5 → inV (.str (kw k)) bpL = byPl k := by decide +kernel
theorem in_nm : ∀ k : Nat, k < 5 → inV (.str (kw k)) bnL = byNm k := by decide +kernel
def grp : Nat → Nat
  | 0 => 0 | 1 => 0 | 2 => 1 | 3 => 2 | _ => 3
def badAt (l g : Nat) : Bool := decide (g < l) || (g == l && (g == 1 || g == 3))
def ordOk : Nat → List Rw → Bool
  | _, [] => true
  | l, r :: rs => !badAt l (grp r.k) && ordOk (grp r.k) rs
def nms (rows : List Rw) : List Str := (rows.filter fun r => byNm r.k).map (·.z)
structure Valid (rows : List Rw) (bars : List Str) : Prop where
  ok : ∀ r ∈ rows, r.ok
  l24 : rows.length ≤ 24
  l60 : bars.length ≤ 60
  ord : ordOk 0 rows = true
  bn : ∀ z ∈ bars, nameB z = true
  nd : (nms rows ++ bars).Nodup
def firstK (kk : Nat) : Nat → List Rw → Option Nat
  | _, [] => none
  | i, r :: rs => if r.k = kk then some i else firstK kk (i + 1) rs
def numV : Option Nat → V
  | none => .non
  | some i => .int i
def doorsF : Nat → List (Key × V) → List Rw → List (Key × V)
  | _, acc, [] => acc
  | i, acc, r :: rs => doorsF (i + 1) (if byNm r.k = true then putK acc (.inr r.z) (.int i) else acc) rs
def plN (rows : List Rw) : Nat := (rows.filter fun r => byPl r.k).length
def attrs : List Str := ["row", "bar_names", "place_count", "tail_number", "bag_number", "doors"]
structure FF (fs : List (Str × V)) (lr lb ld : Addr) (rows : List Rw) : Prop where
  row : fs.lookup ("row" : Str) = some (.ref lr)
  bn : fs.lookup ("bar_names" : Str) = some (.ref lb)
  pc : fs.lookup ("place_count" : Str) = some (.int (plN rows))
  tn : fs.lookup ("tail_number" : Str) = some (numV (firstK 2 0 rows))
  bg : fs.lookup ("bag_number" : Str) = some (numV (firstK 4 0 rows))
  dr : fs.lookup ("doors" : Str) = some (.ref ld)
  no : ∀ m, m ∉ attrs → fs.lookup m = none
def FormAt (c : C5) (CF : Addr) (H : Hp) (f : Addr) (rows : List Rw) (bars : List Str) : Prop :=
  ∃ dx fs lr lb ld ps, H f = some (.ins CF dx fs) ∧ FF fs lr lb ld rows ∧ H lr = some (.lst (ps.map V.ref)) ∧ Paired (PAt c H) ps rows ∧ H lb = some (.lst (bars.map V.str)) ∧ H ld = some (.dK (doorsF 0 [] rows))
section
variable {c : C5} {CF f p : Addr} {H H' : Hp} {rows : List Rw} {bars : List Str} {r : Rw} {ps : List Addr}
theorem PAt.same (h : PAt c H p r) (s : Same H H') : PAt c H' p r := h.imp fun _ => s _ _
theorem pats_same (s : Same H H') (h : Paired (PAt c H) ps rows) : Paired (PAt c H') ps rows := Paired.imp' (fun _ _ z => z.same s) h
theorem FormAt.same (h : FormAt c CF H f rows bars) (s : Same H H') : FormAt c CF H' f rows bars := by
  obtain ⟨dx, fs, lr, lb, ld, ps, h1, h2, h3, h4, h5, h6⟩ := h
  exact ⟨dx, fs, lr, lb, ld, ps, s _ _ h1, h2, s _ _ h3, pats_same s h4, s _ _ h5, s _ _ h6⟩
def FormN (c : C5) (CF : Addr) (H H' : Hp) (f : Addr) (rows : List Rw) (bars : List Str) : Prop :=
  ∃ dx fs lr lb ld ps, H' f = some (.ins CF dx fs) ∧ FF fs lr lb ld rows ∧ H' lr = some (.lst (ps.map V.ref)) ∧ Paired (PAt c H') ps rows ∧ H' lb = some (.lst (bars.map V.str)) ∧ H' ld = some (.dK (doorsF 0 [] rows)) ∧ H lr = none ∧ H lb = none
theorem FormN.at (h : FormN c CF H H' f rows bars) : FormAt c CF H' f rows bars := by
  obtain ⟨dx, fs, lr, lb, ld, ps, h1, h2, h3, h4, h5, h6, _, _⟩ := h
  exact ⟨dx, fs, lr, lb, ld, ps, h1, h2, h3, h4, h5, h6⟩
theorem FormN.of {H0 : Hp} (h : FormN c CF H H' f rows bars) (s : Same H0 H) : FormN c CF H0 H' f rows bars := by
  obtain ⟨dx, fs, lr, lb, ld, ps, h1, h2, h3, h4, h5, h6, h7, h8⟩ := h
  exact ⟨dx, fs, lr, lb, ld, ps, h1, h2, h3, h4, h5, h6, s.free h7, s.free h8⟩
theorem paired_at {α β : Type} {R : α → β → Prop} {xs : List α} {ys : List β} (h : Paired R xs ys) : ∀ {i : Nat} {x : α}, xs[i]? = some x → ∃ y, ys[i]? = some y ∧ R x y := by
  induction h with
  | nil => intro i x e; simp at e
  | cons r t ih =>
    intro i x e
    cases i with
    | zero => exact ⟨_, rfl, by simp at e; exact e ▸ r⟩
    | succ i => simpa using ih (by simpa using e)
end
end K65

set_option Elab.async false
set_option linter.all false
set_option maxRecDepth 100000
set_option maxHeartbeats 4000000
namespace K65
open PySem L2 PyProof.Rows
def grpV (x : Str) : Option V := ([(("seat" : Str), V.int 0), ("both", .int 0), ("tail", .int 1), ("tag", .int 2), ("bag", .int 3)] : List (Str × V)).lookup x
theorem grpV_kw : ∀ k : Nat, k < 5 → grpV (kw k) = some (.int (grp k)) := by decide +kernel
theorem grp_lt (k : Nat) : grp k < 4 := by unfold grp; split <;> decide
structure TxtF (w : World) (K : PySem.W.Frag) (mg : Str → Option Value) (G sg : Addr) : Prop where
  len : mg "len" = none
  en : mg "enumerate" = none
  lst : mg "list" = none
  set : mg "set" = none
  mp : ∃ t, mg "MOST_PARAMETERS" = some (.int 24 t)
  mb : ∃ t, mg "MOST_BARS" = some (.int 60 t)
  mgr : mg "GROUPS" = some (.ref G)
  gt : KTab w K G grpV
  ms : mg "SINGLE_GROUPS" = some (.ref sg)
  hs : ∀ H, SqT K H sg [.int 1, .int 3]
def Cs5 (c : C5) : Addr → Prop := fun C => ∃ k, k < 5 ∧ C = c.at k
def spMany (K : PySem.W.Frag) : Sp := fun vs H Q _ => ∃ (a b : Addr) (xs ys : List V), vs = [.ref a, .ref b] ∧ SqL K H a xs ∧ SqL K H b ys ∧ xs.length ≤ 24 ∧ ys.length ≤ 60 ∧ Q .non H
def spOrd (c : C5) : Sp := fun vs H Q _ => ∃ (a : Addr) (ps : List Addr) (rows : List Rw), vs = [.ref a] ∧ H a = some (.lst (ps.map V.ref)) ∧ Paired (PAt c H) ps rows ∧ (∀ r ∈ rows, r.ok) ∧ ordOk 0 rows = true ∧ ∀ H', Same H H' → Q .non H'
def spRB : Sp := fun vs H Q _ => ∃ (b : Addr) (bars : List Str), vs = [.ref b] ∧ H b = some (.lst (bars.map V.str)) ∧ (∀ z ∈ bars, nameB z = true) ∧ ∀ H', Same H H' → Q .non H'
def spTw (c : C5) : Sp := fun vs H Q _ => ∃ (a b : Addr) (ps : List Addr) (rows : List Rw) (bars : List Str), vs = [.ref a, .ref b] ∧ H a = some (.lst (ps.map V.ref)) ∧ Paired (PAt c H) ps rows ∧ (∀ r ∈ rows, r.ok) ∧ rows.length ≤ 500 ∧ H b = some (.lst (bars.map V.str)) ∧ bars.length ≤ 500 ∧ (nms rows ++ bars).Nodup ∧ ∀ H', Same H H' → Q .non H'
def spNW (c : C5) : Sp := fun vs H Q _ => ∃ (a : Addr) (ps : List Addr) (rows : List Rw) (kk : Nat), vs = [.ref a, .str (kw kk)] ∧ kk < 5 ∧ H a = some (.lst (ps.map V.ref)) ∧ Paired (PAt c H) ps rows ∧ (∀ r ∈ rows, r.ok) ∧ ∀ H', Same H H' → Q (numV (firstK kk 0 rows)) H'
theorem kw_inj : ∀ i : Nat, i < 5 → ∀ k : Nat, k < 5 → decide (V.str (kw k) = V.str (kw i)) = (k == i) := by decide +kernel
theorem drop_at {α : Type} {xs : List α} {i : Nat} {x : α} (h : xs[i]? = some x) : xs.drop i = x :: xs.drop (i + 1) := by
  have hi : i < xs.length := (List.getElem?_eq_some_iff.mp h).1
  rw [List.drop_eq_getElem_cons hi]
  rw [List.getElem?_eq_getElem hi] at h
  rw [Option.some.inj h]
theorem refs_at {ps : List Addr} {i : Nat} {x : V} (h : (ps.map V.ref)[i]? = some x) : ∃ p, ps[i]? = some p ∧ x = .ref p := by
  rw [List.getElem?_map] at h
  cases e : ps[i]? with
  | none => rw [e] at h; cases h
  | some p => rw [e] at h; exact ⟨p, rfl, (Option.some.inj h).symm⟩
theorem strs_at {zs : List Str} {i : Nat} {x : V} (h : (zs.map V.str)[i]? = some x) : ∃ z, zs[i]? = some z ∧ x = .str z := by
  rw [List.getElem?_map] at h
  cases e : zs[i]? with
  | none => rw [e] at h; cases h
  | some p => rw [e] at h; exact ⟨p, rfl, (Option.some.inj h).symm⟩
section
variable {P : Program} {w : World} {K : PySem.W.Frag} {mg : Str → Option Value} {base : Heap} {f G sg : Addr} {fd : FuncData} {c : C5} {m : MA}
/-- what the five classes have -/
def Pcs (K : PySem.W.Frag) (m : MA) (c : C5) : Prop := ∀ k, k < 5 → PC K m (c.at k)
theorem scRMany : FnScope ["parameters", "bars"] ["parameters", "bars"] (defScope sRMany) := ⟨rfl, rfl, rfl, by decide +kernel, rfl, by decide +kernel, by decide +kernel⟩
theorem ok_many (F : Fun K "refuse_too_many" "refuse_too_many" sRMany f fd) (T : TxtF w K mg G sg) : FnOk P w K mg base CX0 1 f fd ["parameters", "bars"] (spMany K) := by
  refine F.ok scRMany (fun vs H Q E h => ?_) (fun cdv A outer s H vs Q E hr h => ?_)
  · obtain ⟨a, b, xs, ys, rfl, _⟩ := h
    rfl
  obtain ⟨a, b, xs, ys, rfl, ha, hb, l1, l2, q⟩ := h
  obtain ⟨t1, m1⟩ := T.mp
  obtain ⟨t2, m2⟩ := T.mb
  refine ⟨_, pss_cons (ps_if (pt_cmpR op_gt (cB call_len_seq T.len PySem.boot_len (ac (pv 0) pa_nil)) (pe_glob (v := .int 24) rfl m1 ⟨_, rfl⟩) (nomark _)) (pss_one ps_dead) pss_nil)
    (pss_one (ps_if (pt_cmpR op_gt (cB call_len_seq T.len PySem.boot_len (ac (pv 1) pa_nil)) (pe_glob (v := .int 60) rfl m2 ⟨_, rfl⟩) (nomark _)) (pss_one ps_dead) pss_nil)), ?_⟩
  refine ⟨_, rfl, a, _, rfl, .inl ha, _, _, rfl, rfl, _, rfl, ?_⟩
  refine dF (by show ¬ (24 : Int) < (xs.length : Int); omega) ?_
  refine ⟨_, rfl, b, _, rfl, .inl hb, _, _, rfl, rfl, _, rfl, ?_⟩
  exact dF (by show ¬ (60 : Int) < (ys.length : Int); omega) q
theorem scROrder : FnScope ["parameters", "last", "at", "parameter", "group"] ["parameters"] (defScope sROrder) := ⟨rfl, rfl, rfl, by decide +kernel, rfl, by decide +kernel, by decide +kernel⟩
theorem ok_order (F : Fun K "refuse_bad_order" "refuse_bad_order" sROrder f fd) (T : TxtF w K mg G sg) (PP : Pcs K m c) : FnOk P w K mg base CX0 1 f fd ["parameters"] (spOrd c) := by
  refine F.ok scROrder (fun vs H Q E h => ?_) (fun cdv A outer s H vs Q E hr h => ?_)
  · obtain ⟨a, ps, rows, rfl, _⟩ := h
    rfl
  obtain ⟨a, ps, rows, rfl, ha, hp, hok, ho, q⟩ := h
  refine ⟨_, pss_cons (ps_set (i := 1) scROrder.nd rfl (Or.inl rfl) pe_int)
    (pss_one (ps_for PassesOwn.never rfl (pi_enum rfl T.en (ac (pv 0) pa_nil)) (pg_tup rfl (pgs_cons (pg_name (i := 2) scROrder.nd rfl (Or.inl rfl)) (pgs_cons (pg_name (i := 3) scROrder.nd rfl (Or.inl rfl)) pgs_nil)))
      (pss_cons (ps_set (i := 4) scROrder.nd rfl (Or.inl rfl) (pe_kget T.gt T.mgr (pe_fld (pv 3) rfl)))
      (pss_cons (ps_if (PW.pt (pw_or (pt_cmpR op_lt (pv 4) (pv 1) (nomark _)) (pw_or1 (PW.pt (pw_and (pt_cmpR op_eq (pv 4) (pv 1) (nomark _)) (pw_and1 (pt_cmpR op_in_seq (pv 4) (pe_glob (v := .ref sg) rfl T.ms rfl) (by with_unfolding_all rfl)))))))) (pss_one ps_dead) pss_nil)
      (pss_one (ps_set (i := 1) scROrder.nd rfl (Or.inl rfl) (pv 4))))))), ?_⟩
  show tSeq _ _ _ _ _
  refine ⟨_, rfl, a, rfl, ⟨_, SqL.of ha⟩, for_enum (K := K) (a := a) (xs := ps.map V.ref) (fun i σ H' => ∃ (l : Nat) (v2 v3 v4 : Option V), σ = [some (.ref a), some (.int (l : Nat)), v2, v3, v4] ∧ Same H H' ∧ ordOk l (rows.drop i) = true)
    ⟨0, _, _, _, rfl, Same.refl _, ho⟩ (fun i σ H' _ ⟨_, _, _, _, _, sH, _⟩ => SqL.of (sH _ _ ha)) ?_ ?_⟩
  · rintro i x p σ H' hx ⟨l, v2, v3, v4, rfl, sH, hl⟩ hpn
    obtain ⟨pa, hpa, rfl⟩ := refs_at hx
    obtain ⟨r, hr', dx, hdx⟩ := paired_at hp hpa
    have rok := hok r (List.mem_of_getElem? hr')
    have C := PP r.k rok.1
    rw [drop_at hr'] at hl
    have hl' : (!badAt l (grp r.k) && ordOk (grp r.k) (rows.drop (i + 1))) = true := hl
    rw [Bool.and_eq_true, Bool.not_eq_true'] at hl'
    obtain ⟨hb, hl2⟩ := hl'
    have hb' : (decide (grp r.k < l) || (grp r.k == l && (grp r.k == 1 || grp r.k == 3))) = false := hb
    rw [Bool.or_eq_false_iff] at hb'
    have sp := same_new hpn (.tup [.int (i : Nat), .ref pa])
    refine ⟨p, _, rfl, SqT.of upd_same, rfl, _, _, rfl, _, _, rfl, rfl, ?_⟩
    refine ⟨_, rfl, pa, _, dx, _, _, rfl, sp _ _ (sH _ _ hdx), C.cl, C.nW, pf_word, kw r.k, .int (grp r.k), rfl, grpV_kw r.k rok.1, ?_⟩
    refine ⟨_, rfl, _, rfl, _, _, rfl, rfl, _, rfl, ?_⟩
    refine dF (fun z => by have := of_decide_eq_false hb'.1; omega) ?_
    have fin : ∃ (l' : Nat) (v2 v3 v4 : Option V), ([some (.ref a), some (.int (grp r.k : Nat)), some (.int (i : Nat)), some (.ref pa), some (.int (grp r.k : Nat))] : L2.St) = [some (.ref a), some (.int (l' : Nat)), v2, v3, v4] ∧ Same H (upd H' p (.tup [.int (i : Nat), .ref pa])) ∧ ordOk l' (rows.drop (i + 1)) = true :=
      ⟨grp r.k, _, _, _, rfl, sH.trans sp, hl2⟩
    refine ⟨_, rfl, _, rfl, rfl, _, rfl, ?_⟩
    by_cases e : grp r.k = l
    · refine dT (by rw [e]) ?_
      refine ⟨_, rfl, sg, _, rfl, .inr (T.hs _), rfl, (by decide), _, rfl, ?_⟩
      have h13 : (grp r.k == 1 || grp r.k == 3) = false := by
        have := hb'.2
        rw [e] at this ⊢
        simpa using this
      have hin : inV (.int (grp r.k : Nat)) [.int 1, .int 3] = false := by
        have g4 := grp_lt r.k
        have : ∀ g : Nat, g < 4 → (g == 1 || g == 3) = false → inV (.int (g : Nat)) [.int 1, .int 3] = false := by decide +kernel
        exact this _ g4 h13
      rw [show (if false = true then !inV (V.int ((grp r.k : Nat) : Int)) [V.int 1, V.int 3] else inV (V.int ((grp r.k : Nat) : Int)) [V.int 1, V.int 3]) = false from hin]
      refine iteF ?_
      exact ⟨_, rfl, fin⟩
    · refine dF (fun z => e (by have := V.int.inj z; omega)) ?_
      exact ⟨_, rfl, fin⟩
  · rintro σ H' ⟨l, v2, v3, v4, rfl, sH, _⟩
    exact q _ sH
end
end K65

set_option Elab.async false
set_option linter.all false
set_option maxRecDepth 100000
set_option maxHeartbeats 4000000
namespace L2
open PySem PySem.Spec PyProof.Rows
theorem pe_fldK {X : Cx} {K : PySem.W.Frag} {e : Expr} {f : Str} {pos : Pos} {ta : TE} (hK : X.K = K) (he : PE X e ta) (hb : attributeBase e f X.env (eval e X.env) = eval e X.env) : PE X (.Attribute e f pos) (tFld K ta f) := hK ▸ pe_fld he hb
end L2
namespace K65
open PySem L2 PyProof.Rows
theorem le1000 {n : Nat} (h : n ≤ 1000) : n ≤ sizeLine := Nat.le_of_lt (small1000 h)
theorem nm_take {rows : List Rw} {i : Nat} {r : Rw} (h : rows[i]? = some r) : nms (rows.take (i + 1)) = nms (rows.take i) ++ (if byNm r.k = true then [r.z] else []) := by
  have hi : i < rows.length := (List.getElem?_eq_some_iff.mp h).1
  have e : rows[i] = r := by rw [List.getElem?_eq_getElem hi] at h; exact Option.some.inj h
  unfold nms
  rw [List.take_succ_eq_append_getElem hi, List.filter_append, List.map_append, e]
  cases hb : byNm r.k <;> simp [hb]
section
variable {P : Program} {w : World} {K : PySem.W.Frag} {mg : Str → Option Value} {base : Heap} {f G sg : Addr} {fd : FuncData} {c : C5} {m : MA}
theorem scNumW : FnScope ["parameters", "word", "at", "parameter"] ["parameters", "word"] (defScope sNumW) := ⟨rfl, rfl, rfl, by decide +kernel, rfl, by decide +kernel, by decide +kernel⟩
theorem ok_numw (F : Fun K "number_of_word" "number_of_word" sNumW f fd) (T : TxtF w K mg G sg) (PP : Pcs K m c) : FnOk P w K mg base CX0 1 f fd ["parameters", "word"] (spNW c) := by
  refine F.ok scNumW (fun vs H Q E h => ?_) (fun cdv A outer s H vs Q E hr h => ?_)
  · obtain ⟨a, ps, rows, kk, rfl, _⟩ := h
    rfl
  obtain ⟨a, ps, rows, kk, rfl, hkk, ha, hp, hok, q⟩ := h
  refine ⟨_, pss_cons (ps_for PassesOwn.never rfl (pi_enum rfl T.en (ac (pv 0) pa_nil)) (pg_tup rfl (pgs_cons (pg_name (i := 2) scNumW.nd rfl (Or.inl rfl)) (pgs_cons (pg_name (i := 3) scNumW.nd rfl (Or.inl rfl)) pgs_nil)))
      (pss_one (ps_if (pt_cmpR op_eq (pe_fld (pv 3) rfl) (pv 1) (nomark _)) (pss_one (ps_ret (pv 2))) pss_nil))) (pss_one (ps_ret pe_non)), ?_⟩
  refine ⟨_, rfl, a, rfl, ⟨_, SqL.of ha⟩, for_enum (K := K) (a := a) (xs := ps.map V.ref) (fun i σ H' => ∃ (v2 v3 : Option V), σ = [some (.ref a), some (.str (kw kk)), v2, v3] ∧ Same H H' ∧ firstK kk i (rows.drop i) = firstK kk 0 rows)
    ⟨_, _, rfl, Same.refl _, rfl⟩ (fun i σ H' _ ⟨_, _, _, sH, _⟩ => SqL.of (sH _ _ ha)) ?_ ?_⟩
  · rintro i x p σ H' hx ⟨v2, v3, rfl, sH, hl⟩ hpn
    obtain ⟨pa, hpa, rfl⟩ := refs_at hx
    obtain ⟨r, hr', dx, hdx⟩ := paired_at hp hpa
    have rok := hok r (List.mem_of_getElem? hr')
    have C := PP r.k rok.1
    rw [drop_at hr'] at hl
    have hl' : (if r.k = kk then some i else firstK kk (i + 1) (rows.drop (i + 1))) = firstK kk 0 rows := hl
    have sp := same_new hpn (.tup [.int (i : Nat), .ref pa])
    refine ⟨p, _, rfl, SqT.of upd_same, rfl, _, _, rfl, _, _, rfl, rfl, ?_⟩
    refine ⟨_, rfl, pa, _, dx, _, _, rfl, sp _ _ (sH _ _ hdx), C.cl, C.nW, pf_word, _, rfl, rfl, _, rfl, ?_⟩
    by_cases e : r.k = kk
    · refine dT (by rw [e]) ?_
      rw [if_pos e] at hl'
      refine ⟨_, rfl, ?_⟩
      have := q _ (sH.trans sp)
      rw [← hl'] at this
      exact this
    · refine dF (fun z => ?_) ?_
      · have h1 := kw_inj kk hkk r.k rok.1
        rw [decide_eq_true z] at h1
        exact e (by simpa using h1.symm)
      · rw [if_neg e] at hl'
        exact ⟨_, _, rfl, sH.trans sp, hl'⟩
  · rintro σ H' ⟨v2, v3, rfl, sH, hl⟩
    have e : firstK kk 0 rows = none := by
      rw [← hl, List.length_map, hp.length, List.drop_length]
      rfl
    have := q _ sH
    rw [e] at this
    exact this
theorem scRBars : FnScope ["bars", "bar"] ["bars"] (defScope sRBars) := ⟨rfl, rfl, rfl, by decide +kernel, rfl, by decide +kernel, by decide +kernel⟩
theorem ok_rbars {g : Addr} {gd : FuncData} (F : Fun K "refuse_bars_without_name" "refuse_bars_without_name" sRBars f fd) (cI : Callee P w K mg base 1 "is_name" g gd ["thing"] (spIs K)) : FnOk P w K mg base CX0 2 f fd ["bars"] spRB := by
  refine F.ok scRBars (fun vs H Q E h => ?_) (fun cdv A outer s H vs Q E hr h => ?_)
  · obtain ⟨b, bars, rfl, _⟩ := h
    rfl
  obtain ⟨b, bars, rfl, hb, hn, q⟩ := h
  refine ⟨_, pss_one (ps_for PassesOwn.never rfl (pi_list (pv 0)) (pg_name (i := 1) scRBars.nd rfl (Or.inl rfl)) (pss_one (ps_if (pt_not (pt_val (cF cI hr (ac (pv 1) pa_nil)))) (pss_one ps_dead) pss_nil))), ?_⟩
  refine ⟨_, rfl, b, rfl, ⟨_, SqL.of hb⟩, for_list (K := K) (a := b) (xs := bars.map V.str) (fun i σ H' => ∃ v1, σ = [some (.ref b), v1] ∧ Same H H') ⟨_, rfl, Same.refl _⟩ (fun i σ H' _ ⟨_, _, sH⟩ => SqL.of (sH _ _ hb)) ?_ ?_⟩
  · rintro i x σ H' hx ⟨v1, rfl, sH⟩
    obtain ⟨z, hz, rfl⟩ := strs_at hx
    have nz := hn z (List.mem_of_getElem? hz)
    refine ⟨_, rfl, _, rfl, .inl ⟨z, rfl, nameB_ok nz⟩, fun H2 s2 => ⟨_, rfl, ?_⟩⟩
    rw [show nmV (.str z) = true from nz]
    refine iteF ?_
    exact ⟨_, rfl, sH.trans s2⟩
  · rintro σ H' ⟨v1, rfl, sH⟩
    exact q _ sH
theorem ndPm : ([Str.ofString "parameter"] : List Str).Nodup := by decide +kernel
theorem scRTwice : FnScope ["parameters", "bars", "seen", "name"] ["parameters", "bars"] (defScope sRTwice) := ⟨rfl, rfl, rfl, by decide +kernel, rfl, by decide +kernel, by decide +kernel⟩
theorem ok_twice {gd : FuncData} (F : Fun K "refuse_twice" "refuse_twice" sRTwice f fd) (T : TxtF w K mg G sg) (PP : Pcs K m c) (GB : FnOk P w K mg base CX0 1 m.fB gd ["self"] (spIn K m bnL)) (bB : Binds K gd ["self"] []) : FnOk P w K mg base CX0 2 f fd ["parameters", "bars"] (spTw c) := by
  refine F.ok scRTwice (fun vs H Q E h => ?_) (fun cdv A outer s H vs Q E hr h => ?_)
  · obtain ⟨a, b, ps, rows, bars, rfl, _⟩ := h
    rfl
  obtain ⟨a, b, ps, rows, bars, rfl, ha, hp, hok, l1, hb, l2, nd, q⟩ := h
  have hC : ∀ C, Cs5 c C → Cls K C ∧ Meth K C "by_name" m.fB := fun C ⟨k, hk, e⟩ => by rw [e]; exact ⟨(PP k hk).cl, (PP k hk).mB⟩
  refine ⟨_, pss_cons (ps_set (i := 2) scRTwice.nd rfl (Or.inl rfl) (pe_callTy0 call_set0 rfl T.set (by decide +kernel : bootBuiltins "set" = some (.type "set"))))
    (pss_one (ps_for PassesOwn.never rfl (pi_list (pe_op op_cat (pe_lc [] ["parameter"] [none] rfl ⟨rfl, rfl, rfl, rfl⟩ (pi_list (pv 0)) (gown_name 0) rfl rfl rfl
        (fun pins fp s H C => ⟨pg_name (i := 0) ndPm rfl (Or.inl rfl) (.inr rfl), pif_one (pt_val (pe_methP (pv 0) hC GB hr bB pass0)), pe_fldK (K := K) rfl (pv 0) rfl⟩)) (cTy call_list_of T.lst PyProof.Rows.boot_list (ac (pv 1) pa_nil)))) (pg_name (i := 3) scRTwice.nd rfl (Or.inl rfl))
      (pss_cons (ps_if (pt_cmpR op_in_setT (pv 3) (pv 2) (by with_unfolding_all rfl)) (pss_one ps_dead) pss_nil)
      (pss_one (ps_expr (pe_sadd (pv 2) (pv 3) ⟨rfl, rfl, rfl, rfl⟩)))))), ?_⟩
  refine ⟨rfl, fun se hse => ?_⟩
  have s1 : Same H (upd H se (setO P w se (fun _ => false) 0)) := same_new hse _
  have g1 : upd H se (setO P w se (fun _ => false) 0) se = some (setO P w se (fun _ => false) 0) := upd_same
  show tSeq _ _ _ _ (upd H se (setO P w se (fun _ => false) 0))
  generalize upd H se (setO P w se (fun _ => false) 0) = H1 at s1 g1 ⊢
  have ha1 := s1 _ _ ha
  have hp1 := pats_same s1 hp
  refine ⟨_, rfl, a, rfl, ⟨_, SqL.of ha1⟩, fun D hD => ?_⟩
  refine lc_list (K := K) (xs := ps.map V.ref) (fun i ys H' => Same H1 H' ∧ H' D = some (.lst ys) ∧ ys = (nms (rows.take i)).map V.str) ⟨same_new hD _, upd_same, rfl⟩ (fun i ys H' h => SqL.of (h.1 _ _ ha1)) ?_ ?_
  · rintro i x ys H' hlt hx ⟨sH, hDy, ey⟩
    obtain ⟨pa, hpa, rfl⟩ := refs_at hx
    obtain ⟨r, hr', dx, hdx⟩ := paired_at hp1 hpa
    have rok := hok r (List.mem_of_getElem? hr')
    have C := PP r.k rok.1
    have nl : ys.length ≤ i := by
      rw [ey, List.length_map]
      unfold nms
      rw [List.length_map]
      refine Nat.le_trans (List.length_filter_le _ _) ?_
      rw [List.length_take]
      omega
    have hd2 := sH _ _ hdx
    refine ⟨_, rfl, pa, _, dx, _, rfl, ⟨r.k, rok.1, rfl⟩, hd2, pf_no (by decide +kernel) (by decide +kernel) (by decide +kernel), pa, dx, _, _, _, _, rfl, C, hd2, _, rfl, ?_⟩
    rw [in_nm r.k rok.1]
    have tk := nm_take hr'
    refine ⟨fun e => ?_, fun e => ?_⟩
    · rw [e, if_pos rfl] at tk
      refine ⟨_, rfl, pa, _, dx, _, _, rfl, hd2, C.cl, C.nN, pf_name, ?_⟩
      refine lcN.mk hlt (le1000 (by rw [List.length_map, hp.length]; omega)) hDy nl ⟨fun b u e => ?_, upd_same, ?_⟩
      · rw [upd_ne (ne_of_none e hD)]
        exact sH b u e
      · rw [ey, tk, List.map_append]
        rfl
    · rw [e, if_neg Bool.false_ne_true, List.append_nil] at tk
      exact lcS.mk hlt ⟨sH, hDy, by rw [ey, tk]⟩
  rintro ys H2 ⟨s2, hDy, ey⟩
  have ey : ys = (nms rows).map V.str := by
    rw [ey, List.length_map, hp.length, List.take_length]
  subst ey
  have hb2 := s2 _ _ (s1 _ _ hb)
  refine ⟨_, rfl, b, _, rfl, .inl (SqL.of hb2), fun l hl => ?_⟩
  have s3 := same_new hl (.lst (bars.map V.str))
  have g3 : upd H2 l (.lst (bars.map V.str)) l = some (.lst (bars.map V.str)) := upd_same
  generalize upd H2 l (.lst (bars.map V.str)) = H3 at s3 g3 ⊢
  have ln : (nms rows).length ≤ 500 := by
    unfold nms
    rw [List.length_map]
    exact Nat.le_trans (List.length_filter_le _ _) l1
  refine ⟨D, l, _, _, rfl, rfl, s3 _ _ hDy, g3, le1000 (by rw [List.length_map, List.length_map]; omega), fun l4 hl4 => ?_⟩
  rw [← List.map_append]
  have s4 := same_new hl4 (.lst ((nms rows ++ bars).map V.str))
  have g4 : upd H3 l4 (.lst ((nms rows ++ bars).map V.str)) l4 = some (.lst ((nms rows ++ bars).map V.str)) := upd_same
  have nse : l4 ≠ se := fun z => by
    rw [z] at hl4
    rw [s3 _ _ (s2 _ _ g1)] at hl4
    cases hl4
  generalize upd H3 l4 (.lst ((nms rows ++ bars).map V.str)) = H4 at s4 g4 ⊢
  have sA : Same H1 H4 := s2.trans (s3.trans s4)
  have gse := sA _ _ g1
  refine ⟨l4, rfl, ⟨_, SqL.of g4⟩, for_list (K := K) (a := l4) (xs := (nms rows ++ bars).map V.str) (fun i σ H' => ∃ (S : Str → Bool) (n : Nat) (v3 : Option V), σ = [some (.ref a), some (.ref b), some (.ref se), v3] ∧ H' se = some (setO P w se S n) ∧ (∀ z, S z = decide (z ∈ (nms rows ++ bars).take i)) ∧ n ≤ i ∧ (∀ b' u, H4 b' = some u → b' ≠ se → H' b' = some u))
    ⟨_, 0, _, rfl, gse, fun z => by simp, Nat.le_refl _, fun b' u e _ => e⟩ (fun i σ H' _ ⟨_, _, _, _, _, _, _, k⟩ => SqL.of (k _ _ g4 nse)) ?_ ?_⟩
  · rintro i x σ H' hx ⟨S, n, v3, rfl, hS, hSz, hn, k⟩
    obtain ⟨z, hz, rfl⟩ := strs_at hx
    have hi : i < (nms rows ++ bars).length := (List.getElem?_eq_some_iff.mp hz).1
    have ez : (nms rows ++ bars)[i] = z := by rw [List.getElem?_eq_getElem hi] at hz; exact Option.some.inj hz
    have nz : S z = false := by
      rw [hSz, decide_eq_false_iff_not]
      intro hm
      obtain ⟨j, hj, ej⟩ := List.mem_take_iff_getElem.mp hm
      have := List.pairwise_iff_getElem.mp nd j i (by omega) hi (by omega)
      exact this (ej.trans ez.symm)
    refine ⟨_, rfl, _, rfl, se, S, n, z, rfl, rfl, hS, _, rfl, ?_⟩
    rw [nz]
    refine iteF ?_
    refine ⟨_, rfl, se, S, n, rfl, hS, _, rfl, S, n, z, rfl, hS, ?_, ?_⟩
    · rw [List.length_append] at hi
      show n + 1 < 4096
      omega
    · refine ⟨_, _, _, rfl, upd_same, fun y => ?_, ?_, fun b' u e ne => ?_⟩
      · rw [hSz y, List.take_succ_eq_append_getElem hi, ez]
        simp [List.mem_append]
      · rw [nz]
        show n + 1 ≤ i + 1
        omega
      · rw [upd_ne ne]
        exact k b' u e ne
  · rintro σ H' ⟨S, n, v3, rfl, hS, hSz, hn, k⟩
    refine q _ fun b' u e => k b' u (sA _ _ (s1 _ _ e)) fun z => ?_
    rw [z, hse] at e
    cases e
end
end K65

set_option Elab.async false
set_option linter.all false
set_option maxRecDepth 100000
set_option maxHeartbeats 4000000
namespace K65
open PySem L2 PyProof.Rows
def SX (f : Addr) (H H' : Hp) : Prop := ∀ b u, H b = some u → b ≠ f → H' b = some u
theorem SX.same {f : Addr} {H H1 H2 : Hp} (x : SX f H H1) (s : Same H1 H2) : SX f H H2 := fun b u e n => s b u (x b u e n)
theorem SX.upd {f : Addr} {H H1 : Hp} {o : HO} (x : SX f H H1) : SX f H (upd H1 f o) := fun b u e n => by rw [upd_ne n]; exact x b u e n
theorem SX.refl {f : Addr} {H : Hp} : SX f H H := fun _ _ e _ => e
theorem putF_le (f : Str) (v : V) : ∀ fs : List (Str × V), (putF f v fs).length ≤ fs.length + 1
  | [] => Nat.le_refl _
  | (g, x) :: r => by
    show (if g = f then (g, v) :: r else (g, x) :: putF f v r).length ≤ _
    split
    · simp
    · have := putF_le f v r
      simp only [List.length_cons]
      omega
def Pre (fs : List (Str × V)) : Prop := fs.length ≤ 50 ∧ ∀ m, m ∉ attrs → fs.lookup m = none
structure FC (K : PySem.W.Frag) (CF : Addr) : Prop where
  cl : Cls K CF
  n1 : NoAttr K CF "row"
  n2 : NoAttr K CF "bar_names"
  n3 : NoAttr K CF "place_count"
  n4 : NoAttr K CF "tail_number"
  n5 : NoAttr K CF "bag_number"
  n6 : NoAttr K CF "doors"
def spKeep (c : C5) (CF : Addr) : Sp := fun vs H Q _ => ∃ (f a b dx : Addr) (fs : List (Str × V)) (ps : List Addr) (rows : List Rw) (bars : List Str), vs = [.ref f, .ref a, .ref b] ∧ H f = some (.ins CF dx fs) ∧ Pre fs ∧ H a = some (.lst (ps.map V.ref)) ∧ Paired (PAt c H) ps rows ∧ (∀ r ∈ rows, r.ok) ∧ rows.length ≤ 500 ∧ H b = some (.lst (bars.map V.str)) ∧
  ∀ H', SX f H H' → FormN c CF H H' f rows bars → (∃ dx' fs', H' f = some (.ins CF dx' fs') ∧ fs'.length ≤ fs.length + 6) → Q .non H'
theorem pl_take {rows : List Rw} {i : Nat} {r : Rw} (h : rows[i]? = some r) : plN (rows.take (i + 1)) = plN (rows.take i) + (if byPl r.k = true then 1 else 0) := by
  have hi : i < rows.length := (List.getElem?_eq_some_iff.mp h).1
  have e : rows[i] = r := by rw [List.getElem?_eq_getElem hi] at h; exact Option.some.inj h
  unfold plN
  rw [List.take_succ_eq_append_getElem hi, List.filter_append, List.length_append, e]
  cases hb : byPl r.k <;> simp [hb]
theorem doors_len : ∀ (rows : List Rw) (i : Nat) (acc : List (Key × V)), (doorsF i acc rows).length ≤ acc.length + rows.length
  | [], _, _ => Nat.le_refl _
  | r :: rs, i, acc => by
    have h := doors_len rs (i + 1) (if byNm r.k = true then putK acc (.inr r.z) (.int i) else acc)
    have h2 : (if byNm r.k = true then putK acc (.inr r.z) (.int i) else acc).length ≤ acc.length + 1 := by
      split
      · exact length_putK acc _ _
      · omega
    show (doorsF (i + 1) _ rs).length ≤ acc.length + (rs.length + 1)
    omega
theorem doorsF_take {r : Rw} : ∀ (rows : List Rw) (j i : Nat) (acc : List (Key × V)), rows[i]? = some r → doorsF j acc (rows.take (i + 1)) = (if byNm r.k = true then putK (doorsF j acc (rows.take i)) (.inr r.z) (.int (j + i : Nat)) else doorsF j acc (rows.take i))
  | [], _, _, _, h => by simp at h
  | r0 :: rs, j, 0, acc, h => by
    have e : r0 = r := by simpa using h
    subst e
    show (if byNm r0.k = true then putK acc (.inr r0.z) (.int j) else acc) = _
    rfl
  | r0 :: rs, j, i + 1, acc, h => by
    have := doorsF_take rs (j + 1) i (if byNm r0.k = true then putK acc (.inr r0.z) (.int j) else acc) (by simpa using h)
    show doorsF (j + 1) _ (rs.take (i + 1)) = _
    rw [this, show j + 1 + i = j + (i + 1) by omega]
    rfl
section
variable {P : Program} {w : World} {K : PySem.W.Frag} {mg : Str → Option Value} {base : Heap} {f G sg CF : Addr} {fd : FuncData} {c : C5} {m : MA}
theorem PAt.ne {H : Hp} {p f CF dx : Addr} {r : Rw} {fs : List (Str × V)} (h : PAt c H p r) (e : H f = some (.ins CF dx fs)) (n : fs.lookup ("word" : Str) = none) : p ≠ f := fun z => by
  obtain ⟨d, h⟩ := h
  rw [z, e] at h
  injection h with h
  injection h with h1 h2 h3
  rw [h3, pf_word] at n
  cases n
theorem pats_sx {H H' : Hp} {f CF dx : Addr} {fs : List (Str × V)} (e : H f = some (.ins CF dx fs)) (n : fs.lookup ("word" : Str) = none) (x : SX f H H') {ps : List Addr} {rows : List Rw} (h : Paired (PAt c H) ps rows) : Paired (PAt c H') ps rows :=
  Paired.imp' (fun _ _ z => by
    have ne := z.ne e n
    obtain ⟨d, q⟩ := z
    exact ⟨d, x _ _ q ne⟩) h
theorem ndAP : ([Str.ofString "at", Str.ofString "parameter"] : List Str).Nodup := by decide +kernel
theorem scKeep : FnScope ["self", "parameters", "bars"] ["self", "parameters", "bars"] (defScope sKeep) := ⟨rfl, rfl, rfl, by decide +kernel, rfl, by decide +kernel, by decide +kernel⟩
theorem ok_keep {g : Addr} {gd gp gb : FuncData} (F : Fun K "keep" "Form.keep" sKeep f fd) (T : TxtF w K mg G sg) (PP : Pcs K m c) (FK : FC K CF) (cW : Callee P w K mg base 1 "number_of_word" g gd ["parameters", "word"] (spNW c))
    (GP : FnOk P w K mg base CX0 1 m.fP gp ["self"] (spIn K m bpL)) (bP : Binds K gp ["self"] []) (GB : FnOk P w K mg base CX0 1 m.fB gb ["self"] (spIn K m bnL)) (bB : Binds K gb ["self"] []) : FnOk P w K mg base CX0 2 f fd ["self", "parameters", "bars"] (spKeep c CF) := by
  refine F.ok scKeep (fun vs H Q E h => ?_) (fun cdv A outer s H vs Q E hr h => ?_)
  · obtain ⟨f, a, b, dx, fs, ps, rows, bars, rfl, _⟩ := h
    rfl
  obtain ⟨f, a, b, dx, fs, ps, rows, bars, rfl, hf, ⟨pl, pn⟩, ha, hp, hok, l5, hb, q⟩ := h
  have hP : ∀ C, Cs5 c C → Cls K C ∧ Meth K C "by_place" m.fP := fun C ⟨k, hk, e⟩ => by rw [e]; exact ⟨(PP k hk).cl, (PP k hk).mP⟩
  have hB : ∀ C, Cs5 c C → Cls K C ∧ Meth K C "by_name" m.fB := fun C ⟨k, hk, e⟩ => by rw [e]; exact ⟨(PP k hk).cl, (PP k hk).mB⟩
  have nw : fs.lookup ("word" : Str) = none := pn _ (by decide +kernel)
  refine ⟨_, pss_cons (ps_fld (pv 0) (cTy call_list_of T.lst PyProof.Rows.boot_list (ac (pv 1) pa_nil)) rfl)
    (pss_cons (ps_fld (pv 0) (cTy call_list_of T.lst PyProof.Rows.boot_list (ac (pv 2) pa_nil)) rfl)
    (pss_cons (ps_fld (pv 0) (cB call_len_seq T.len PySem.boot_len (ac (pe_lc [] ["parameter"] [none] rfl ⟨rfl, rfl, rfl, rfl⟩ (pi_list (pe_fld (pv 0) rfl)) (gown_name 0) rfl rfl rfl
        (fun pins fp s H C => ⟨pg_name (i := 0) ndPm rfl (Or.inl rfl) (.inr rfl), pif_one (pt_val (pe_methP (pv 0) hP GP hr bP pass0)), pv 0⟩)) pa_nil)) rfl)
    (pss_cons (ps_fld (pv 0) (cF cW hr (ac (pe_fld (pv 0) rfl) (ac pe_str pa_nil))) rfl)
    (pss_cons (ps_fld (pv 0) (cF cW hr (ac (pe_fld (pv 0) rfl) (ac pe_str pa_nil))) rfl)
    (pss_one (ps_fld (pv 0) (pe_dc [] ["at", "parameter"] [none, none] rfl ⟨rfl, rfl, rfl, rfl⟩ (pi_enum rfl T.en (ac (pe_fld (pv 0) rfl) pa_nil)) (gown_tup2 (K := K) (n := 2) 0 1) rfl rfl rfl
        (fun pins fp s H C => ⟨pg_tup rfl (pgs_cons (pg_name (i := 0) ndAP rfl (Or.inl rfl) (.inr rfl)) (pgs_cons (pg_name (i := 1) ndAP rfl (Or.inl rfl) (.inr rfl)) pgs_nil)), pif_one (pt_val (pe_methP (pv 1) hB GB hr bB pass0)), pe_fldK (K := K) rfl (pv 1) rfl, pv 0⟩)) rfl)))))), ?_⟩
  -- row
  refine ⟨_, rfl, a, _, rfl, .inl (SqL.of ha), fun l1 hl1 => ?_⟩
  have s1 := same_new hl1 (.lst (ps.map V.ref))
  refine ⟨_, rfl, f, CF, dx, fs, rfl, s1 _ _ hf, FK.cl, FK.n1, (by omega), ?_⟩
  have x1 : SX f H (upd (upd H l1 (.lst (ps.map V.ref))) f (.ins CF dx (putF "row" (.ref l1) fs))) := (SX.refl.same s1).upd
  have f1 : upd (upd H l1 (.lst (ps.map V.ref))) f (.ins CF dx (putF "row" (.ref l1) fs)) f = some (.ins CF dx (putF "row" (.ref l1) fs)) := upd_same
  have e1 : upd (upd H l1 (.lst (ps.map V.ref))) f (.ins CF dx (putF "row" (.ref l1) fs)) l1 = some (.lst (ps.map V.ref)) := by
    rw [upd_ne (fun z => by rw [z, hf] at hl1; cases hl1), upd_same]
  have p1 := putF_le "row" (.ref l1) fs
  have r1 : (putF "row" (.ref l1) fs).lookup ("row" : Str) = some (.ref l1) := by rw [lookup_putF, if_pos rfl]
  show tSeq _ _ _ _ (upd (upd H l1 (.lst (ps.map V.ref))) f (.ins CF dx (putF "row" (.ref l1) fs)))
  generalize upd (upd H l1 (.lst (ps.map V.ref))) f (.ins CF dx (putF "row" (.ref l1) fs)) = H1 at x1 f1 e1 ⊢
  have nbf : b ≠ f := ne_of hb hf (by intro z; cases z)
  -- bar_names
  refine ⟨_, rfl, b, _, rfl, .inl (SqL.of (x1 _ _ hb nbf)), fun l2 hl2 => ?_⟩
  have s2 := same_new hl2 (.lst (bars.map V.str))
  have hlb : H l2 = none := by
    cases e : H l2 with
    | none => rfl
    | some u => exact absurd (x1 _ _ e (fun z => by rw [z, f1] at hl2; cases hl2)) (by rw [hl2]; intro z; cases z)
  refine ⟨_, rfl, f, CF, dx, _, rfl, s2 _ _ f1, FK.cl, FK.n2, (by omega), ?_⟩
  have x2 : SX f H (upd (upd H1 l2 (.lst (bars.map V.str))) f (.ins CF dx (putF "bar_names" (.ref l2) (putF "row" (.ref l1) fs)))) := (x1.same s2).upd
  have f2 : upd (upd H1 l2 (.lst (bars.map V.str))) f (.ins CF dx (putF "bar_names" (.ref l2) (putF "row" (.ref l1) fs))) f = some (.ins CF dx (putF "bar_names" (.ref l2) (putF "row" (.ref l1) fs))) := upd_same
  have g2 : upd (upd H1 l2 (.lst (bars.map V.str))) f (.ins CF dx (putF "bar_names" (.ref l2) (putF "row" (.ref l1) fs))) l2 = some (.lst (bars.map V.str)) := by
    rw [upd_ne (fun z => by rw [z, f1] at hl2; cases hl2), upd_same]
  have e2 : upd (upd H1 l2 (.lst (bars.map V.str))) f (.ins CF dx (putF "bar_names" (.ref l2) (putF "row" (.ref l1) fs))) l1 = some (.lst (ps.map V.ref)) := by
    rw [upd_ne (ne_of e1 f1 (by intro z; cases z)), s2 _ _ e1]
  have p2 := putF_le "bar_names" (.ref l2) (putF "row" (.ref l1) fs)
  have r2 : (putF "bar_names" (.ref l2) (putF "row" (.ref l1) fs)).lookup ("row" : Str) = some (.ref l1) := by rw [lookup_putF, if_neg (by decide +kernel)]; exact r1
  show tSeq _ _ _ _ (upd (upd H1 l2 (.lst (bars.map V.str))) f (.ins CF dx (putF "bar_names" (.ref l2) (putF "row" (.ref l1) fs))))
  generalize hfs2 : putF "bar_names" (.ref l2) (putF "row" (.ref l1) fs) = fs2 at f2 e2 g2 p2 r2 x2 ⊢
  generalize upd (upd H1 l2 (.lst (bars.map V.str))) f (.ins CF dx fs2) = H2 at x2 f2 e2 g2 ⊢
  have hp2 := pats_sx hf nw x2 hp
  -- place_count
  refine ⟨_, rfl, f, CF, dx, _, _, rfl, f2, FK.cl, FK.n1, r2, l1, rfl, ⟨_, SqL.of e2⟩, fun D hD => ?_⟩
  refine lc_list (K := K) (xs := ps.map V.ref) (fun i ys H' => Same H2 H' ∧ H' D = some (.lst ys) ∧ ys.length = plN (rows.take i)) ⟨same_new hD _, upd_same, rfl⟩ (fun i ys H' h => SqL.of (h.1 _ _ e2)) ?_ ?_
  · rintro i x ys H' hlt hx ⟨sH, hDy, ey⟩
    obtain ⟨pa, hpa, rfl⟩ := refs_at hx
    obtain ⟨r, hr', dx', hdx⟩ := paired_at hp2 hpa
    have rok := hok r (List.mem_of_getElem? hr')
    have C := PP r.k rok.1
    have nl : ys.length ≤ i := by
      rw [ey]
      unfold plN
      refine Nat.le_trans (List.length_filter_le _ _) ?_
      rw [List.length_take]
      omega
    have hd2 := sH _ _ hdx
    refine ⟨_, rfl, pa, _, dx', _, rfl, ⟨r.k, rok.1, rfl⟩, hd2, pf_no (by decide +kernel) (by decide +kernel) (by decide +kernel), pa, dx', _, _, _, _, rfl, C, hd2, _, rfl, ?_⟩
    rw [in_pl r.k rok.1]
    have tk := pl_take hr'
    refine ⟨fun e => ?_, fun e => ?_⟩
    · rw [e, if_pos rfl] at tk
      refine ⟨_, rfl, lcN.mk hlt (le1000 (by rw [List.length_map, hp.length]; omega)) hDy nl ⟨fun b u e => ?_, upd_same, ?_⟩⟩
      · rw [upd_ne (ne_of_none e hD)]
        exact sH b u e
      · rw [List.length_append, ey, tk]
        rfl
    · rw [e, if_neg Bool.false_ne_true] at tk
      exact lcS.mk hlt ⟨sH, hDy, by rw [ey, tk]; rfl⟩
  rintro ys H3 ⟨s3, hDy, ey⟩
  rw [List.length_map, hp.length, List.take_length] at ey
  refine ⟨D, _, rfl, .inl (SqL.of hDy), ?_⟩
  rw [ey]
  have x3 := x2.same s3
  refine ⟨_, rfl, f, CF, dx, _, rfl, s3 _ _ f2, FK.cl, FK.n3, (by omega), ?_⟩
  have f3 : upd H3 f (.ins CF dx (putF "place_count" (.int (plN rows : Nat)) fs2)) f = some (.ins CF dx (putF "place_count" (.int (plN rows : Nat)) fs2)) := upd_same
  have x4 : SX f H (upd H3 f (.ins CF dx (putF "place_count" (.int (plN rows : Nat)) fs2))) := x3.upd
  have e4 : upd H3 f (.ins CF dx (putF "place_count" (.int (plN rows : Nat)) fs2)) l1 = some (.lst (ps.map V.ref)) := by rw [upd_ne (ne_of e2 f2 (by intro z; cases z))]; exact s3 _ _ e2
  have g4 : upd H3 f (.ins CF dx (putF "place_count" (.int (plN rows : Nat)) fs2)) l2 = some (.lst (bars.map V.str)) := by rw [upd_ne (ne_of g2 f2 (by intro z; cases z))]; exact s3 _ _ g2
  have p3 := putF_le "place_count" (.int (plN rows : Nat)) fs2
  have r3 : (putF "place_count" (.int (plN rows : Nat)) fs2).lookup ("row" : Str) = some (.ref l1) := by rw [lookup_putF, if_neg (by decide +kernel)]; exact r2
  show tSeq _ _ _ _ (upd H3 f (.ins CF dx (putF "place_count" (.int (plN rows : Nat)) fs2)))
  generalize hfs3 : putF "place_count" (.int (plN rows : Nat)) fs2 = fs3 at f3 x4 e4 g4 p3 r3 ⊢
  generalize upd H3 f (.ins CF dx fs3) = H4 at x4 f3 e4 g4 ⊢
  -- tail_number
  refine ⟨_, rfl, f, CF, dx, _, _, rfl, f3, FK.cl, FK.n1, r3, l1, ps, rows, 2, rfl, by decide, e4, pats_sx hf nw x4 hp, hok, fun H5 s5 => ?_⟩
  refine ⟨_, rfl, f, CF, dx, _, rfl, s5 _ _ f3, FK.cl, FK.n4, (by omega), ?_⟩
  have f5 : upd H5 f (.ins CF dx (putF "tail_number" (numV (firstK 2 0 rows)) fs3)) f = some (.ins CF dx (putF "tail_number" (numV (firstK 2 0 rows)) fs3)) := upd_same
  have x5 : SX f H (upd H5 f (.ins CF dx (putF "tail_number" (numV (firstK 2 0 rows)) fs3))) := (x4.same s5).upd
  have e5 : upd H5 f (.ins CF dx (putF "tail_number" (numV (firstK 2 0 rows)) fs3)) l1 = some (.lst (ps.map V.ref)) := by rw [upd_ne (ne_of e4 f3 (by intro z; cases z))]; exact s5 _ _ e4
  have g5 : upd H5 f (.ins CF dx (putF "tail_number" (numV (firstK 2 0 rows)) fs3)) l2 = some (.lst (bars.map V.str)) := by rw [upd_ne (ne_of g4 f3 (by intro z; cases z))]; exact s5 _ _ g4
  have p4 := putF_le "tail_number" (numV (firstK 2 0 rows)) fs3
  have r4 : (putF "tail_number" (numV (firstK 2 0 rows)) fs3).lookup ("row" : Str) = some (.ref l1) := by rw [lookup_putF, if_neg (by decide +kernel)]; exact r3
  show tSeq _ _ _ _ (upd H5 f (.ins CF dx (putF "tail_number" (numV (firstK 2 0 rows)) fs3)))
  generalize hfs4 : putF "tail_number" (numV (firstK 2 0 rows)) fs3 = fs4 at f5 x5 e5 g5 p4 r4 ⊢
  generalize upd H5 f (.ins CF dx fs4) = H6 at x5 f5 e5 g5 ⊢
  -- bag_number
  refine ⟨_, rfl, f, CF, dx, _, _, rfl, f5, FK.cl, FK.n1, r4, l1, ps, rows, 4, rfl, by decide, e5, pats_sx hf nw x5 hp, hok, fun H7 s7 => ?_⟩
  refine ⟨_, rfl, f, CF, dx, _, rfl, s7 _ _ f5, FK.cl, FK.n5, (by omega), ?_⟩
  have f7 : upd H7 f (.ins CF dx (putF "bag_number" (numV (firstK 4 0 rows)) fs4)) f = some (.ins CF dx (putF "bag_number" (numV (firstK 4 0 rows)) fs4)) := upd_same
  have x7 : SX f H (upd H7 f (.ins CF dx (putF "bag_number" (numV (firstK 4 0 rows)) fs4))) := (x5.same s7).upd
  have e7 : upd H7 f (.ins CF dx (putF "bag_number" (numV (firstK 4 0 rows)) fs4)) l1 = some (.lst (ps.map V.ref)) := by rw [upd_ne (ne_of e5 f5 (by intro z; cases z))]; exact s7 _ _ e5
  have g7 : upd H7 f (.ins CF dx (putF "bag_number" (numV (firstK 4 0 rows)) fs4)) l2 = some (.lst (bars.map V.str)) := by rw [upd_ne (ne_of g5 f5 (by intro z; cases z))]; exact s7 _ _ g5
  have p5 := putF_le "bag_number" (numV (firstK 4 0 rows)) fs4
  have r5 : (putF "bag_number" (numV (firstK 4 0 rows)) fs4).lookup ("row" : Str) = some (.ref l1) := by rw [lookup_putF, if_neg (by decide +kernel)]; exact r4
  generalize hfs5 : putF "bag_number" (numV (firstK 4 0 rows)) fs4 = fs5 at f7 x7 e7 g7 p5 r5 ⊢
  generalize upd H7 f (.ins CF dx fs5) = H8 at x7 f7 e7 g7 ⊢
  have hp8 := pats_sx hf nw x7 hp
  -- doors
  refine ⟨_, rfl, f, CF, dx, _, _, rfl, f7, FK.cl, FK.n1, r5, l1, rfl, ⟨_, SqL.of e7⟩, fun D2 hD2 => ?_⟩
  refine dc_enum (K := K) (xs := ps.map V.ref) (fun i ys H' => Same H8 H' ∧ H' D2 = some (.dK ys) ∧ ys = doorsF 0 [] (rows.take i)) ⟨same_new hD2 _, upd_same, rfl⟩ (fun i ys H' h => SqL.of (h.1 _ _ e7)) ?_ ?_
  · rintro i x p ys H' hlt hx ⟨sH, hDy, ey⟩ hpn
    obtain ⟨pa, hpa, rfl⟩ := refs_at hx
    obtain ⟨r, hr', dx', hdx⟩ := paired_at hp8 hpa
    have rok := hok r (List.mem_of_getElem? hr')
    have C := PP r.k rok.1
    have sp := same_new hpn (.tup [.int (i : Nat), .ref pa])
    have hd2 := sp _ _ (sH _ _ hdx)
    have hDp : upd H' p (.tup [.int (i : Nat), .ref pa]) D2 = some (.dK ys) := by rw [upd_ne (ne_of_none hDy hpn)]; exact hDy
    have nl : ys.length ≤ i := by
      rw [ey]
      refine Nat.le_trans (doors_len _ _ _) ?_
      rw [List.length_take]
      show 0 + _ ≤ i
      omega
    refine ⟨p, _, rfl, SqT.of upd_same, rfl, _, _, rfl, _, _, rfl, rfl, ?_⟩
    refine ⟨_, rfl, pa, _, dx', _, rfl, ⟨r.k, rok.1, rfl⟩, hd2, pf_no (by decide +kernel) (by decide +kernel) (by decide +kernel), pa, dx', _, _, _, _, rfl, C, hd2, _, rfl, ?_⟩
    rw [in_nm r.k rok.1]
    have tk := doorsF_take rows 0 i [] hr'
    refine ⟨fun e => ?_, fun e => ?_⟩
    · rw [e, if_pos rfl] at tk
      refine ⟨_, rfl, pa, _, dx', _, _, rfl, hd2, C.cl, C.nN, pf_name, _, rfl, dcN.mk (.inr r.z) hlt rfl (le1000 (by rw [List.length_map, hp.length]; omega)) hDp nl ⟨fun b u e => ?_, upd_same, ?_⟩⟩
      · rw [upd_ne (ne_of_none e hD2)]
        exact sp _ _ (sH b u e)
      · rw [tk, ← ey, Nat.zero_add]
    · rw [e, if_neg Bool.false_ne_true] at tk
      exact dcS.mk hlt ⟨sH.trans sp, hDp, by rw [ey, tk]⟩
  rintro ys H9 ⟨s9, hDy, ey⟩
  rw [List.length_map, hp.length, List.take_length] at ey
  refine ⟨_, rfl, f, CF, dx, _, rfl, s9 _ _ f7, FK.cl, FK.n6, (by omega), ?_⟩
  have nf : ∀ {x : Addr} {o : HO}, H9 x = some o → (∀ C d g, o ≠ .ins C d g) → upd H9 f (.ins CF dx (putF "doors" (.ref D2) fs5)) x = some o := fun {x o} e n => by
    rw [upd_ne (ne_of e (s9 _ _ f7) (by intro z; exact n _ _ _ z))]
    exact e
  refine q _ (x7.same s9).upd ⟨dx, _, l1, l2, D2, ps, upd_same, ?_, nf (s9 _ _ e7) (by intro _ _ _ z; cases z), pats_sx hf nw (x7.same s9).upd hp, nf (s9 _ _ g7) (by intro _ _ _ z; cases z), nf (by rw [hDy, ey]) (by intro _ _ _ z; cases z), hl1, hlb⟩ ⟨dx, _, upd_same, Nat.le_trans (putF_le _ _ _) (by omega)⟩
  rw [← hfs5, ← hfs4, ← hfs3, ← hfs2]
  refine ⟨?_, ?_, ?_, ?_, ?_, ?_, fun mm hm => ?_⟩
  · rw [lookup_putF, if_neg (by decide +kernel), lookup_putF, if_neg (by decide +kernel), lookup_putF, if_neg (by decide +kernel), lookup_putF, if_neg (by decide +kernel), lookup_putF, if_neg (by decide +kernel), lookup_putF, if_pos rfl]
  · rw [lookup_putF, if_neg (by decide +kernel), lookup_putF, if_neg (by decide +kernel), lookup_putF, if_neg (by decide +kernel), lookup_putF, if_neg (by decide +kernel), lookup_putF, if_pos rfl]
  · rw [lookup_putF, if_neg (by decide +kernel), lookup_putF, if_neg (by decide +kernel), lookup_putF, if_neg (by decide +kernel), lookup_putF, if_pos rfl]
  · rw [lookup_putF, if_neg (by decide +kernel), lookup_putF, if_neg (by decide +kernel), lookup_putF, if_pos rfl]
  · rw [lookup_putF, if_neg (by decide +kernel), lookup_putF, if_pos rfl]
  · rw [lookup_putF, if_pos rfl]
  · have h' : ∀ a ∈ attrs, ¬ mm = a := fun a ha e => hm (e ▸ ha)
    rw [lookup_putF, if_neg (h' _ (by decide +kernel)), lookup_putF, if_neg (h' _ (by decide +kernel)), lookup_putF, if_neg (h' _ (by decide +kernel)), lookup_putF, if_neg (h' _ (by decide +kernel)), lookup_putF, if_neg (h' _ (by decide +kernel)), lookup_putF, if_neg (h' _ (by decide +kernel))]
    exact pn mm hm
end
end K65

set_option Elab.async false
set_option linter.all false
set_option maxRecDepth 100000
set_option maxHeartbeats 4000000
namespace K65
open PySem L2 PyProof.Rows
def spFI (c : C5) (CF : Addr) : Sp := fun vs H Q _ => ∃ (f a dx : Addr) (bv : V) (ps : List Addr) (rows : List Rw) (bars : List Str), vs = [.ref f, .ref a, bv] ∧ H f = some (.ins CF dx []) ∧ H a = some (.lst (ps.map V.ref)) ∧ Paired (PAt c H) ps rows ∧ ((bv = .non ∧ bars = []) ∨ ∃ b, bv = .ref b ∧ H b = some (.lst (bars.map V.str))) ∧ Valid rows bars ∧
  ∀ H', SX f H H' → FormN c CF H H' f rows bars → (∃ dx' fs', H' f = some (.ins CF dx' fs') ∧ fs'.length ≤ 6) → Q .non H'
def spPars (c : C5) (CF : Addr) : Sp := fun vs H Q _ => ∃ (f : Addr) (rows : List Rw) (bars : List Str), vs = [.ref f] ∧ FormAt c CF H f rows bars ∧ ∀ (l : Addr) (ps : List Addr) (H' : Hp), Same H H' → H l = none → H' l = some (.lst (ps.map V.ref)) → Paired (PAt c H') ps rows → Q (.ref l) H'
def spBars (c : C5) (CF : Addr) : Sp := fun vs H Q _ => ∃ (f : Addr) (rows : List Rw) (bars : List Str), vs = [.ref f] ∧ FormAt c CF H f rows bars ∧ ∀ (l : Addr) (H' : Hp), Same H H' → H l = none → H' l = some (.lst (bars.map V.str)) → Q (.ref l) H'
def spPlaces (c : C5) (CF : Addr) : Sp := fun vs H Q _ => ∃ (f : Addr) (rows : List Rw) (bars : List Str), vs = [.ref f] ∧ FormAt c CF H f rows bars ∧ Q (.int (plN rows : Nat)) H
def spWord (c : C5) (CF : Addr) (kk : Nat) : Sp := fun vs H Q _ => ∃ (f : Addr) (rows : List Rw) (bars : List Str), vs = [.ref f] ∧ FormAt c CF H f rows bars ∧ Q (numV (firstK kk 0 rows)) H
def spNum (c : C5) (CF : Addr) : Sp := fun vs H Q _ => ∃ (f : Addr) (z : Str) (rows : List Rw) (bars : List Str), vs = [.ref f, .str z] ∧ FormAt c CF H f rows bars ∧ Q ((valV (doorsF 0 [] rows) (.inr z)).getD .non) H
section
variable {P : Program} {w : World} {K : PySem.W.Frag} {mg : Str → Option Value} {base : Heap} {f G sg CF : Addr} {fd : FuncData} {c : C5} {m : MA}
theorem scFInit : FnScope ["self", "parameters", "bars", "names"] ["self", "parameters", "bars"] (defScope sFInit) := ⟨rfl, rfl, rfl, by decide +kernel, rfl, by decide +kernel, by decide +kernel⟩
theorem ok_finit {ds : List Value} {g1 g2 g3 g4 g5 : Addr} {e1 e2 e3 e4 e5 : FuncData} (F : FunD K "__init__" "Form.__init__" sFInit f fd ds) (FK : FC K CF) (mK : Meth K CF "keep" g5)
    (cM : Callee P w K mg base 1 "refuse_too_many" g1 e1 ["parameters", "bars"] (spMany K)) (cO : Callee P w K mg base 1 "refuse_bad_order" g2 e2 ["parameters"] (spOrd c)) (cB' : Callee P w K mg base 2 "refuse_bars_without_name" g3 e3 ["bars"] spRB) (cT : Callee P w K mg base 2 "refuse_twice" g4 e4 ["parameters", "bars"] (spTw c))
    (GK : FnOk P w K mg base CX0 2 g5 e5 ["self", "parameters", "bars"] (spKeep c CF)) (bK : Binds K e5 ["self", "parameters", "bars"] []) : FnOk P w K mg base CX0 3 f fd ["self", "parameters", "bars"] (spFI c CF) := by
  refine F.ok scFInit (fun vs H Q E h => ?_) (fun cdv A outer s H vs Q E hr h => ?_)
  · obtain ⟨f, a, dx, bv, ps, rows, bars, rfl, _⟩ := h
    rfl
  obtain ⟨f, a, dx, bv, ps, rows, bars, rfl, hf, ha, hp, hb, V', q⟩ := h
  have hr1 : Room 1 _ := hr.mono (by decide)
  refine ⟨_, pss_cons (ps_set (i := 3) scFInit.nd rfl (Or.inl rfl) (pe_ifExp (pt_cmp (pc_isN (pv 2))) (pe_lst pa_nil) (pv 2)))
    (pss_cons (ps_expr (cF cM hr1 (ac (pv 1) (ac (pv 3) pa_nil))))
    (pss_cons (ps_expr (cF cO hr1 (ac (pv 1) pa_nil)))
    (pss_cons (ps_expr (cF cB' hr (ac (pv 3) pa_nil)))
    (pss_cons (ps_expr (cF cT hr (ac (pv 1) (ac (pv 3) pa_nil))))
    (pss_one (ps_expr (pe_meth (pv 0) FK.cl mK GK hr bK .nil pass0 (ac (pv 1) (ac (pv 3) pa_nil))))))))), ?_⟩
  try dsimp only
  refine seq_via (fun σ' H' => ∃ b, σ' = [some (.ref f), some (.ref a), some bv, some (.ref b)] ∧ Same H H' ∧ H' b = some (.lst (bars.map V.str))) ?_ (fun key => ?_)
  rotate_left
  · rcases hb with ⟨rfl, rfl⟩ | ⟨b, rfl, hb⟩
    · refine ⟨_, rfl, _, rfl, ?_⟩
      refine dT rfl ?_
      refine ⟨(by show 0 ≤ sizeLine; decide), fun l hl => ?_⟩
      exact key _ _ ⟨l, rfl, same_new hl _, upd_same⟩
    · refine ⟨_, rfl, _, rfl, ?_⟩
      refine dF (by intro z; cases z) ?_
      exact ⟨_, rfl, key _ _ ⟨b, rfl, Same.refl _, hb⟩⟩
  rintro σ1 H1 ⟨b, rfl, s1, hb1⟩
  have ha1 := s1 _ _ ha
  refine ⟨_, rfl, _, rfl, a, b, _, _, rfl, SqL.of ha1, SqL.of hb1, (by rw [List.length_map, hp.length]; exact V'.l24), (by rw [List.length_map]; exact V'.l60), ?_⟩
  refine ⟨_, rfl, a, ps, rows, rfl, ha1, pats_same s1 hp, V'.ok, V'.ord, fun H2 s2 => ?_⟩
  refine ⟨_, rfl, b, bars, rfl, s2 _ _ hb1, V'.bn, fun H3 s3 => ?_⟩
  have s13 := s1.trans (s2.trans s3)
  refine ⟨_, rfl, _, rfl, a, b, ps, rows, bars, rfl, s13 _ _ ha, pats_same s13 hp, V'.ok, Nat.le_trans V'.l24 (by decide), s3 _ _ (s2 _ _ hb1), Nat.le_trans V'.l60 (by decide), V'.nd, fun H4 s4 => ?_⟩
  have s14 := s13.trans s4
  refine ⟨_, rfl, f, dx, _, rfl, s14 _ _ hf, rfl, _, rfl, _, rfl, f, a, b, dx, [], ps, rows, bars, rfl, s14 _ _ hf, ⟨by decide, fun _ _ => rfl⟩, s14 _ _ ha, pats_same s14 hp, V'.ok, Nat.le_trans V'.l24 (by decide), s4 _ _ (s3 _ _ (s2 _ _ hb1)), fun H5 x5 F5 L5 => ?_⟩
  exact q _ (fun b' u e n => x5 b' u (s14 _ _ e) n) (F5.of s14) L5
theorem scFPars : FnScope ["self"] ["self"] (defScope sFPars) := ⟨rfl, rfl, rfl, by decide +kernel, rfl, by decide +kernel, by decide +kernel⟩
theorem ok_fpars (F : Fun K "parameters" "Form.parameters" sFPars f fd) (T : TxtF w K mg G sg) (FK : FC K CF) : FnOk P w K mg base CX0 1 f fd ["self"] (spPars c CF) := by
  refine F.ok scFPars (fun vs H Q E h => ?_) (fun cdv A outer s H vs Q E hr h => ?_)
  · obtain ⟨f, rows, bars, rfl, _⟩ := h
    rfl
  obtain ⟨f, rows, bars, rfl, ⟨dx, fs, lr, lb, ld, ps, h1, h2, h3, h4, h5, h6⟩, q⟩ := h
  refine ⟨_, pss_one (ps_ret (cTy call_list_of T.lst PyProof.Rows.boot_list (ac (pe_fld (pv 0) rfl) pa_nil))), ?_⟩
  refine ⟨_, rfl, f, CF, dx, _, _, rfl, h1, FK.cl, FK.n1, h2.row, lr, _, rfl, .inl (SqL.of h3), fun l hl => ?_⟩
  have s1 := same_new hl (.lst (ps.map V.ref))
  exact q l ps _ s1 hl upd_same (pats_same s1 h4)
theorem scFBars : FnScope ["self"] ["self"] (defScope sFBars) := ⟨rfl, rfl, rfl, by decide +kernel, rfl, by decide +kernel, by decide +kernel⟩
theorem ok_fbars (F : Fun K "bars" "Form.bars" sFBars f fd) (T : TxtF w K mg G sg) (FK : FC K CF) : FnOk P w K mg base CX0 1 f fd ["self"] (spBars c CF) := by
  refine F.ok scFBars (fun vs H Q E h => ?_) (fun cdv A outer s H vs Q E hr h => ?_)
  · obtain ⟨f, rows, bars, rfl, _⟩ := h
    rfl
  obtain ⟨f, rows, bars, rfl, ⟨dx, fs, lr, lb, ld, ps, h1, h2, h3, h4, h5, h6⟩, q⟩ := h
  refine ⟨_, pss_one (ps_ret (cTy call_list_of T.lst PyProof.Rows.boot_list (ac (pe_fld (pv 0) rfl) pa_nil))), ?_⟩
  refine ⟨_, rfl, f, CF, dx, _, _, rfl, h1, FK.cl, FK.n2, h2.bn, lb, _, rfl, .inl (SqL.of h5), fun l hl => ?_⟩
  exact q l _ (same_new hl _) hl upd_same
theorem scFPlaces : FnScope ["self"] ["self"] (defScope sFPlaces) := ⟨rfl, rfl, rfl, by decide +kernel, rfl, by decide +kernel, by decide +kernel⟩
theorem ok_fplaces (F : Fun K "places" "Form.places" sFPlaces f fd) (FK : FC K CF) : FnOk P w K mg base CX0 1 f fd ["self"] (spPlaces c CF) := by
  refine F.ok scFPlaces (fun vs H Q E h => ?_) (fun cdv A outer s H vs Q E hr h => ?_)
  · obtain ⟨f, rows, bars, rfl, _⟩ := h
    rfl
  obtain ⟨f, rows, bars, rfl, ⟨dx, fs, lr, lb, ld, ps, h1, h2, h3, h4, h5, h6⟩, q⟩ := h
  exact ⟨_, pss_one (ps_ret (pe_fld (pv 0) rfl)), _, rfl, f, CF, dx, _, _, rfl, h1, FK.cl, FK.n3, h2.pc, q⟩
theorem scFTail : FnScope ["self"] ["self"] (defScope sFTail) := ⟨rfl, rfl, rfl, by decide +kernel, rfl, by decide +kernel, by decide +kernel⟩
theorem ok_ftail (F : Fun K "tail" "Form.tail" sFTail f fd) (FK : FC K CF) : FnOk P w K mg base CX0 1 f fd ["self"] (spWord c CF 2) := by
  refine F.ok scFTail (fun vs H Q E h => ?_) (fun cdv A outer s H vs Q E hr h => ?_)
  · obtain ⟨f, rows, bars, rfl, _⟩ := h
    rfl
  obtain ⟨f, rows, bars, rfl, ⟨dx, fs, lr, lb, ld, ps, h1, h2, h3, h4, h5, h6⟩, q⟩ := h
  exact ⟨_, pss_one (ps_ret (pe_fld (pv 0) rfl)), _, rfl, f, CF, dx, _, _, rfl, h1, FK.cl, FK.n4, h2.tn, q⟩
theorem scFBag : FnScope ["self"] ["self"] (defScope sFBag) := ⟨rfl, rfl, rfl, by decide +kernel, rfl, by decide +kernel, by decide +kernel⟩
theorem ok_fbag (F : Fun K "bag" "Form.bag" sFBag f fd) (FK : FC K CF) : FnOk P w K mg base CX0 1 f fd ["self"] (spWord c CF 4) := by
  refine F.ok scFBag (fun vs H Q E h => ?_) (fun cdv A outer s H vs Q E hr h => ?_)
  · obtain ⟨f, rows, bars, rfl, _⟩ := h
    rfl
  obtain ⟨f, rows, bars, rfl, ⟨dx, fs, lr, lb, ld, ps, h1, h2, h3, h4, h5, h6⟩, q⟩ := h
  exact ⟨_, pss_one (ps_ret (pe_fld (pv 0) rfl)), _, rfl, f, CF, dx, _, _, rfl, h1, FK.cl, FK.n5, h2.bg, q⟩
theorem scFNum : FnScope ["self", "name"] ["self", "name"] (defScope sFNum) := ⟨rfl, rfl, rfl, by decide +kernel, rfl, by decide +kernel, by decide +kernel⟩
theorem ok_fnum (F : Fun K "number_of" "Form.number_of" sFNum f fd) (FK : FC K CF) : FnOk P w K mg base CX0 1 f fd ["self", "name"] (spNum c CF) := by
  refine F.ok scFNum (fun vs H Q E h => ?_) (fun cdv A outer s H vs Q E hr h => ?_)
  · obtain ⟨f, z, rows, bars, rfl, _⟩ := h
    rfl
  obtain ⟨f, z, rows, bars, rfl, ⟨dx, fs, lr, lb, ld, ps, h1, h2, h3, h4, h5, h6⟩, q⟩ := h
  refine ⟨_, pss_one (ps_ret (pe_dget1 (hu_of hr) (pe_fld (pv 0) rfl) (pv 1) ⟨rfl, rfl, rfl, rfl⟩)), ?_⟩
  refine ⟨_, rfl, f, CF, dx, _, _, rfl, h1, FK.cl, FK.n6, h2.dr, ld, rfl, ?_, _, rfl, _, .inl ⟨_, .inr z, .inl h6, rfl, rfl⟩, q⟩
  exact .inl ⟨_, .inl h6⟩
end
end K65

set_option Elab.async false
set_option linter.all false
set_option maxRecDepth 100000
set_option maxHeartbeats 4000000
namespace K65
open PySem L2 PyProof.Rows
/-! ### calls as data -/
inductive Item where
  | one (t : Int) | row (ts : List Int) | named (n : Str) (t : Int) | book (ps : List (Str × Int))
def pairD (p : Str × Int) : Dt := .tup [.str p.1, .int p.2]
def itemD : Item → Dt
  | .one t => .tup [.str "one", .int t]
  | .row ts => .tup [.str "row", .lst (ts.map .int)]
  | .named n t => .tup [.str "named", .str n, .int t]
  | .book ps => .tup [.str "book", .lst (ps.map pairD)]
def itT : Item → List Int
  | .one t => [t]
  | .row ts => ts
  | _ => []
def itP : Item → List (Str × Int)
  | .named n t => [(n, t)]
  | .book ps => ps
  | _ => []
def laidT (c : List Item) : List Int := (c.map itT).flatten
def laidP (c : List Item) : List (Str × Int) := (c.map itP).flatten
abbrev T' : Addr → Prop := fun _ => True
/-- two new lists, the things and the pairs, in a tuple -/
def Two (K : PySem.W.Frag) (H H' : Hp) (p : Addr) (ts : List Int) (ps : List (Str × Int)) : Prop :=
  ∃ l1 l2 xs, H l1 = none ∧ H l2 = none ∧ l1 ≠ l2 ∧ H p = none ∧ H' p = some (.tup [.ref l1, .ref l2]) ∧ H' l1 = some (.lst (ts.map V.int)) ∧ H' l2 = some (.lst xs) ∧ Paired (Says K T' H' 1) xs (ps.map pairD)
/-! ### the promises -/
def spLaid (K : PySem.W.Frag) : Sp := fun vs H Q _ => ∃ (a : Addr) (c : List Item) (xs : List V), vs = [.ref a] ∧ SqL K H a xs ∧ Paired (Says K T' H 3) xs (c.map itemD) ∧ (laidT c).length ≤ 900 ∧ (laidP c).length ≤ 900 ∧
  ∀ (p : Addr) (H' : Hp), Same H H' → Two K H H' p (laidT c) (laidP c) → Q (.ref p) H'

section
variable {P : Program} {w : World} {K : PySem.W.Frag} {mg : Str → Option Value} {base : Heap} {f : Addr} {fd : FuncData}
theorem cut_ints (ns : List Int) (lo hi : Option Int) : ∃ ms : List Int, cutV (ns.map V.int) lo hi = ms.map V.int ∧ ms.length ≤ ns.length ∧ ∀ m ∈ ms, m ∈ ns := by
  refine ⟨(ns.drop (HT.sIx ns.length 0 lo)).take (HT.sIx ns.length ns.length hi - HT.sIx ns.length 0 lo), ?_, ?_, fun m hm => List.mem_of_mem_drop (List.mem_of_mem_take hm)⟩
  · unfold cutV
    rw [List.length_map, List.map_take, List.map_drop]
  · rw [List.length_take, List.length_drop]
    omega
end

section
variable {K : PySem.W.Frag} {ok : Addr → Prop} {H H' : Hp} {n : Nat} {x : V}
theorem says_int {i : Int} (h : Says K ok H n x (.int i)) : x = .int i := by
  have fl : FlatD x (.int i) → x = .int i := fun h => by
    cases x <;> first | exact h.elim | (have e := (show _ = _ from h); rw [e])
  cases n with
  | zero => exact fl h
  | succ n =>
    rcases h with h | ⟨_, _, _, _, e, _⟩ | ⟨_, _, _, _, e, _⟩
    · exact fl h
    · cases e
    · cases e
theorem says_str {z : Str} (h : Says K ok H n x (.str z)) : x = .str z := by
  have fl : FlatD x (.str z) → x = .str z := fun h => by
    cases x <;> first | exact h.elim | (have e := (show _ = _ from h); rw [e])
  cases n with
  | zero => exact fl h
  | succ n =>
    rcases h with h | ⟨_, _, _, _, e, _⟩ | ⟨_, _, _, _, e, _⟩
    · exact fl h
    · cases e
    · cases e
theorem says_tup {ds : List Dt} (h : Says K ok H (n + 1) x (.tup ds)) : ∃ a xs, x = .ref a ∧ SqT K H a xs ∧ Paired (Says K ok H n) xs ds := by
  rcases h with h | ⟨a, xs, ds', e1, e2, e3, r⟩ | ⟨_, _, _, _, e, _⟩
  · cases x <;> exact h.elim
  · cases e2; exact ⟨a, xs, e1, e3, r⟩
  · cases e
theorem says_lst {ds : List Dt} (h : Says K ok H (n + 1) x (.lst ds)) : ∃ a xs, x = .ref a ∧ ok a ∧ H a = some (.lst xs) ∧ Paired (Says K ok H n) xs ds := by
  rcases h with h | ⟨_, _, _, _, e, _⟩ | ⟨a, xs, ds', e1, e2, o, e3, r⟩
  · cases x <;> exact h.elim
  · cases e
  · cases e2; exact ⟨a, xs, e1, o, e3, r⟩
theorem says_ints : ∀ {ts : List Int} {xs : List V}, Paired (Says K ok H n) xs (ts.map .int) → xs = ts.map V.int
  | [], _, r => by cases r; rfl
  | t :: ts, _, r => by
    cases r with
    | cons h r => rw [says_int h, says_ints r]; rfl
theorem ints_says : ∀ (ts : List Int), Paired (Says K ok H n) (ts.map V.int) (ts.map .int)
  | [] => .nil
  | t :: ts => .cons .int (ints_says ts)
theorem paired_app {α β : Type} {F : α → β → Prop} : ∀ {a c : List α} {b d : List β}, Paired F a b → Paired F c d → Paired F (a ++ c) (b ++ d)
  | _, _, _, _, .nil, s => s
  | _, _, _, _, .cons r t, s => .cons r (paired_app t s)
/-- the four shapes of an item that a value says -/
theorem item_one {t : Int} (h : Says K ok H 3 x (itemD (.one t))) : ∃ a, x = .ref a ∧ SqT K H a [.str "one", .int t] := by
  obtain ⟨a, xs, rfl, hS, r⟩ := says_tup h
  cases r with
  | cons h1 r => cases r with
    | cons h2 r => cases r; rw [says_str h1, says_int h2] at hS; exact ⟨a, rfl, hS⟩
theorem item_row {ts : List Int} (h : Says K ok H 3 x (itemD (.row ts))) : ∃ a b, x = .ref a ∧ SqT K H a [.str "row", .ref b] ∧ ok b ∧ H b = some (.lst (ts.map V.int)) := by
  obtain ⟨a, xs, rfl, hS, r⟩ := says_tup h
  cases r with
  | cons h1 r => cases r with
    | cons h2 r =>
      cases r
      obtain ⟨b, ys, rfl, o, hb, q⟩ := says_lst h2
      rw [says_str h1] at hS
      rw [says_ints q] at hb
      exact ⟨a, b, rfl, hS, o, hb⟩
theorem item_named {z : Str} {t : Int} (h : Says K ok H 3 x (itemD (.named z t))) : ∃ a, x = .ref a ∧ SqT K H a [.str "named", .str z, .int t] := by
  obtain ⟨a, xs, rfl, hS, r⟩ := says_tup h
  cases r with
  | cons h1 r => cases r with
    | cons h2 r => cases r with
      | cons h3 r => cases r; rw [says_str h1, says_str h2, says_int h3] at hS; exact ⟨a, rfl, hS⟩
theorem item_book {ps : List (Str × Int)} (h : Says K ok H 3 x (itemD (.book ps))) : ∃ a b ys, x = .ref a ∧ SqT K H a [.str "book", .ref b] ∧ ok b ∧ H b = some (.lst ys) ∧ Paired (Says K ok H 1) ys (ps.map pairD) := by
  obtain ⟨a, xs, rfl, hS, r⟩ := says_tup h
  cases r with
  | cons h1 r => cases r with
    | cons h2 r =>
      cases r
      obtain ⟨b, ys, rfl, o, hb, q⟩ := says_lst h2
      rw [says_str h1] at hS
      exact ⟨a, b, ys, rfl, hS, o, hb, q⟩
end
theorem laidT_snoc (c : List Item) (i : Nat) (it : Item) (h : c[i]? = some it) : laidT (c.take (i + 1)) = laidT (c.take i) ++ itT it := by
  unfold laidT
  rw [List.take_add_one, h, List.map_append, List.flatten_append]
  simp
theorem laidP_snoc (c : List Item) (i : Nat) (it : Item) (h : c[i]? = some it) : laidP (c.take (i + 1)) = laidP (c.take i) ++ itP it := by
  unfold laidP
  rw [List.take_add_one, h, List.map_append, List.flatten_append]
  simp
theorem laidT_le (c : List Item) (i : Nat) : (laidT (c.take i)).length ≤ (laidT c).length := by
  unfold laidT
  conv => rhs; rw [← List.take_append_drop i c]
  rw [List.map_append, List.flatten_append, List.length_append]
  omega
theorem laidP_le (c : List Item) (i : Nat) : (laidP (c.take i)).length ≤ (laidP c).length := by
  unfold laidP
  conv => rhs; rw [← List.take_append_drop i c]
  rw [List.map_append, List.flatten_append, List.length_append]
  omega
theorem ne1 : ¬ (V.str "row" = V.str "one") := by decide +kernel
theorem ne2 : ¬ (V.str "named" = V.str "one") := by decide +kernel
theorem ne3 : ¬ (V.str "book" = V.str "one") := by decide +kernel
theorem ne4 : ¬ (V.str "named" = V.str "row") := by decide +kernel
theorem ne5 : ¬ (V.str "book" = V.str "row") := by decide +kernel
theorem ne6 : ¬ (V.str "book" = V.str "named") := by decide +kernel
section
variable {P : Program} {w : World} {K : PySem.W.Frag} {mg : Str → Option Value} {base : Heap} {f : Addr} {fd : FuncData}
theorem scLaid : FnScope ["call", "things", "pairs", "item", "word"] ["call"] (defScope sLaid) := ⟨rfl, rfl, rfl, by decide +kernel, rfl, by decide +kernel, by decide +kernel⟩
theorem same_upd {H H2 : Hp} {l : Addr} (s : Same H H2) (h : H l = none) (o : HO) : Same H (upd H2 l o) := fun b u q => by rw [upd_ne (ne_of_none q h)]; exact s b u q
theorem ok_laid (F : Fun K "laid" "laid" sLaid f fd) : FnOk P w K mg base CX0 1 f fd ["call"] (spLaid K) := by
  refine F.ok scLaid (fun vs H Q E h => ?_) (fun cdv A outer s H vs Q E hr h => ?_)
  · obtain ⟨a, c, xs, rfl, _⟩ := h
    rfl
  obtain ⟨a, c, xs, rfl, hS, hc, hT, hP, q⟩ := h
  refine ⟨_, pss_cons (ps_set (i := 1) scLaid.nd rfl (Or.inl rfl) (pe_lst pa_nil)) (pss_cons (ps_set (i := 2) scLaid.nd rfl (Or.inl rfl) (pe_lst pa_nil))
    (pss_cons (ps_for PassesOwn.never rfl (pi_list (pv 0)) (pg_name (i := 3) scLaid.nd rfl (Or.inl rfl))
      (pss_cons (ps_set (i := 4) scLaid.nd rfl (Or.inl rfl) (pe_ix ix_tup (pv 3) pe_int (fun _ _ => rfl)))
      (pss_one (ps_if (pt_cmpR op_eq (pv 4) pe_str (nomark _)) (pss_one (ps_expr (pe_bm PySem.F.plainAttrs_list PySem.F.slot_list_append PySem.F.type_list_append mt_append (pv 1) (ac (pe_ix ix_tup (pv 3) pe_int (fun _ _ => rfl)) pa_nil))))
        (pss_one (ps_if (pt_cmpR op_eq (pv 4) pe_str (nomark _)) (pss_one (ps_expr (pe_bm PySem.F.plainAttrs_list PySem.F.slot_list_extend PySem.F.type_list_extend mt_extend (pv 1) (ac (pe_ix ix_tup (pv 3) pe_int (fun _ _ => rfl)) pa_nil))))
          (pss_one (ps_if (pt_cmpR op_eq (pv 4) pe_str (nomark _)) (pss_one (ps_expr (pe_bm PySem.F.plainAttrs_list PySem.F.slot_list_append PySem.F.type_list_append mt_append (pv 2) (ac (pe_tup (ac (pe_ix ix_tup (pv 3) pe_int (fun _ _ => rfl)) (ac (pe_ix ix_tup (pv 3) pe_int (fun _ _ => rfl)) pa_nil))) pa_nil))))
            (pss_one (ps_expr (pe_bm PySem.F.plainAttrs_list PySem.F.slot_list_extend PySem.F.type_list_extend mt_extend (pv 2) (ac (pe_ix ix_tup (pv 3) pe_int (fun _ _ => rfl)) pa_nil))))))))))))
    (pss_one (ps_ret (pe_tup (ac (pv 1) (ac (pv 2) pa_nil))))))), ?_⟩
  refine ⟨(by show 0 ≤ sizeLine; decide), fun l1 h1 => ?_⟩
  refine ⟨(by show 0 ≤ sizeLine; decide), fun l2 h2 => ?_⟩
  have n12 : l1 ≠ l2 := ne_of_none upd_same h2
  have f2 : H l2 = none := (same_new h1 _).free h2
  have s0 : Same H (upd (upd H l1 (.lst [])) l2 (.lst [])) := (same_new h1 _).trans (same_new h2 _)
  refine ⟨_, rfl, a, rfl, ⟨_, s0.seq hS⟩, for_list (K := K) (a := a) (xs := xs) (fun i σ H2 => ∃ v3 v4 ys, σ = [some (.ref a), some (.ref l1), some (.ref l2), v3, v4] ∧ Same H H2 ∧ H2 l1 = some (.lst ((laidT (c.take i)).map V.int)) ∧ H2 l2 = some (.lst ys) ∧ Paired (Says K T' H2 1) ys ((laidP (c.take i)).map pairD))
    ⟨_, _, [], rfl, s0, by rw [upd_ne n12, upd_same]; rfl, upd_same, .nil⟩ (fun i σ H2 _ ⟨_, _, _, _, s2, _⟩ => s2.seq hS) ?_ ?_⟩
  · rintro i y σ H2 hi ⟨v3, v4, ys, rfl, s2, g1, g2, gp⟩
    obtain ⟨d, hd, hy⟩ := Paired.get hc hi
    obtain ⟨it, hit, rfl⟩ : ∃ it, c[i]? = some it ∧ itemD it = d := by
      rw [List.getElem?_map] at hd
      cases e : c[i]? with
      | none => rw [e] at hd; cases hd
      | some it => rw [e] at hd; exact ⟨it, rfl, Option.some.inj hd⟩
    have hy2 := hy.same s2
    have eT := laidT_snoc c i it hit
    have eP := laidP_snoc c i it hit
    have lT := laidT_le c i
    have lP := laidP_le c i
    have lT1 := laidT_le c (i + 1)
    have lP1 := laidP_le c (i + 1)
    have lys : ys.length = (laidP (c.take i)).length := by rw [gp.length, List.length_map]
    have sT : ∀ {H3 : Hp} {o : HO} {l : Addr}, H3 l = none ∨ (∃ zs, H3 l = some (.lst zs)) → ∀ {b zs}, SqT K H3 b zs → SqT K (upd H3 l o) b zs := fun {H3 o l} hl {b zs} hz => by
      rcases hz with (z | ⟨u, z⟩) | z
      · refine .inl (.inl ?_)
        have : b ≠ l := fun e => by
          subst e
          rcases hl with e | ⟨_, e⟩
          · rw [e] at z; cases z
          · rw [e] at z; cases z
        rw [upd_ne this]; exact z
      · refine .inl (.inr ⟨u, ?_⟩)
        have : b ≠ l := fun e => by
          subst e
          rcases hl with e | ⟨_, e⟩
          · rw [e] at z; cases z
          · rw [e] at z; cases z
        rw [upd_ne this]; exact z
      · exact .inr z
    -- pairs are tuples of flat things: no list within is asked
    have keepP : ∀ {H3 : Hp} {o : HO} {l : Addr} {zs : List V} {ps : List (Str × Int)}, H3 l = none ∨ (∃ zs, H3 l = some (.lst zs)) → Paired (Says K T' H3 1) zs (ps.map pairD) → Paired (Says K T' (upd H3 l o) 1) zs (ps.map pairD) := by
      intro H3 o l zs ps hl r
      induction ps generalizing zs with
      | nil => cases r; exact .nil
      | cons p ps ih =>
        cases r with
        | cons h r =>
          refine .cons ?_ (ih r)
          obtain ⟨b, ws, rfl, hS', r'⟩ := says_tup h
          exact .tup (sT hl hS') (Paired.imp' (fun _ _ z => z) r')
    cases it with
    | one t =>
      obtain ⟨b, rfl, hb⟩ := item_one hy2
      refine ⟨_, rfl, b, _, _, .str "one", rfl, rfl, hb, rfl, ?_⟩
      refine ⟨_, rfl, rfl, _, rfl, ?_⟩
      refine dT rfl ?_
      refine ⟨_, rfl, .inl ⟨rfl, _, SqL.of g1⟩, _, rfl, b, _, _, .int t, rfl, rfl, hb, rfl, l1, _, _, rfl, rfl, g1, ?_, ?_⟩
      · rw [List.length_map]; exact small1000 (by omega)
      · refine ⟨_, _, ys, rfl, same_upd s2 h1 _, ?_, ?_, ?_⟩
        · rw [upd_same, eT, List.map_append]; rfl
        · rw [upd_ne n12.symm]; exact g2
        · rw [eP]; show Paired _ _ ((laidP (c.take i) ++ []).map pairD); rw [List.append_nil]; exact keepP (.inr ⟨_, g1⟩) gp
    | row ts =>
      obtain ⟨b, bl, rfl, hb, _, hbl⟩ := item_row hy2
      refine ⟨_, rfl, b, _, _, .str "row", rfl, rfl, hb, rfl, ?_⟩
      refine ⟨_, rfl, rfl, _, rfl, ?_⟩
      refine dF ne1 ?_
      refine ⟨_, rfl, rfl, _, rfl, ?_⟩
      refine dT rfl ?_
      refine ⟨_, rfl, .inl ⟨rfl, _, SqL.of g1⟩, _, rfl, b, _, _, .ref bl, rfl, rfl, hb, rfl, l1, bl, _, _, rfl, rfl, g1, hbl, ?_, ?_⟩
      · have e1 : (laidT (c.take (i + 1))).length = (laidT (c.take i)).length + ts.length := by rw [eT, List.length_append]; rfl
        rw [List.length_map, List.length_map]; exact le1000 (by omega)
      · refine ⟨_, _, ys, rfl, same_upd s2 h1 _, ?_, ?_, ?_⟩
        · rw [upd_same, eT, List.map_append]; rfl
        · rw [upd_ne n12.symm]; exact g2
        · rw [eP]; show Paired _ _ ((laidP (c.take i) ++ []).map pairD); rw [List.append_nil]; exact keepP (.inr ⟨_, g1⟩) gp
    | named z t =>
      obtain ⟨b, rfl, hb⟩ := item_named hy2
      refine ⟨_, rfl, b, _, _, .str "named", rfl, rfl, hb, rfl, ?_⟩
      refine ⟨_, rfl, rfl, _, rfl, ?_⟩
      refine dF ne2 ?_
      refine ⟨_, rfl, rfl, _, rfl, ?_⟩
      refine dF ne4 ?_
      refine ⟨_, rfl, rfl, _, rfl, ?_⟩
      refine dT rfl ?_
      refine ⟨_, rfl, .inl ⟨rfl, _, SqL.of g2⟩, _, rfl, b, _, _, .str z, rfl, rfl, hb, rfl, _, rfl, b, _, _, .int t, rfl, rfl, hb, rfl, (by show 2 ≤ sizeLine; decide), fun p hp => ?_⟩
      have np2 : l2 ≠ p := ne_of_none g2 hp
      have np1 : l1 ≠ p := ne_of_none g1 hp
      have fp : H p = none := s2.free hp
      refine ⟨l2, _, _, rfl, rfl, (by rw [upd_ne np2]; exact g2), ?_, ?_⟩
      · rw [lys]; exact small1000 (by omega)
      · refine ⟨_, _, ys ++ [.ref p], rfl, same_upd (same_upd s2 fp _) f2 _, ?_, upd_same, ?_⟩
        · rw [upd_ne n12, upd_ne np1, g1, eT]; show _ = some (HO.lst ((laidT (c.take i) ++ []).map V.int)); rw [List.append_nil]
        · rw [eP, List.map_append]
          refine paired_app (keepP (.inr ⟨_, by rw [upd_ne np2]; exact g2⟩) (keepP (.inl hp) gp)) (.cons (.tup (xs := [.str z, .int t]) (SqT.of ?_) (.cons .str (.cons .int .nil))) .nil)
          rw [upd_ne np2.symm, upd_same]
    | book ps =>
      obtain ⟨b, bl, zs, rfl, hb, _, hbl, hz⟩ := item_book hy2
      refine ⟨_, rfl, b, _, _, .str "book", rfl, rfl, hb, rfl, ?_⟩
      refine ⟨_, rfl, rfl, _, rfl, ?_⟩
      refine dF ne3 ?_
      refine ⟨_, rfl, rfl, _, rfl, ?_⟩
      refine dF ne5 ?_
      refine ⟨_, rfl, rfl, _, rfl, ?_⟩
      refine dF ne6 ?_
      have lz : zs.length = ps.length := by rw [hz.length, List.length_map]
      refine ⟨_, rfl, .inl ⟨rfl, _, SqL.of g2⟩, _, rfl, b, _, _, .ref bl, rfl, rfl, hb, rfl, l2, bl, _, _, rfl, rfl, g2, hbl, ?_, ?_⟩
      · have e1 : (laidP (c.take (i + 1))).length = (laidP (c.take i)).length + ps.length := by rw [eP, List.length_append]; rfl
        rw [lys, lz]; exact le1000 (by omega)
      · refine ⟨_, _, ys ++ zs, rfl, same_upd s2 f2 _, ?_, upd_same, ?_⟩
        · rw [upd_ne n12, g1, eT]; show _ = some (HO.lst ((laidT (c.take i) ++ []).map V.int)); rw [List.append_nil]
        · rw [eP, List.map_append]
          exact paired_app (keepP (.inr ⟨_, g2⟩) gp) (keepP (.inr ⟨_, g2⟩) hz)
  · rintro σ H2 ⟨v3, v4, ys, rfl, s2, g1, g2, gp⟩
    refine ⟨_, rfl, _, rfl, (by show 2 ≤ sizeLine; decide), fun p hp => ?_⟩
    have hl : xs.length = c.length := by rw [hc.length, List.length_map]
    rw [hl, List.take_length] at g1 gp
    refine q p _ (s2.trans (same_new hp _)) ⟨l1, l2, ys, h1, f2, n12, s2.free hp, upd_same, ?_, ?_, Paired.imp' (fun _ _ z => z.same (same_new hp _)) gp⟩
    · rw [upd_ne (ne_of_none g1 hp)]; exact g1
    · rw [upd_ne (ne_of_none g2 hp)]; exact g2
end

/-! ### tuples stay where a list is written -/
theorem sqT_keep {K : PySem.W.Frag} {H3 : Hp} {o : HO} {l b : Addr} {zs : List V} (hl : H3 l = none ∨ (∃ zs, H3 l = some (.lst zs))) (hz : SqT K H3 b zs) : SqT K (upd H3 l o) b zs := by
  rcases hz with (z | ⟨u, z⟩) | z
  · refine .inl (.inl ?_)
    have : b ≠ l := fun e => by
      subst e
      rcases hl with e | ⟨_, e⟩
      · rw [e] at z; cases z
      · rw [e] at z; cases z
    rw [upd_ne this]; exact z
  · refine .inl (.inr ⟨u, ?_⟩)
    have : b ≠ l := fun e => by
      subst e
      rcases hl with e | ⟨_, e⟩
      · rw [e] at z; cases z
      · rw [e] at z; cases z
    rw [upd_ne this]; exact z
  · exact .inr z
/-- a call of ones and nameds alone -/
def plain (ts : List Int) (ps : List (Str × Int)) : List Item := ts.map .one ++ ps.map fun p => .named p.1 p.2
theorem item_get {c : List Item} {i : Nat} {d : Dt} (h : (c.map itemD)[i]? = some d) : ∃ it, c[i]? = some it ∧ itemD it = d := by
  rw [List.getElem?_map] at h
  cases e : c[i]? with
  | none => rw [e] at h; cases h
  | some it => rw [e] at h; exact ⟨it, rfl, Option.some.inj h⟩
theorem pair_get {ps : List (Str × Int)} {i : Nat} {d : Dt} (h : (ps.map pairD)[i]? = some d) : ∃ p, ps[i]? = some p ∧ pairD p = d := by
  rw [List.getElem?_map] at h
  cases e : ps[i]? with
  | none => rw [e] at h; cases h
  | some it => rw [e] at h; exact ⟨it, rfl, Option.some.inj h⟩
theorem int_get {ts : List Int} {i : Nat} {x : V} (h : (ts.map V.int)[i]? = some x) : ∃ t, ts[i]? = some t ∧ x = .int t := by
  rw [List.getElem?_map] at h
  cases e : ts[i]? with
  | none => rw [e] at h; cases h
  | some it => rw [e] at h; exact ⟨it, rfl, (Option.some.inj h).symm⟩
theorem pair_says {K : PySem.W.Frag} {ok : Addr → Prop} {H : Hp} {n : Nat} {x : V} {p : Str × Int} (h : Says K ok H (n + 1) x (pairD p)) : ∃ b, x = .ref b ∧ SqT K H b [.str p.1, .int p.2] := by
  obtain ⟨a, xs, rfl, hS, r⟩ := says_tup h
  cases r with
  | cons h1 r => cases r with
    | cons h2 r => cases r; rw [says_str h1, says_int h2] at hS; exact ⟨a, rfl, hS⟩

def namedD (p : Str × Int) : Item := .named p.1 p.2
def spOf (K : PySem.W.Frag) : Sp := fun vs H Q _ => ∃ (a b : Addr) (ts : List Int) (ps : List (Str × Int)) (ys : List V), vs = [.ref a, .ref b] ∧ SqL K H a (ts.map V.int) ∧ SqL K H b ys ∧ Paired (Says K T' H 1) ys (ps.map pairD) ∧ ts.length ≤ 400 ∧ ps.length ≤ 400 ∧
  ∀ (r : Addr) (xs : List V) (H' : Hp), Same H H' → H r = none → H' r = some (.lst xs) → Paired (Says K T' H' 1) xs ((plain ts ps).map itemD) → Q (.ref r) H'

theorem ndT : ([Str.ofString "thing"] : List Str).Nodup := by decide +kernel
theorem ndN : ([Str.ofString "name", Str.ofString "thing"] : List Str).Nodup := by decide +kernel

theorem plain_keep {K : PySem.W.Frag} {ok : Addr → Prop} {H3 : Hp} {o : HO} {l : Addr} (hl : H3 l = none ∨ (∃ zs, H3 l = some (.lst zs))) : ∀ {xs : List V} {c : List Item}, (∀ it ∈ c, ∃ ds, itemD it = .tup ds) → Paired (Says K ok H3 1) xs (c.map itemD) → Paired (Says K ok (upd H3 l o) 1) xs (c.map itemD)
  | _, [], _, r => by cases r; exact .nil
  | _, it :: c, hc, r => by
    cases r with
    | cons h r =>
      refine .cons ?_ (plain_keep hl (fun j hj => hc j (List.mem_cons_of_mem _ hj)) r)
      obtain ⟨ds, e⟩ := hc it (by simp)
      rw [e] at h ⊢
      obtain ⟨b, ws, rfl, hS', r'⟩ := says_tup h
      exact .tup (sqT_keep hl hS') (Paired.imp' (fun _ _ z => z) r')
theorem item_tup (it : Item) : ∃ ds, itemD it = .tup ds := by cases it <;> exact ⟨_, rfl⟩
theorem items_same {K : PySem.W.Frag} {ok : Addr → Prop} {n : Nat} {H H' : Hp} {zs : List V} {c : List Item} (s : Same H H') (r : Paired (Says K ok H n) zs (c.map itemD)) : Paired (Says K ok H' n) zs (c.map itemD) := Paired.imp' (fun _ _ z => z.same s) r
theorem take_snoc {α : Type} {l : List α} {i : Nat} {x : α} (h : l[i]? = some x) : l.take (i + 1) = l.take i ++ [x] := by
  rw [List.take_add_one, h]; rfl
section
variable {P : Program} {w : World} {K : PySem.W.Frag} {mg : Str → Option Value} {base : Heap} {f : Addr} {fd : FuncData}
theorem scOf : FnScope ["things", "pairs"] ["things", "pairs"] (defScope sOf) := ⟨rfl, rfl, rfl, by decide +kernel, rfl, by decide +kernel, by decide +kernel⟩
theorem ok_of (F : Fun K "call_of" "call_of" sOf f fd) : FnOk P w K mg base CX0 1 f fd ["things", "pairs"] (spOf K) := by
  refine F.ok scOf (fun vs H Q E h => ?_) (fun cdv A outer s H vs Q E hr h => ?_)
  · obtain ⟨a, b, ts, ps, ys, rfl, _⟩ := h
    rfl
  obtain ⟨a, b, ts, ps, ys, rfl, ha, hb, hp, lt, lp, q⟩ := h
  refine ⟨_, pss_one (ps_ret (pe_op op_cat (pe_lc [] ["thing"] [none] rfl ⟨rfl, rfl, rfl, rfl⟩ (pi_list (pv 0)) (gown_name 0) rfl rfl rfl
      (fun pins fp s H C => ⟨pg_name (i := 0) ndT rfl (Or.inl rfl) (.inr rfl), pif_nil, pe_tup (ac pe_str (ac (pv 0) pa_nil))⟩))
    (pe_lc [] ["name", "thing"] [none, none] rfl ⟨rfl, rfl, rfl, rfl⟩ (pi_list (pv 1)) (gown_tup2 (K := K) (n := 2) 0 1) rfl rfl rfl
      (fun pins fp s H C => ⟨pg_tup rfl (pgs_cons (pg_name (i := 0) ndN rfl (Or.inl rfl) (.inr rfl)) (pgs_cons (pg_name (i := 1) ndN rfl (Or.inl rfl) (.inr rfl)) pgs_nil)), pif_nil, pe_tup (ac pe_str (ac (pv 0) (ac (pv 1) pa_nil)))⟩)))), ?_⟩
  refine ⟨_, rfl, a, rfl, ⟨_, ha⟩, fun D hD => ?_⟩
  refine lc_list (K := K) (xs := ts.map V.int) (fun i zs H' => Same H H' ∧ H' D = some (.lst zs) ∧ Paired (Says K T' H' 1) zs (((ts.take i).map Item.one).map itemD)) ⟨same_new hD _, upd_same, .nil⟩ (fun i zs H' h => h.1.seq ha) ?_ ?_
  · rintro i x zs H' hi hx ⟨sH, hDz, hz⟩
    obtain ⟨t, ht, rfl⟩ := int_get hx
    rw [List.length_map] at hi ⊢
    have lz : zs.length = i := by rw [hz.length]; simp; omega
    refine ⟨fun _ => ⟨_, rfl, (by show 2 ≤ sizeLine; decide), fun p hpn => ?_⟩, fun z => absurd z (by decide)⟩
    have nD := ne_of_none hDz hpn
    refine lcN.mk hi (le1000 (by omega)) (by rw [upd_ne nD]; exact hDz) (by omega) ⟨same_upd (same_upd sH (sH.free hpn) _) hD _, upd_same, ?_⟩
    rw [take_snoc ht, List.map_append, List.map_append]
    refine paired_app (plain_keep (.inr ⟨_, by rw [upd_ne nD]; exact hDz⟩) (fun it _ => item_tup it) (plain_keep (.inl hpn) (fun it _ => item_tup it) hz)) (.cons (.tup (xs := [.str "one", .int t]) (SqT.of ?_) (.cons .str (.cons .int .nil))) .nil)
    rw [upd_ne nD.symm, upd_same]
  rintro zs H1 ⟨s1, hDz, hz⟩
  rw [List.length_map, List.take_length] at hz
  have lzs : zs.length = ts.length := by rw [hz.length]; simp
  refine ⟨_, rfl, b, rfl, ⟨_, s1.seq hb⟩, fun D2 hD2 => ?_⟩
  refine lc_list (K := K) (xs := ys) (fun i ws H' => Same H1 H' ∧ H' D2 = some (.lst ws) ∧ Paired (Says K T' H' 1) ws (((ps.take i).map namedD).map itemD)) ⟨same_new hD2 _, upd_same, .nil⟩ (fun i zs H' h => (s1.trans h.1).seq hb) ?_ ?_
  · rintro i x ws H' hi hx ⟨sH, hDw, hw⟩
    obtain ⟨d, hd, hx1⟩ := Paired.get hp hx
    obtain ⟨pr, hpr, rfl⟩ := pair_get hd
    obtain ⟨bb, rfl, hbb⟩ := pair_says (n := 0) hx1
    have hbb2 := (s1.trans sH).sqT hbb
    have lws : ws.length = i := by
      rw [hw.length]
      have : i < ps.length := by rw [hp.length, List.length_map] at hi; exact hi
      simp; omega
    refine ⟨bb, _, rfl, hbb2, rfl, _, _, rfl, _, _, rfl, rfl, ⟨fun _ => ⟨_, rfl, _, rfl, (by show 3 ≤ sizeLine; decide), fun p hpn => ?_⟩, fun z => absurd z (by decide)⟩⟩
    have nD := ne_of_none hDw hpn
    have ly : ys.length = ps.length := by rw [hp.length, List.length_map]
    refine lcN.mk hi (le1000 (by omega)) (by rw [upd_ne nD]; exact hDw) (by omega) ⟨same_upd (same_upd sH (sH.free hpn) _) hD2 _, upd_same, ?_⟩
    rw [take_snoc hpr, List.map_append, List.map_append]
    refine paired_app (plain_keep (.inr ⟨_, by rw [upd_ne nD]; exact hDw⟩) (fun it _ => item_tup it) (plain_keep (.inl hpn) (fun it _ => item_tup it) hw)) (.cons (.tup (xs := [.str "named", .str pr.1, .int pr.2]) (SqT.of ?_) (.cons .str (.cons .str (.cons .int .nil)))) .nil)
    rw [upd_ne nD.symm, upd_same]
  rintro ws H2 ⟨s2, hDw, hw⟩
  have ly : ys.length = ps.length := by rw [hp.length, List.length_map]
  rw [ly, List.take_length] at hw
  have lws : ws.length = ps.length := by rw [hw.length]; simp
  refine ⟨D, D2, _, _, rfl, rfl, s2 _ _ hDz, hDw, le1000 (by omega), fun r hrn => ?_⟩
  refine q r _ _ (s1.trans (s2.trans (same_new hrn _))) (s1.free (s2.free hrn)) upd_same ?_
  unfold plain
  rw [List.map_append]
  exact paired_app (items_same (s2.trans (same_new hrn _)) hz) (items_same (same_new hrn _) hw)
end

theorem iteB {A B : Prop} {b : Bool} (h : b = true) (a : A) : if b = true then A else B := by rw [h]; exact iteT a
theorem iteC {A B : Prop} {b : Bool} (h : b = false) (a : B) : if b = true then A else B := by rw [h]; exact iteF a

section
variable {P : Program} {w : World} {K : PySem.W.Frag} {mg : Str → Option Value} {base : Heap} {f : Addr} {fd : FuncData}
theorem laidT_plain (ts : List Int) (ps : List (Str × Int)) : laidT (plain ts ps) = ts := by
  unfold laidT plain
  rw [List.map_append, List.flatten_append, List.map_map, List.map_map]
  have h1 : (ts.map (itT ∘ Item.one)).flatten = ts := by
    induction ts with
    | nil => rfl
    | cons t ts ih => rw [List.map_cons, List.flatten_cons, ih]; rfl
  have h2 : (ps.map (itT ∘ fun p => Item.named p.1 p.2)).flatten = [] := by
    induction ps with
    | nil => rfl
    | cons t ts ih => rw [List.map_cons, List.flatten_cons, ih]; rfl
  rw [h1, h2, List.append_nil]
theorem laidP_plain (ts : List Int) (ps : List (Str × Int)) : laidP (plain ts ps) = ps := by
  unfold laidP plain
  rw [List.map_append, List.flatten_append, List.map_map, List.map_map]
  have h1 : (ts.map (itP ∘ Item.one)).flatten = [] := by
    induction ts with
    | nil => rfl
    | cons t ts ih => rw [List.map_cons, List.flatten_cons, ih]; rfl
  have h2 : (ps.map (itP ∘ fun p => Item.named p.1 p.2)).flatten = ps := by
    induction ps with
    | nil => rfl
    | cons t ts ih => rw [List.map_cons, List.flatten_cons, ih]; rfl
  rw [h1, h2, List.nil_append]
section
variable {H H' : Hp} {p l1 l2 l : Addr} {ys : List V} {ts : List Int} {ps : List (Str × Int)} {o : HO}
end
end

end K65

set_option Elab.async false
set_option linter.all false
set_option maxRecDepth 100000
set_option maxHeartbeats 4000000
namespace K65
open PySem L2 PyProof.Rows
/-! ### fitting: shapes, first numbers -/
def namesOf (c : List Item) : List Str := (laidP c).map (·.1)
def spShape (K : PySem.W.Frag) : Sp := fun vs H Q _ => ∃ (a : Addr) (c : List Item) (xs : List V), vs = [.ref a] ∧ SqL K H a xs ∧ Paired (Says K T' H 3) xs (c.map itemD) ∧ (laidT c).length ≤ 900 ∧ (laidP c).length ≤ 900 ∧
  ∀ (p l : Addr) (H' : Hp), Same H H' → H l = none → H' p = some (.tup [.int ((laidT c).length : Nat), .ref l]) → H' l = some (.lst ((namesOf c).map V.str)) → Q (.ref p) H'
def fstF : Nat → List (Key × V) → List Str → List (Key × V)
  | _, acc, [] => acc
  | i, acc, z :: zs => fstF (i + 1) (if (valV acc (.inr z)).isSome = true then acc else putK acc (.inr z) (.int i)) zs
theorem fstF_snoc {z : Str} : ∀ (zs : List Str) (j i : Nat) (acc : List (Key × V)), zs[i]? = some z → fstF j acc (zs.take (i + 1)) = (if (valV (fstF j acc (zs.take i)) (.inr z)).isSome = true then fstF j acc (zs.take i) else putK (fstF j acc (zs.take i)) (.inr z) (.int (j + i : Nat)))
  | [], _, _, _, h => by simp at h
  | y :: ys, j, 0, acc, h => by
    have e : y = z := by simpa using h
    subst e
    rfl
  | y :: ys, j, i + 1, acc, h => by
    have := fstF_snoc ys (j + 1) i (if (valV acc (.inr y)).isSome = true then acc else putK acc (.inr y) (.int j)) (by simpa using h)
    show fstF (j + 1) _ (ys.take (i + 1)) = _
    rw [this, show j + 1 + i = j + (i + 1) by omega]
    rfl
theorem fstF_len : ∀ (zs : List Str) (i : Nat) (acc : List (Key × V)), (fstF i acc zs).length ≤ acc.length + zs.length
  | [], _, _ => Nat.le_refl _
  | z :: zs, i, acc => by
    have h := fstF_len zs (i + 1) (if (valV acc (.inr z)).isSome = true then acc else putK acc (.inr z) (.int i))
    have h2 : (if (valV acc (.inr z)).isSome = true then acc else putK acc (.inr z) (.int i)).length ≤ acc.length + 1 := by
      split
      · omega
      · exact length_putK acc _ _
    show (fstF (i + 1) _ zs).length ≤ acc.length + (zs.length + 1)
    omega
def spFirsts : Sp := fun vs H Q _ => ∃ (a : Addr) (zs : List Str), vs = [.ref a] ∧ H a = some (.lst (zs.map V.str)) ∧ zs.length ≤ 900 ∧ ∀ (l : Addr) (o : Obj) (H' : Hp), Same H H' → H l = none → H' l = some (.frz o (.dK (fstF 0 [] zs))) → Q (.ref l) H'
section
variable {P : Program} {w : World} {K : PySem.W.Frag} {mg : Str → Option Value} {base : Heap} {f CF : Addr} {fd : FuncData} {c : C5} {m : MA}
theorem ndNT : ([Str.ofString "name", Str.ofString "thing"] : List Str).Nodup := by decide +kernel
theorem scShape : FnScope ["call", "things", "pairs"] ["call"] (defScope sShape) := ⟨rfl, rfl, rfl, by decide +kernel, rfl, by decide +kernel, by decide +kernel⟩
theorem ok_shape {g : Addr} {gd : FuncData} (F : Fun K "shape" "shape" sShape f fd) (hlen : mg "len" = none) (cL : Callee P w K mg base 1 "laid" g gd ["call"] (spLaid K)) : FnOk P w K mg base CX0 2 f fd ["call"] (spShape K) := by
  refine F.ok scShape (fun vs H Q E h => ?_) (fun cdv A outer s H vs Q E hr h => ?_)
  · obtain ⟨a, c, xs, rfl, _⟩ := h
    rfl
  obtain ⟨a, c, xs, rfl, hS, hc, lT, lP, q⟩ := h
  refine ⟨_, pss_cons (ps_asg (cF cL hr (ac (pv 0) pa_nil)) (pg_tup rfl (pgs_cons (pg_name (i := 1) scShape.nd rfl (Or.inl rfl)) (pgs_cons (pg_name (i := 2) scShape.nd rfl (Or.inl rfl)) pgs_nil))))
    (pss_one (ps_ret (pe_tup (ac (cB call_len_seq hlen PySem.boot_len (ac (pv 1) pa_nil)) (ac (pe_lc [] ["name", "thing"] [none, none] rfl ⟨rfl, rfl, rfl, rfl⟩ (pi_list (pv 2)) (gown_tup2 (K := K) (n := 2) 0 1) rfl rfl rfl
      (fun pins fp s H C => ⟨pg_tup rfl (pgs_cons (pg_name (i := 0) ndNT rfl (Or.inl rfl) (.inr rfl)) (pgs_cons (pg_name (i := 1) ndNT rfl (Or.inl rfl) (.inr rfl)) pgs_nil)), pif_nil, pv 0⟩)) pa_nil))))), ?_⟩
  refine ⟨_, rfl, a, c, xs, rfl, hS, hc, lT, lP, fun p H1 s1 two => ?_⟩
  obtain ⟨l1, l2, ys, n1, n2, n12, np, ep, e1, e2, gp⟩ := two
  refine ⟨p, _, rfl, SqT.of ep, rfl, _, _, rfl, _, _, rfl, rfl, ?_⟩
  refine ⟨_, rfl, l1, _, rfl, .inl (SqL.of e1), _, rfl, l2, rfl, ⟨_, SqL.of e2⟩, fun D hD => ?_⟩
  have lys : ys.length = (laidP c).length := by rw [gp.length, List.length_map]
  refine lc_list (K := K) (xs := ys) (fun i zs H' => Same H1 H' ∧ H' D = some (.lst zs) ∧ zs = ((namesOf c).take i).map V.str) ⟨same_new hD _, upd_same, rfl⟩ (fun i zs H' h => SqL.of (h.1 _ _ e2)) ?_ ?_
  · rintro i x zs H' hlt hx ⟨sH, hDy, ez⟩
    obtain ⟨d, hd, hy⟩ := Paired.get gp hx
    obtain ⟨pr', hpr, rfl⟩ := pair_get hd
    obtain ⟨b, rfl, hb⟩ := pair_says (hy.same sH)
    refine ⟨b, _, rfl, hb, rfl, _, _, rfl, _, _, rfl, rfl, fun _ => ⟨_, rfl, ?_⟩, fun e => Bool.noConfusion e⟩
    have hi : i < (namesOf c).length := by unfold namesOf; rw [List.length_map]; omega
    have en : (namesOf c)[i] = pr'.1 := by
      have : (namesOf c)[i]? = some pr'.1 := by unfold namesOf; rw [List.getElem?_map, hpr]; rfl
      rw [List.getElem?_eq_getElem hi] at this
      exact Option.some.inj this
    refine lcN.mk hlt (le1000 (by omega)) hDy (by rw [ez, List.length_map, List.length_take]; omega) ⟨fun b' u e => ?_, upd_same, ?_⟩
    · rw [upd_ne (ne_of_none e hD)]
      exact sH b' u e
    · rw [ez, List.take_succ_eq_append_getElem hi, en, List.map_append]
      rfl
  rintro zs H2 ⟨s2, hDy, ez⟩
  have hz : zs = (namesOf c).map V.str := by
    rw [ez, List.take_of_length_le (by unfold namesOf; rw [List.length_map]; omega)]
  subst hz
  refine ⟨(by show 2 ≤ sizeLine; decide), fun t ht => ?_⟩
  have s3 := same_new ht (.tup [.int ((laidT c).map V.int).length, .ref D])
  refine q t D _ (s1.trans (s2.trans s3)) (s1.free hD) (by rw [upd_same, List.length_map]) (s3 _ _ hDy)
theorem scFirsts : FnScope ["names", "firsts", "number", "name"] ["names"] (defScope sFirsts) := ⟨rfl, rfl, rfl, by decide +kernel, rfl, by decide +kernel, by decide +kernel⟩
theorem ok_firsts (F : Fun K "first_numbers" "first_numbers" sFirsts f fd) (hen : mg "enumerate" = none) : FnOk P w K mg base CX0 1 f fd ["names"] spFirsts := by
  refine F.ok scFirsts (fun vs H Q E h => ?_) (fun cdv A outer s H vs Q E hr h => ?_)
  · obtain ⟨a, zs, rfl, _⟩ := h
    rfl
  obtain ⟨a, zs, rfl, ha, lz, q⟩ := h
  have hu1 := hu_of hr
  refine ⟨_, pss_cons (ps_set (i := 1) scFirsts.nd rfl (Or.inl rfl) pe_dnewK)
    (pss_cons (ps_for PassesOwn.never rfl (pi_enum rfl hen (ac (pv 0) pa_nil)) (pg_tup rfl (pgs_cons (pg_name (i := 2) scFirsts.nd rfl (Or.inl rfl)) (pgs_cons (pg_name (i := 3) scFirsts.nd rfl (Or.inl rfl)) pgs_nil)))
      (pss_one (ps_if (pt_cmp (pc_dnotin hu1 (pv 3) (pv 1))) (pss_one (ps_dput hu1 (pv 1) (pv 3) (pv 2) rfl)) pss_nil)))
    (pss_one (ps_ret (pe_frz (pv 1))))), ?_⟩
  intro sd hsd
  have s1 := same_new hsd (.dK [])
  have e1 : upd H sd (.dK []) sd = some (.dK []) := upd_same
  show tSeq _ _ _ _ (upd H sd (.dK []))
  generalize upd H sd (.dK []) = H1 at s1 e1 ⊢
  refine ⟨_, rfl, a, rfl, ⟨_, SqL.of (s1 _ _ ha)⟩, for_enum (K := K) (a := a) (xs := zs.map V.str) (fun i σ H' => ∃ (v2 v3 : Option V), σ = [some (.ref a), some (.ref sd), v2, v3] ∧ Same H H' ∧ H' sd = some (.dK (fstF 0 [] (zs.take i))))
    ⟨_, _, rfl, s1, e1⟩ (fun i σ H' _ ⟨_, _, _, sH, _⟩ => SqL.of (sH _ _ ha)) ?_ ?_⟩
  · rintro i x p σ H' hx ⟨v2, v3, rfl, sH, hd⟩ hpn
    obtain ⟨z, hz, rfl⟩ := strs_at hx
    have sp := same_new hpn (.tup [.int (i : Nat), .str z])
    have hd2 := sp _ _ hd
    have tk := fstF_snoc zs 0 i [] hz
    rw [Nat.zero_add] at tk
    have hi : i < zs.length := (List.getElem?_eq_some_iff.mp hz).1
    refine ⟨p, _, rfl, SqT.of upd_same, rfl, _, _, rfl, _, _, rfl, rfl, ?_⟩
    refine ⟨_, rfl, _, rfl, sd, _, rfl, .inl ⟨_, .inr z, .inl hd2, rfl, rfl⟩, _, rfl, ?_⟩
    refine ite2 (fun ne => ?_) (fun ne => ?_)
    · have ns : ¬ (valV (fstF 0 [] (zs.take i)) (.inr z)).isSome = true := by
        intro e
        rw [e] at ne
        cases ne
      rw [if_neg ns] at tk
      have ln := fstF_len (zs.take i) 0 []
      refine ⟨_, rfl, _, rfl, _, rfl, sd, _, rfl, .inl ⟨_, .inr z, hd2, rfl, small1000 (by rw [List.length_take] at ln; simp at ln; omega), rfl⟩, ?_⟩
      refine ⟨_, _, rfl, fun b' u e => ?_, by rw [upd_same, tk]⟩
      rw [upd_ne (ne_of_none e hsd)]
      exact sp _ _ (sH _ _ e)
    · have ns : (valV (fstF 0 [] (zs.take i)) (.inr z)).isSome = true := by
        cases e : (valV (fstF 0 [] (zs.take i)) (.inr z)).isSome with
        | true => rfl
        | false => exact absurd (by rw [e]; rfl) ne
      rw [if_pos ns] at tk
      exact ⟨_, _, rfl, sH.trans sp, by rw [tk]; exact hd2⟩
  · rintro σ H' ⟨v2, v3, rfl, sH, hd⟩
    rw [List.length_map, List.take_length] at hd
    refine ⟨_, rfl, sd, _, rfl, hd, fun o => ?_⟩
    refine q sd o _ (fun b' u e => ?_) hsd upd_same
    rw [upd_ne (ne_of_none e hsd)]
    exact sH _ _ e
end
end K65

set_option Elab.async false
set_option linter.all false
set_option maxRecDepth 100000
set_option maxHeartbeats 4000000
namespace K65
open PySem L2 PyProof.Rows
/-! ### misfits as data -/
def MA1 (H : Hp) (u : Addr) (m : Str × Nat) : Prop := H u = some (.tup [.str m.1, .int (m.2 : Nat)])
def MsAt (H : Hp) (us : List Addr) (ms : List (Str × Nat)) : Prop := Paired (MA1 H) us ms
theorem MsAt.same {H H' : Hp} {us : List Addr} {ms : List (Str × Nat)} (h : MsAt H us ms) (s : Same H H') : MsAt H' us ms := Paired.imp' (fun _ _ z => s _ _ z) h
theorem MsAt.upd {H : Hp} {us : List Addr} {ms : List (Str × Nat)} {D : Addr} {ys : List V} {o : HO} (h : MsAt H us ms) (hD : H D = some (.lst ys)) : MsAt (upd H D o) us ms := Paired.imp' (fun u m z => by
  show L2.upd H D o u = _
  rw [upd_ne (fun e => by rw [e] at z; rw [MA1, hD] at z; cases z)]
  exact z) h
theorem MsAt.snoc {H : Hp} {us : List Addr} {ms : List (Str × Nat)} {u : Addr} {m : Str × Nat} (h : MsAt H us ms) (hu : MA1 H u m) : MsAt H (us ++ [u]) (ms ++ [m]) := Paired.snoc h hu
/-- a new list of misfits -/
def NewMs (H H' : Hp) (l : Addr) (ms : List (Str × Nat)) : Prop := ∃ us : List Addr, H l = none ∧ H' l = some (.lst (us.map V.ref)) ∧ MsAt H' us ms
def overF (rows : List Rw) (many : Nat) : List (Str × Nat) := if (firstK 2 0 rows).isSome = true then [] else (List.range (many - plN rows)).map fun i => ((("over" : Str), plN rows + i) : Str × Nat)
def spOvers (c : C5) (CF : Addr) : Sp := fun vs H Q _ => ∃ (f : Addr) (many : Nat) (rows : List Rw) (bars : List Str), vs = [.ref f, .int (many : Nat)] ∧ many ≤ 900 ∧ rows.length ≤ 500 ∧ FormAt c CF H f rows bars ∧ ∀ (l : Addr) (H' : Hp), Same H H' → NewMs H H' l (overF rows many) → Q (.ref l) H'
def oneE (r : Rw) (i many : Nat) (fk : List (Key × V)) : List V :=
  if byPl r.k = true ∧ i < many then [.str "place", .int (i : Nat)] else if byNm r.k = true ∧ (valV fk (.inr r.z)).isSome = true then [.str "name", (valV fk (.inr r.z)).getD .non] else [.str "free"]
def FlatD1 (fk : List (Key × V)) : Prop := ∀ k v, valV fk k = some v → flatV v = true
def spOneE (c : C5) : Sp := fun vs H Q _ => ∃ (p d : Addr) (i many : Nat) (r : Rw) (fk : List (Key × V)), vs = [.ref p, .int (i : Nat), .int (many : Nat), .ref d] ∧ PAt c H p r ∧ r.ok ∧ Rd H d (.dK fk) ∧ ∀ (u : Addr) (H' : Hp), Same H H' → H' u = some (.tup (oneE r i many fk)) → Q (.ref u) H'
def isLack (r : Rw) (i many : Nat) (fk : List (Key × V)) : Bool := !fr r.k r.b && L2.eqT (oneE r i many fk) [.str "free"]
def lackF (many : Nat) (fk : List (Key × V)) : Nat → List Rw → List (Str × Nat)
  | _, [] => []
  | i, r :: rs => (if isLack r i many fk = true then [(("lacking" : Str), i)] else []) ++ lackF many fk (i + 1) rs
theorem lackF_snoc {many : Nat} {fk : List (Key × V)} {r : Rw} : ∀ (rows : List Rw) (j i : Nat), rows[i]? = some r → lackF many fk j (rows.take (i + 1)) = lackF many fk j (rows.take i) ++ (if isLack r (j + i) many fk = true then [(("lacking" : Str), j + i)] else [])
  | [], _, _, h => by simp at h
  | y :: ys, j, 0, h => by
    have e : y = r := by simpa using h
    subst e
    show (_ ++ []) = [] ++ _
    rw [List.append_nil, List.nil_append]
    rfl
  | y :: ys, j, i + 1, h => by
    have := lackF_snoc (many := many) (fk := fk) ys (j + 1) i (by simpa using h)
    show _ ++ lackF many fk (j + 1) (ys.take (i + 1)) = _
    rw [this, show j + 1 + i = j + (i + 1) by omega, ← List.append_assoc]
    rfl
theorem lackF_len (many : Nat) (fk : List (Key × V)) : ∀ (rows : List Rw) (i : Nat), (lackF many fk i rows).length ≤ rows.length
  | [], _ => Nat.le_refl _
  | r :: rs, i => by
    have := lackF_len many fk rs (i + 1)
    show (_ ++ lackF many fk (i + 1) rs).length ≤ rs.length + 1
    rw [List.length_append]
    split
    · rw [List.length_singleton]; omega
    · rw [List.length_nil]; omega
theorem oneE_flat {r : Rw} {i many : Nat} {fk : List (Key × V)} (h : FlatD1 fk) : (oneE r i many fk).all flatV = true := by
  unfold oneE
  split
  · rfl
  · split
    next h2 =>
      obtain ⟨v, hv⟩ := Option.isSome_iff_exists.mp h2.2
      rw [hv]
      show (true && (flatV v && true)) = true
      rw [h _ _ hv]
      rfl
    · rfl
def spLacks (c : C5) (CF : Addr) : Sp := fun vs H Q _ => ∃ (f d : Addr) (many : Nat) (rows : List Rw) (bars : List Str) (fk : List (Key × V)), vs = [.ref f, .int (many : Nat), .ref d] ∧ rows.length ≤ 500 ∧ (∀ r ∈ rows, r.ok) ∧ FormAt c CF H f rows bars ∧ Rd H d (.dK fk) ∧ FlatD1 fk ∧ ∀ (l : Addr) (H' : Hp), Same H H' → NewMs H H' l (lackF many fk 0 rows) → Q (.ref l) H'
theorem Same.rd {H H' : Hp} {a : Addr} {u : HO} (s : Same H H') (h : Rd H a u) : Rd H' a u := h.elim (fun e => .inl (s _ _ e)) fun ⟨o, e⟩ => .inr ⟨o, s _ _ e⟩
section
variable {P : Program} {w : World} {K : PySem.W.Frag} {mg : Str → Option Value} {base : Heap} {f CF : Addr} {fd : FuncData} {c : C5} {m : MA}
theorem ndNum : ([Str.ofString "number"] : List Str).Nodup := by decide +kernel
theorem scOvers : FnScope ["form", "many"] ["form", "many"] (defScope sOvers) := ⟨rfl, rfl, rfl, by decide +kernel, rfl, by decide +kernel, by decide +kernel⟩
theorem ok_overs {gT gP : Addr} {eT eP : FuncData} (F : Fun K "overs" "overs" sOvers f fd) (hran : mg "range" = none) (FK : FC K CF) (mT : Meth K CF "tail" gT) (GT : FnOk P w K mg base CX0 1 gT eT ["self"] (spWord c CF 2)) (bT : Binds K eT ["self"] []) (mP : Meth K CF "places" gP) (GP : FnOk P w K mg base CX0 1 gP eP ["self"] (spPlaces c CF)) (bP : Binds K eP ["self"] []) :
    FnOk P w K mg base CX0 2 f fd ["form", "many"] (spOvers c CF) := by
  refine F.ok scOvers (fun vs H Q E h => ?_) (fun cdv A outer s H vs Q E hr h => ?_)
  · obtain ⟨f, many, rows, bars, rfl, _⟩ := h
    rfl
  obtain ⟨f, many, rows, bars, rfl, lm, l5, hF, q⟩ := h
  refine ⟨_, pss_cons (ps_if (pt_cmp (pc_notN (pe_meth0 (pv 0) FK.cl mT GT hr bT .nil pass0))) (pss_one (ps_ret (pe_lst pa_nil))) pss_nil)
    (pss_one (ps_ret (pe_lc [] ["number"] [none] rfl ⟨rfl, rfl, rfl, rfl⟩ (pi_range2 rfl hran (ac (pe_meth0 (pv 0) FK.cl mP GP hr bP .nil pass0) (ac (pv 1) pa_nil))) (gown_name 0) rfl rfl rfl
      (fun pins fp s H C => ⟨pg_name (i := 0) ndNum rfl (Or.inl rfl) (.inr rfl), pif_nil, pe_tup (ac pe_str (ac (pv 0) pa_nil))⟩)))), ?_⟩
  obtain ⟨dx, fs, lr, lb, ld, ps, h1, h2, h3, h4, h5, h6⟩ := id hF
  have nmT : fs.lookup ("tail" : Str) = none := h2.no _ (by decide +kernel)
  have nmP : fs.lookup ("places" : Str) = none := h2.no _ (by decide +kernel)
  refine ⟨_, rfl, f, dx, fs, rfl, h1, nmT, f, rows, bars, rfl, hF, ?_⟩
  refine ⟨_, rfl, ?_⟩
  cases e : firstK 2 0 rows with
  | some i =>
    have ef : overF rows many = [] := by unfold overF; rw [e]; rfl
    have ne : (!decide (numV (some i) = V.non)) = true := rfl
    rw [if_pos ne]
    refine ⟨(by show 0 ≤ sizeLine; decide), fun l hl => ?_⟩
    exact q l _ (same_new hl _) ⟨[], hl, upd_same, by rw [ef]; exact .nil⟩
  | none =>
    have ef : overF rows many = (List.range (many - plN rows)).map fun i => ((("over" : Str), plN rows + i) : Str × Nat) := by unfold overF; rw [e]; rfl
    refine iteF ?_
    have lp : plN rows ≤ 500 := Nat.le_trans (List.length_filter_le _ _) l5
    refine ⟨_, rfl, f, dx, fs, rfl, h1, nmP, f, rows, bars, rfl, hF, _, rfl, (plN rows : Nat), (many : Nat), rfl, ⟨by omega, by omega, by omega, by omega⟩, fun D hD => ?_⟩
    have en : ((many : Int) - (plN rows : Int)).toNat = many - plN rows := by omega
    refine lc_range (n := ((many : Int) - (plN rows : Int)).toNat) (fun i ys H' => ∃ us, ys = us.map V.ref ∧ Same H H' ∧ H' D = some (.lst ys) ∧ MsAt H' us ((List.range i).map fun i => ((("over" : Str), plN rows + i) : Str × Nat))) ⟨[], rfl, same_new hD _, upd_same, .nil⟩ ?_ ?_
    · rintro i ys H' hi ⟨us, rfl, sH, hDy, hm⟩
      have lu : us.length = i := by rw [hm.length, List.length_map, List.length_range]
      refine ⟨fun _ => ?_, fun e => Bool.noConfusion e⟩
      refine ⟨_, rfl, (by show 2 ≤ sizeLine; decide), fun t ht => ?_⟩
      have s2 := same_new ht (.tup [.str "over", .int ((plN rows : Int) + (i : Int))])
      have hDy2 := s2 _ _ hDy
      refine lcN.mk hi (le1000 (by omega)) hDy2 (by rw [List.length_map, lu]; exact Nat.le_refl _) ⟨us ++ [t], by rw [List.map_append]; rfl, fun b' u' e' => ?_, upd_same, ?_⟩
      · rw [upd_ne (ne_of_none e' hD)]
        exact s2 _ _ (sH _ _ e')
      · rw [List.range_succ, List.map_append]
        have hu : MA1 (upd H' t (.tup [.str "over", .int ((plN rows : Int) + (i : Int))])) t ("over", plN rows + i) := by
          show upd H' t _ t = _
          rw [upd_same]
          rfl
        exact ((hm.same s2).snoc hu).upd hDy2
    · rintro ys H' ⟨us, rfl, sH, hDy, hm⟩
      rw [en, ← ef] at hm
      exact q D H' sH ⟨us, hD, hDy, hm⟩
theorem scOneE : FnScope ["parameter", "number", "many", "firsts"] ["parameter", "number", "many", "firsts"] (defScope sOneE) := ⟨rfl, rfl, rfl, by decide +kernel, rfl, by decide +kernel, by decide +kernel⟩
theorem ok_oneE {gp gb : FuncData} (F : Fun K "one_entry" "one_entry" sOneE f fd) (PP : Pcs K m c) (GP : FnOk P w K mg base CX0 1 m.fP gp ["self"] (spIn K m bpL)) (bP : Binds K gp ["self"] []) (GB : FnOk P w K mg base CX0 1 m.fB gb ["self"] (spIn K m bnL)) (bB : Binds K gb ["self"] []) :
    FnOk P w K mg base CX0 2 f fd ["parameter", "number", "many", "firsts"] (spOneE c) := by
  refine F.ok scOneE (fun vs H Q E h => ?_) (fun cdv A outer s H vs Q E hr h => ?_)
  · obtain ⟨p, d, i, many, r, fk, rfl, _⟩ := h
    rfl
  obtain ⟨p, d, i, many, r, fk, rfl, ⟨dx, hp⟩, rok, hd, q⟩ := h
  have hu1 := hu_of hr
  have C := PP r.k rok.1
  refine ⟨_, pss_cons (ps_if (PW.pt (pw_and (pt_val (pe_meth0 (pv 0) C.cl C.mP GP hr bP .nil pass0)) (pw_and1 (pt_cmpR op_lt (pv 1) (pv 2) (nomark _))))) (pss_one (ps_ret (pe_tup (ac pe_str (ac (pv 1) pa_nil))))) pss_nil)
    (pss_cons (ps_if (PW.pt (pw_and (pt_val (pe_meth0 (pv 0) C.cl C.mB GB hr bB .nil pass0)) (pw_and1 (pt_cmp (pc_din hu1 (pe_fld (pv 0) rfl) (pv 3)))))) (pss_one (ps_ret (pe_tup (ac pe_str (ac (pe_dget hu1 (pv 3) (pe_fld (pv 0) rfl) (fun _ _ => rfl)) pa_nil))))) pss_nil)
    (pss_one (ps_ret (pe_tup (ac pe_str pa_nil))))), ?_⟩
  have nP : (pr r).lookup ("by_place" : Str) = none := pf_no (by decide +kernel) (by decide +kernel) (by decide +kernel)
  have nB : (pr r).lookup ("by_name" : Str) = none := pf_no (by decide +kernel) (by decide +kernel) (by decide +kernel)
  try dsimp only
  refine seq_via (fun σ' H' => σ' = [some (.ref p), some (.int (i : Nat)), some (.int (many : Nat)), some (.ref d)] ∧ H' = H ∧ ¬ (byPl r.k = true ∧ i < many)) ?_ (fun key => ?_)
  rotate_left
  · refine ⟨_, rfl, p, dx, _, rfl, hp, nP, p, dx, _, _, _, _, rfl, C, hp, _, rfl, ?_⟩
    rw [in_pl r.k rok.1]
    cases eb : byPl r.k with
    | false =>
      refine iteF ?_
      refine iteF ?_
      exact key _ _ ⟨rfl, rfl, by rw [eb]; exact fun z => Bool.noConfusion z.1⟩
    | true =>
      refine iteT ?_
      refine ⟨_, rfl, _, rfl, _, _, rfl, rfl, _, rfl, ?_⟩
      refine ite2 (fun c1 => ?_) (fun c1 => ?_)
      · have hlt : i < many := by
          have := of_decide_eq_true c1
          omega
        refine ⟨_, rfl, (by show 2 ≤ sizeLine; decide), fun t ht => ?_⟩
        exact q t _ (same_new ht _) (by rw [upd_same]; unfold oneE; rw [if_pos ⟨eb, hlt⟩])
      · have hlt : ¬ i < many := fun h => c1 (decide_eq_true (by show (i : Int) < (many : Int); omega))
        exact key _ _ ⟨rfl, rfl, fun z => hlt z.2⟩
  rintro σ1 H1 ⟨rfl, rfl, nn⟩
  have e1 : oneE r i many fk = (if byNm r.k = true ∧ (valV fk (.inr r.z)).isSome = true then [.str "name", (valV fk (.inr r.z)).getD .non] else [.str "free"]) := by unfold oneE; rw [if_neg nn]
  try dsimp only
  refine seq_via (fun σ' H' => σ' = [some (.ref p), some (.int (i : Nat)), some (.int (many : Nat)), some (.ref d)] ∧ H' = H1 ∧ ¬ (byNm r.k = true ∧ (valV fk (.inr r.z)).isSome = true)) ?_ (fun key => ?_)
  rotate_left
  · refine ⟨_, rfl, p, dx, _, rfl, hp, nB, p, dx, _, _, _, _, rfl, C, hp, _, rfl, ?_⟩
    rw [in_nm r.k rok.1]
    cases eb : byNm r.k with
    | false =>
      refine iteF ?_
      refine iteF ?_
      exact key _ _ ⟨rfl, rfl, by rw [eb]; exact fun z => Bool.noConfusion z.1⟩
    | true =>
      refine iteT ?_
      refine ⟨_, rfl, p, _, dx, _, _, rfl, hp, C.cl, C.nN, pf_name, _, rfl, d, _, rfl, .inl ⟨fk, .inr r.z, hd, rfl, rfl⟩, _, rfl, ?_⟩
      refine ite2 (fun c1 => ?_) (fun c1 => ?_)
      · obtain ⟨v, hv⟩ := Option.isSome_iff_exists.mp c1
        refine ⟨_, rfl, _, rfl, p, _, dx, _, _, rfl, hp, C.cl, C.nN, pf_name, d, v, rfl, .inl ⟨fk, .inr r.z, hd, rfl, hv.symm⟩, (by show 2 ≤ sizeLine; decide), fun t ht => ?_⟩
        exact q t _ (same_new ht _) (by rw [upd_same, e1, if_pos ⟨eb, c1⟩, hv]; rfl)
      · exact key _ _ ⟨rfl, rfl, fun z => c1 z.2⟩
  rintro σ2 H2 ⟨rfl, rfl, nn2⟩
  refine ⟨(by show 1 ≤ sizeLine; decide), fun t ht => ?_⟩
  exact q t _ (same_new ht _) (by rw [upd_same, e1, if_neg nn2])
theorem scLacks : FnScope ["form", "many", "firsts", "found", "number", "parameter"] ["form", "many", "firsts"] (defScope sLack) := ⟨rfl, rfl, rfl, by decide +kernel, rfl, by decide +kernel, by decide +kernel⟩
theorem ok_lacks {g gP : Addr} {gd gf eP : FuncData} (F : Fun K "lackings" "lackings" sLack f fd) (hen : mg "enumerate" = none) (PP : Pcs K m c) (FK : FC K CF) (mP : Meth K CF "parameters" gP) (GP : FnOk P w K mg base CX0 1 gP eP ["self"] (spPars c CF)) (bP : Binds K eP ["self"] [])
    (GF : FnOk P w K mg base CX0 1 m.fF gf ["self"] (spFree K m)) (bF : Binds K gf ["self"] []) (cE1 : Callee P w K mg base 2 "one_entry" g gd ["parameter", "number", "many", "firsts"] (spOneE c)) : FnOk P w K mg base CX0 3 f fd ["form", "many", "firsts"] (spLacks c CF) := by
  refine F.ok scLacks (fun vs H Q E h => ?_) (fun cdv A outer s H vs Q E hr h => ?_)
  · obtain ⟨f, d, many, rows, bars, fk, rfl, _⟩ := h
    rfl
  obtain ⟨f, d, many, rows, bars, fk, rfl, l5, hok, hF, hd, hfl, q⟩ := h
  have hr1 : Room 1 _ := hr.mono (by decide)
  have hU := hr.units
  have hO : ∀ C, Cs5 c C → Cls K C ∧ Meth K C "free" m.fF := fun C ⟨k, hk, e⟩ => by rw [e]; exact ⟨(PP k hk).cl, (PP k hk).mF⟩
  refine ⟨_, pss_cons (ps_set (i := 3) scLacks.nd rfl (Or.inl rfl) (pe_lst pa_nil))
    (pss_cons (ps_for PassesOwn.never rfl (pi_enum rfl hen (ac (pe_meth0 (pv 0) FK.cl mP GP hr1 bP .nil pass0) pa_nil)) (pg_tup rfl (pgs_cons (pg_name (i := 4) scLacks.nd rfl (Or.inl rfl)) (pgs_cons (pg_name (i := 5) scLacks.nd rfl (Or.inl rfl)) pgs_nil)))
      (pss_one (ps_if (PW.pt (pw_and (pt_not (pt_val (pe_methP (pv 5) hO GF hr1 bF pass0))) (pw_and1 (pt_cmpR (op_eqTup hU) (cF cE1 hr (ac (pv 5) (ac (pv 4) (ac (pv 1) (ac (pv 2) pa_nil))))) (pe_tup (ac pe_str pa_nil)) (nomark _)))))
        (pss_one (ps_expr (pe_bm PySem.F.plainAttrs_list PySem.F.slot_list_append PySem.F.type_list_append mt_append (pv 3) (ac (pe_tup (ac pe_str (ac (pv 4) pa_nil))) pa_nil)))) pss_nil)))
    (pss_one (ps_ret (pv 3)))), ?_⟩
  refine ⟨(by show 0 ≤ sizeLine; decide), fun l hl => ?_⟩
  have s1 := same_new hl (.lst [])
  have e1 : upd H l (.lst []) l = some (.lst []) := upd_same
  show tSeq _ _ _ _ (upd H l (.lst []))
  generalize upd H l (.lst []) = H1 at s1 e1 ⊢
  obtain ⟨dx, fs, lr, lb, ld, ps0, h1, h2, h3, h4, h5, h6⟩ := id hF
  have nmP : fs.lookup ("parameters" : Str) = none := h2.no _ (by decide +kernel)
  refine ⟨_, rfl, f, dx, fs, rfl, s1 _ _ h1, nmP, f, rows, bars, rfl, hF.same s1, fun lp ps H2 s2 np ep hps => ?_⟩
  have e2 := s2 _ _ e1
  have nlp : lp ≠ l := Ne.symm (ne_of_none e1 np)
  have nd : ∀ {b : Addr} {u : HO}, H b = some u → b ≠ l := fun e => ne_of_none e hl
  have s12 := s1.trans s2
  have sHl : ∀ {H' : Hp}, (∀ b u, H2 b = some u → b ≠ l → H' b = some u) → Same H H' := fun k b u e => k b u (s12 _ _ e) (nd e)
  refine ⟨lp, rfl, ⟨_, SqL.of ep⟩, for_enum (K := K) (a := lp) (xs := ps.map V.ref) (fun i σ H' => ∃ (us : List Addr) (v4 v5 : Option V), σ = [some (.ref f), some (.int (many : Nat)), some (.ref d), some (.ref l), v4, v5] ∧ (∀ b u, H2 b = some u → b ≠ l → H' b = some u) ∧ H' l = some (.lst (us.map V.ref)) ∧ MsAt H' us (lackF many fk 0 (rows.take i)))
    ⟨[], _, _, rfl, fun _ _ e _ => e, e2, .nil⟩ (fun i σ H' _ ⟨_, _, _, _, sH, _⟩ => SqL.of (sH _ _ ep nlp)) ?_ ?_⟩
  · rintro i x p σ H' hx ⟨us, v4, v5, rfl, sH, hl', hm⟩ hpn
    obtain ⟨pa, hpa, rfl⟩ := refs_at hx
    obtain ⟨r, hr', dx', hdx⟩ := paired_at hps hpa
    have rok := hok r (List.mem_of_getElem? hr')
    have C := PP r.k rok.1
    have hi : i < rows.length := (List.getElem?_eq_some_iff.mp hr').1
    have npa : pa ≠ l := ne_of hdx e2 (by intro z; cases z)
    have tk := lackF_snoc (many := many) (fk := fk) rows 0 i hr'
    rw [Nat.zero_add] at tk
    have sp := same_new hpn (.tup [.int (i : Nat), .ref pa])
    have lu : us.length ≤ i := by
      rw [hm.length]
      refine Nat.le_trans (lackF_len _ _ _ _) ?_
      rw [List.length_take]
      omega
    have sH1 : ∀ b u, H2 b = some u → b ≠ l → upd H' p (.tup [.int (i : Nat), .ref pa]) b = some u := fun b u e n => sp _ _ (sH b u e n)
    have hl1 := sp _ _ hl'
    have hm1 := hm.same sp
    refine ⟨p, _, rfl, SqT.of upd_same, rfl, _, _, rfl, _, _, rfl, rfl, ?_⟩
    generalize upd H' p (.tup [.int (i : Nat), .ref pa]) = H3 at sH1 hl1 hm1 ⊢
    have hd3 := sH1 _ _ hdx npa
    refine ⟨_, rfl, pa, _, dx', _, rfl, ⟨r.k, rok.1, rfl⟩, hd3, pf_no (by decide +kernel) (by decide +kernel) (by decide +kernel), pa, dx', _, _, _, _, rfl, C, hd3, _, rfl, ?_⟩
    cases ef : fr r.k r.b with
    | true =>
      have il : isLack r i many fk = false := by unfold isLack; rw [ef]; rfl
      rw [il, if_neg Bool.false_ne_true, List.append_nil] at tk
      refine iteF ?_
      refine iteF ?_
      exact ⟨us, _, _, rfl, sH1, hl1, by rw [tk]; exact hm1⟩
    | false =>
      refine iteT ?_
      refine ⟨_, rfl, _, rfl, _, rfl, _, rfl, pa, d, i, many, r, fk, rfl, ⟨dx', hd3⟩, rok, Same.rd (sHl sH1) hd, fun u H4 s4 e4 => ?_⟩
      refine ⟨(by show 1 ≤ sizeLine; decide), fun t ht => ?_⟩
      have s5 := same_new ht (.tup [.str "free"])
      refine ⟨u, t, _, _, rfl, rfl, SqT.of (s5 _ _ e4), SqT.of upd_same, oneE_flat hfl, rfl, _, rfl, ?_⟩
      have s45 := s4.trans s5
      have il : isLack r i many fk = L2.eqT (oneE r i many fk) [.str "free"] := by unfold isLack; rw [ef]; rfl
      rw [← il]
      generalize upd H4 t (.tup [.str "free"]) = H5 at s5 s45 ⊢
      have hl5 := s45 _ _ hl1
      have sH5 : ∀ b u, H2 b = some u → b ≠ l → H5 b = some u := fun b u e n => s45 _ _ (sH1 b u e n)
      refine ite2 (fun c1 => ?_) (fun c1 => ?_)
      · rw [c1, if_pos rfl] at tk
        refine ⟨_, rfl, .inl ⟨rfl, _, SqL.of hl5⟩, _, rfl, (by show 2 ≤ sizeLine; decide), fun t2 ht2 => ?_⟩
        have s6 := same_new ht2 (.tup [.str "lacking", .int (i : Nat)])
        have hl6 := s6 _ _ hl5
        have hu2 : MA1 (upd H5 t2 (.tup [.str "lacking", .int (i : Nat)])) t2 ("lacking", i) := by
          show upd H5 t2 _ t2 = _
          rw [upd_same]
        refine ⟨l, _, .ref t2, rfl, rfl, hl6, small1000 (by rw [List.length_map]; omega), ?_⟩
        refine ⟨us ++ [t2], _, _, rfl, fun b u e n => ?_, by rw [upd_same, List.map_append]; rfl, ?_⟩
        · rw [upd_ne n]
          exact s6 _ _ (sH5 b u e n)
        · rw [tk]
          exact (((hm1.same s45).same s6).snoc hu2).upd hl6
      · have c2 : isLack r i many fk = false := by
          cases e : isLack r i many fk with
          | false => rfl
          | true => exact absurd e c1
        rw [c2, if_neg Bool.false_ne_true, List.append_nil] at tk
        exact ⟨us, _, _, rfl, sH5, hl5, by rw [tk]; exact hm1.same s45⟩
  · rintro σ H' ⟨us, v4, v5, rfl, sH, hl', hm⟩
    rw [List.length_map, hps.length, List.take_length] at hm
    exact ⟨_, rfl, q l H' (sHl sH) ⟨us, hl, hl', hm⟩⟩
end
end K65

set_option Elab.async false
set_option linter.all false
set_option maxRecDepth 100000
set_option maxHeartbeats 4000000
namespace K65
open PySem L2 PyProof.Rows
/-! ### the first numbers, as pairs -/
def fpF : Nat → List (Str × Nat) → List Str → List (Str × Nat)
  | _, acc, [] => acc
  | i, acc, z :: zs => fpF (i + 1) (if (acc.any fun p => decide (p.1 = z)) = true then acc else acc ++ [(z, i)]) zs
def kvP (fp : List (Str × Nat)) : List (Key × V) := fp.map fun p => (.inr p.1, .int (p.2 : Nat))
theorem kvP_any (fp : List (Str × Nat)) (z : Str) : (valV (kvP fp) (.inr z)).isSome = fp.any fun p => decide (p.1 = z) := by
  rw [← valV_any]
  unfold kvP
  rw [List.any_map]
  congr 1
  funext p
  show decide ((Sum.inr p.1 : Key) = Sum.inr z) = decide (p.1 = z)
  exact key_rr _ _
theorem fst_fp : ∀ (zs : List Str) (i : Nat) (acc : List (Str × Nat)), fstF i (kvP acc) zs = kvP (fpF i acc zs)
  | [], _, _ => rfl
  | z :: zs, i, acc => by
    show fstF (i + 1) (if (valV (kvP acc) (.inr z)).isSome = true then kvP acc else putK (kvP acc) (.inr z) (.int i)) zs = kvP (fpF (i + 1) (if (acc.any fun p => decide (p.1 = z)) = true then acc else acc ++ [(z, i)]) zs)
    rw [kvP_any]
    cases e : acc.any fun p => decide (p.1 = z) with
    | true => exact fst_fp zs (i + 1) acc
    | false =>
      have e2 : putK (kvP acc) (.inr z) (.int (i : Nat)) = kvP (acc ++ [(z, i)]) := by
        unfold putK
        rw [valV_any, kvP_any, e, if_neg Bool.false_ne_true]
        unfold kvP
        rw [List.map_append]
        rfl
      rw [if_neg Bool.false_ne_true, if_neg Bool.false_ne_true, e2]
      exact fst_fp zs (i + 1) _
theorem kvP_val {fp : List (Str × Nat)} {k : Key} {v : V} (h : valV (kvP fp) k = some v) : ∃ (z : Str) (j : Nat), k = .inr z ∧ v = .int (j : Nat) ∧ (z, j) ∈ fp := by
  unfold valV at h
  cases e : (kvP fp).find? fun kv => decide (kv.1 = k) with
  | none => rw [e] at h; cases h
  | some kv =>
    rw [e] at h
    have hm := List.mem_of_find?_eq_some e
    have hk := List.find?_some e
    unfold kvP at hm
    obtain ⟨p, hp, rfl⟩ := List.mem_map.mp hm
    exact ⟨p.1, p.2, (of_decide_eq_true hk).symm, (Option.some.inj h).symm, hp⟩
theorem fp_flat (fp : List (Str × Nat)) : FlatD1 (kvP fp) := fun k v h => by
  obtain ⟨z, j, _, rfl, _⟩ := kvP_val h
  rfl
theorem fp_keep {z : Str} : ∀ (zs : List Str) (i : Nat) (acc : List (Str × Nat)), (acc.any fun p => decide (p.1 = z)) = true → ((fpF i acc zs).any fun p => decide (p.1 = z)) = true
  | [], _, _, h => h
  | y :: ys, i, acc, h => by
    show ((fpF (i + 1) _ ys).any _) = true
    refine fp_keep ys (i + 1) _ ?_
    split
    · exact h
    · rw [List.any_append, h]; rfl
theorem fp_mem {z : Str} : ∀ (zs : List Str) (i : Nat) (acc : List (Str × Nat)), z ∈ zs → ((fpF i acc zs).any fun p => decide (p.1 = z)) = true
  | [], _, _, h => by cases h
  | y :: ys, i, acc, h => by
    show ((fpF (i + 1) _ ys).any _) = true
    rcases List.mem_cons.mp h with rfl | h
    · refine fp_keep ys (i + 1) _ ?_
      split
      next e => exact e
      · rw [List.any_append]
        simp
    · exact fp_mem ys (i + 1) _ h
def fpZ (zs : List Str) : List (Str × Nat) := fpF 0 [] zs
theorem fst_Z (zs : List Str) : fstF 0 [] zs = kvP (fpZ zs) := fst_fp zs 0 []
/-! ### all misfits -/
def dblF (fk : List (Key × V)) : Nat → List Str → List (Str × Nat)
  | _, [] => []
  | i, z :: zs => (if valV fk (.inr z) = some (.int (i : Nat)) then [] else [(("doubled" : Str), i)]) ++ dblF fk (i + 1) zs
theorem dblF_snoc {fk : List (Key × V)} {z : Str} : ∀ (zs : List Str) (j i : Nat), zs[i]? = some z → dblF fk j (zs.take (i + 1)) = dblF fk j (zs.take i) ++ (if valV fk (.inr z) = some (.int (j + i : Nat)) then [] else [(("doubled" : Str), j + i)])
  | [], _, _, h => by simp at h
  | y :: ys, j, 0, h => by
    have e : y = z := by simpa using h
    subst e
    show (_ ++ []) = [] ++ _
    rw [List.append_nil, List.nil_append]
    rfl
  | y :: ys, j, i + 1, h => by
    have := dblF_snoc (fk := fk) ys (j + 1) i (by simpa using h)
    show _ ++ dblF fk (j + 1) (ys.take (i + 1)) = _
    rw [this, show j + 1 + i = j + (i + 1) by omega, ← List.append_assoc]
    rfl
theorem dblF_len (fk : List (Key × V)) : ∀ (zs : List Str) (i : Nat), (dblF fk i zs).length ≤ zs.length
  | [], _ => Nat.le_refl _
  | r :: rs, i => by
    have := dblF_len fk rs (i + 1)
    show (_ ++ dblF fk (i + 1) rs).length ≤ rs.length + 1
    rw [List.length_append]
    split
    · rw [List.length_nil]; omega
    · rw [List.length_singleton]; omega
def unwW (rows : List Rw) (bars : List Str) (many : Nat) (z : Str) : Option Str :=
  if z ∈ bars then some "barred" else match lastD' z rows with
    | none => if (firstK 4 0 rows).isSome = true then none else some "strange"
    | some l => if l < plN rows ∧ l < many then some "again" else none
where lastD' (z : Str) (rows : List Rw) : Option Nat := match valV (doorsF 0 [] rows) (.inr z) with
  | some (.int i) => some i.toNat
  | _ => none
def unwF (rows : List Rw) (bars : List Str) (many : Nat) (fp : List (Str × Nat)) : List (Str × Nat) := fp.filterMap fun p => (unwW rows bars many p.1).map fun wd => (wd, p.2)
def missF (rows : List Rw) (bars : List Str) (many : Nat) (zs : List Str) : List (Str × Nat) := dblF (kvP (fpZ zs)) 0 zs ++ overF rows many ++ unwF rows bars many (fpZ zs) ++ lackF many (kvP (fpZ zs)) 0 rows
def spUnw (c : C5) (CF : Addr) : Sp := fun vs H Q _ => ∃ (f d : Addr) (o : Obj) (many : Nat) (rows : List Rw) (bars : List Str) (fp : List (Str × Nat)), vs = [.ref f, .int (many : Nat), .ref d] ∧ rows.length ≤ 500 ∧ bars.length ≤ 500 ∧ fp.length ≤ 900 ∧ FormAt c CF H f rows bars ∧ H d = some (.frz o (.dK (kvP fp))) ∧ ∀ (l : Addr) (H' : Hp), Same H H' → NewMs H H' l (unwF rows bars many fp) → Q (.ref l) H'
def spMOf (c : C5) (CF : Addr) : Sp := fun vs H Q _ => ∃ (f a : Addr) (many : Nat) (rows : List Rw) (bars zs : List Str), vs = [.ref f, .int (many : Nat), .ref a] ∧ rows.length ≤ 500 ∧ bars.length ≤ 500 ∧ many ≤ 900 ∧ zs.length ≤ 900 ∧ (∀ r ∈ rows, r.ok) ∧ FormAt c CF H f rows bars ∧ H a = some (.lst (zs.map V.str)) ∧ ∀ (l : Addr) (H' : Hp), Same H H' → NewMs H H' l (missF rows bars many zs) → Q (.ref l) H'
theorem fpF_len : ∀ (zs : List Str) (i : Nat) (acc : List (Str × Nat)), (fpF i acc zs).length ≤ acc.length + zs.length
  | [], _, _ => Nat.le_refl _
  | z :: zs, i, acc => by
    have h := fpF_len zs (i + 1) (if (acc.any fun p => decide (p.1 = z)) = true then acc else acc ++ [(z, i)])
    have h2 : (if (acc.any fun p => decide (p.1 = z)) = true then acc else acc ++ [(z, i)]).length ≤ acc.length + 1 := by
      split
      · omega
      · rw [List.length_append]; exact Nat.le_refl _
    show (fpF (i + 1) _ zs).length ≤ acc.length + (zs.length + 1)
    omega
theorem MsAt.app {H : Hp} {us vs : List Addr} {ms ns : List (Str × Nat)} (h : MsAt H us ms) (h' : MsAt H vs ns) : MsAt H (us ++ vs) (ms ++ ns) := paired_app h h'
section
variable {P : Program} {w : World} {K : PySem.W.Frag} {mg : Str → Option Value} {base : Heap} {f CF : Addr} {fd : FuncData} {c : C5} {m : MA}
theorem ndDb : ([Str.ofString "number", Str.ofString "name", Str.ofString "firsts"] : List Str).Nodup := by decide +kernel
theorem scMOf : FnScope ["form", "many", "names", "firsts", "doubled"] ["form", "many", "names"] (defScope sMOf) := ⟨rfl, rfl, rfl, by decide +kernel, rfl, by decide +kernel, by decide +kernel⟩
theorem ok_mof {g1 g2 g3 g4 : Addr} {d1 d2 d3 d4 : FuncData} (F : Fun K "misfits_of" "misfits_of" sMOf f fd) (hen : mg "enumerate" = none) (c1 : Callee P w K mg base 1 "first_numbers" g1 d1 ["names"] spFirsts) (c2 : Callee P w K mg base 2 "overs" g2 d2 ["form", "many"] (spOvers c CF)) (c3 : Callee P w K mg base 2 "unwelcomes" g3 d3 ["form", "many", "firsts"] (spUnw c CF)) (c4 : Callee P w K mg base 3 "lackings" g4 d4 ["form", "many", "firsts"] (spLacks c CF)) :
    FnOk P w K mg base CX0 4 f fd ["form", "many", "names"] (spMOf c CF) := by
  refine F.ok scMOf (fun vs H Q E h => ?_) (fun cdv A outer s H vs Q E hr h => ?_)
  · obtain ⟨f, a, many, rows, bars, zs, rfl, _⟩ := h
    rfl
  obtain ⟨f, a, many, rows, bars, zs, rfl, l5, lb5, lm, lz, hok, hF, ha, q⟩ := h
  have hr1 : Room 1 _ := hr.mono (by decide)
  have hr2 : Room 2 _ := hr.mono (by decide)
  have hu1 := hu_of hr
  refine ⟨_, pss_cons (ps_set (i := 3) scMOf.nd rfl (Or.inr rfl) (cF c1 hr1 (ac (pv 2) pa_nil)))
    (pss_cons (ps_lc (i := 4) ["firsts"] ["number", "name", "firsts"] [none, none, some 3] scMOf.nd rfl (Or.inl rfl) rfl ⟨rfl, rfl, rfl, rfl⟩ (pi_enum rfl hen (ac (pv 2) pa_nil)) (gown_tup2 (K := K) (n := 2) 0 1) rfl rfl rfl
      (fun pins fp s H C => ⟨pg_tup rfl (pgs_cons (pg_name (i := 0) ndDb rfl (Or.inl rfl) (.inr rfl)) (pgs_cons (pg_name (i := 1) ndDb rfl (Or.inl rfl) (.inr rfl)) pgs_nil)), pif_one (pt_cmpR op_ne (pe_dget hu1 (pv 2) (pv 1) (fun _ _ => rfl)) (pv 0) (nomark _)), pe_tup (ac pe_str (ac (pv 0) pa_nil))⟩))
    (pss_one (ps_ret (pe_op op_cat (pe_op op_cat (pe_op op_cat (pv 4) (cF c2 hr2 (ac (pv 0) (ac (pv 1) pa_nil)))) (cF c3 hr2 (ac (pv 0) (ac (pv 1) (ac (pv 3) pa_nil))))) (cF c4 hr (ac (pv 0) (ac (pv 1) (ac (pv 3) pa_nil)))))))), ?_⟩
  refine ⟨_, rfl, a, zs, rfl, ha, lz, fun d o H1 s1 hd0 hd1 => ?_⟩
  rw [fst_Z] at hd1
  have lfp : (fpZ zs).length ≤ 900 := by
    have := fpF_len zs 0 []
    show (fpF 0 [] zs).length ≤ 900
    simp at this
    omega
  generalize hfp : fpZ zs = fp at hd1 lfp
  refine ⟨_, rfl, a, rfl, ⟨_, SqL.of (s1 _ _ ha)⟩, fun D hD => ?_⟩
  refine lc_enum (K := K) (xs := zs.map V.str) (fun i ys H' => ∃ us, ys = us.map V.ref ∧ Same H1 H' ∧ H' D = some (.lst ys) ∧ MsAt H' us (dblF (kvP fp) 0 (zs.take i))) ⟨[], rfl, same_new hD _, upd_same, .nil⟩ (fun i ys H' ⟨_, _, h, _⟩ => SqL.of (h _ _ (s1 _ _ ha))) ?_ ?_
  · rintro i x p ys H' hlt hx ⟨us, rfl, sH, hDy, hm⟩ hpn
    obtain ⟨z, hz, rfl⟩ := strs_at hx
    have hi : i < zs.length := (List.getElem?_eq_some_iff.mp hz).1
    have tk := dblF_snoc (fk := kvP fp) zs 0 i hz
    rw [Nat.zero_add] at tk
    have sp := same_new hpn (.tup [.int (i : Nat), .str z])
    have lu : us.length ≤ i := by
      rw [hm.length]
      refine Nat.le_trans (dblF_len _ _ _) ?_
      rw [List.length_take]
      omega
    have hsome : (valV (kvP fp) (.inr z)).isSome = true := by
      rw [kvP_any, ← hfp]
      exact fp_mem zs 0 [] (List.mem_of_getElem? hz)
    obtain ⟨v, hv⟩ := Option.isSome_iff_exists.mp hsome
    obtain ⟨_, j, _, rfl, _⟩ := kvP_val hv
    have hd2 := sp _ _ (sH _ _ hd1)
    have hDy2 := sp _ _ hDy
    have hm2 := hm.same sp
    refine ⟨p, _, rfl, SqT.of upd_same, rfl, _, _, rfl, _, _, rfl, rfl, ?_⟩
    have sA := sH.trans sp
    generalize upd H' p (.tup [.int (i : Nat), .str z]) = H3 at sp hd2 hDy2 hm2 sA ⊢
    refine ⟨_, rfl, _, rfl, d, _, rfl, .inl ⟨_, .inr z, .inr ⟨o, hd2⟩, rfl, hv.symm⟩, _, rfl, rfl, _, rfl, ?_⟩
    by_cases ej : j = i
    · subst ej
      rw [if_pos hv, List.append_nil] at tk
      have ed : (!decide (V.int (j : Nat) = V.int (j : Nat))) = false := by rw [decide_eq_true rfl]; rfl
      rw [ed]
      exact ⟨fun e => Bool.noConfusion e, fun _ => lcS.mk hlt ⟨us, rfl, sA, hDy2, by rw [tk]; exact hm2⟩⟩
    · have nv : ¬ valV (kvP fp) (.inr z) = some (.int (i : Nat)) := fun e => by
        rw [hv] at e
        have := V.int.inj (Option.some.inj e)
        omega
      rw [if_neg nv] at tk
      have ed : (!decide (V.int (j : Nat) = V.int (i : Nat))) = true := by
        rw [decide_eq_false (fun e => by have := V.int.inj e; omega)]
        rfl
      rw [ed]
      refine ⟨fun _ => ?_, fun e => Bool.noConfusion e⟩
      refine ⟨_, rfl, (by show 2 ≤ sizeLine; decide), fun t ht => ?_⟩
      have s4 := same_new ht (.tup [.str "doubled", .int (i : Nat)])
      have hDy4 := s4 _ _ hDy2
      have hu : MA1 (upd H3 t (.tup [.str "doubled", .int (i : Nat)])) t ("doubled", i) := by
        show upd H3 t _ t = _
        rw [upd_same]
      refine lcN.mk hlt (le1000 (by rw [List.length_map]; omega)) hDy4 (by rw [List.length_map]; exact lu) ⟨us ++ [t], by rw [List.map_append]; rfl, fun b' u' e' => ?_, upd_same, ?_⟩
      · rw [upd_ne (ne_of_none e' hD)]
        exact s4 _ _ (sA _ _ e')
      · rw [tk]
        exact ((hm2.same s4).snoc hu).upd hDy4
  rintro ys H2 ⟨us, rfl, s2, hDy, hm⟩
  rw [List.length_map, List.take_length] at hm
  have s12 := s1.trans s2
  have lov : (overF rows many).length ≤ 900 := by
    unfold overF
    split
    · exact Nat.zero_le _
    · rw [List.length_map, List.length_range]; omega
  have lun : (unwF rows bars many fp).length ≤ 900 := by
    unfold unwF
    exact Nat.le_trans (List.length_filterMap_le _ _) lfp
  have lla := lackF_len many (kvP fp) rows 0
  have ldb := dblF_len (kvP fp) zs 0
  have big : 4000 ≤ sizeLine := by decide
  refine ⟨_, rfl, _, rfl, _, rfl, f, many, rows, bars, rfl, lm, l5, hF.same s12, fun l3 H3 s3 ⟨us3, n3, e3, m3⟩ => ?_⟩
  have lu0 := hm.length
  have lu3 := m3.length
  refine ⟨D, l3, _, _, rfl, rfl, s3 _ _ hDy, e3, (by simp only [List.length_map]; omega), fun p4 hp4 => ?_⟩
  rw [← List.map_append]
  have u4 := same_new hp4 (.lst ((us ++ us3).map V.ref))
  have e4 : upd H3 p4 (.lst ((us ++ us3).map V.ref)) p4 = some (.lst ((us ++ us3).map V.ref)) := upd_same
  have m4 : MsAt (upd H3 p4 (.lst ((us ++ us3).map V.ref))) (us ++ us3) _ := ((hm.same s3).app m3).same u4
  generalize upd H3 p4 (.lst ((us ++ us3).map V.ref)) = H4 at u4 e4 m4 ⊢
  have s24 := s2.trans (s3.trans u4)
  have s14 := s1.trans s24
  refine ⟨_, rfl, _, rfl, _, rfl, f, d, o, many, rows, bars, fp, rfl, l5, lb5, lfp, hF.same s14, s24 _ _ hd1, fun l5' H5 s5 ⟨us5, n5, e5, m5⟩ => ?_⟩
  have lu5 := m5.length
  refine ⟨p4, l5', _, _, rfl, rfl, s5 _ _ e4, e5, (by simp only [List.length_map, List.length_append]; omega), fun p6 hp6 => ?_⟩
  rw [← List.map_append]
  have u6 := same_new hp6 (.lst ((us ++ us3 ++ us5).map V.ref))
  have e6 : upd H5 p6 (.lst ((us ++ us3 ++ us5).map V.ref)) p6 = some (.lst ((us ++ us3 ++ us5).map V.ref)) := upd_same
  have m6 : MsAt (upd H5 p6 (.lst ((us ++ us3 ++ us5).map V.ref))) (us ++ us3 ++ us5) _ := ((m4.same s5).app m5).same u6
  generalize upd H5 p6 (.lst ((us ++ us3 ++ us5).map V.ref)) = H6 at u6 e6 m6 ⊢
  have s26 := s24.trans (s5.trans u6)
  have s16 := s1.trans s26
  refine ⟨_, rfl, _, rfl, _, rfl, f, d, many, rows, bars, kvP fp, rfl, l5, hok, hF.same s16, .inr ⟨o, s26 _ _ hd1⟩, fp_flat fp, fun l7 H7 s7 ⟨us7, n7, e7, m7⟩ => ?_⟩
  have lu7 := m7.length
  refine ⟨p6, l7, _, _, rfl, rfl, s7 _ _ e6, e7, (by simp only [List.length_map, List.length_append]; omega), fun p8 hp8 => ?_⟩
  rw [← List.map_append]
  have u8 := same_new hp8 (.lst ((us ++ us3 ++ us5 ++ us7).map V.ref))
  refine q p8 _ (s16.trans (s7.trans u8)) ⟨us ++ us3 ++ us5 ++ us7, (s16.trans s7).free hp8, upd_same, ?_⟩
  unfold missF
  rw [hfp]
  exact ((m6.same s7).app m7).same u8
end
end K65

set_option Elab.async false
set_option linter.all false
set_option maxRecDepth 100000
set_option maxHeartbeats 4000000
namespace K65
open PySem L2 PyProof.Rows
theorem dv_val : ∀ (rows : List Rw) (i : Nat) (acc : List (Key × V)) (k : Key) (v : V), (∀ k v, valV acc k = some v → ∃ j : Nat, v = .int (j : Nat)) → valV (doorsF i acc rows) k = some v → ∃ j : Nat, v = .int (j : Nat)
  | [], _, acc, k, v, h, e => h k v e
  | r :: rs, i, acc, k, v, h, e => by
    refine dv_val rs (i + 1) _ k v (fun k v e => ?_) e
    split at e
    · rw [valV_put] at e
      split at e
      · exact ⟨i, (Option.some.inj e).symm⟩
      · exact h k v e
    · exact h k v e
theorem unwF_snoc {rows : List Rw} {bars : List Str} {many : Nat} {fp : List (Str × Nat)} {i : Nat} {p : Str × Nat} (h : fp[i]? = some p) : unwF rows bars many (fp.take (i + 1)) = unwF rows bars many (fp.take i) ++ (match unwW rows bars many p.1 with | some wd => [(wd, p.2)] | none => []) := by
  unfold unwF
  rw [List.take_add_one, h, List.filterMap_append]
  congr 1
  show List.filterMap _ [p] = _
  rw [List.filterMap_cons, List.filterMap_nil]
  cases unwW rows bars many p.1 <;> rfl
theorem unwF_len (rows : List Rw) (bars : List Str) (many : Nat) (fp : List (Str × Nat)) : (unwF rows bars many fp).length ≤ fp.length := List.length_filterMap_le _ _
section
variable {P : Program} {w : World} {K : PySem.W.Frag} {mg : Str → Option Value} {base : Heap} {f CF : Addr} {fd : FuncData} {c : C5} {m : MA}
theorem scUnw : FnScope ["form", "many", "firsts", "barred", "found", "name", "number", "leads_to"] ["form", "many", "firsts"] (defScope sUnw) := ⟨rfl, rfl, rfl, by decide +kernel, rfl, by decide +kernel, by decide +kernel⟩
theorem ok_unw {gB gN gG gP : Addr} {eB eN eG eP : FuncData} (F : Fun K "unwelcomes" "unwelcomes" sUnw f fd) (hset : mg "set" = none) (FK : FC K CF) (mB : Meth K CF "bars" gB) (GB : FnOk P w K mg base CX0 1 gB eB ["self"] (spBars c CF)) (bB : Binds K eB ["self"] []) (mN : Meth K CF "number_of" gN) (GN : FnOk P w K mg base CX0 1 gN eN ["self", "name"] (spNum c CF)) (bN : Binds K eN ["self", "name"] [])
    (mG : Meth K CF "bag" gG) (GG : FnOk P w K mg base CX0 1 gG eG ["self"] (spWord c CF 4)) (bG : Binds K eG ["self"] []) (mP : Meth K CF "places" gP) (GP : FnOk P w K mg base CX0 1 gP eP ["self"] (spPlaces c CF)) (bP : Binds K eP ["self"] []) :
    FnOk P w K mg base CX0 2 f fd ["form", "many", "firsts"] (spUnw c CF) := by
  refine F.ok scUnw (fun vs H Q E h => ?_) (fun cdv A outer s H vs Q E hr h => ?_)
  · obtain ⟨f, d, o, many, rows, bars, fp, rfl, _⟩ := h
    rfl
  obtain ⟨f, d, o, many, rows, bars, fp, rfl, l5, lb5, lfp, hF, hd, q⟩ := h
  refine ⟨_, pss_cons (ps_set (i := 3) scUnw.nd rfl (Or.inl rfl) (cTy (call_setT rfl) hset PyProof.Rows.boot_set (ac (pe_meth0 (pv 0) FK.cl mB GB hr bB .nil pass0) pa_nil)))
    (pss_cons (ps_set (i := 4) scUnw.nd rfl (Or.inl rfl) (pe_lst pa_nil))
    (pss_cons (ps_for PassesOwn.never rfl (pi_items (pv 2)) (pg_tup rfl (pgs_cons (pg_name (i := 5) scUnw.nd rfl (Or.inl rfl)) (pgs_cons (pg_name (i := 6) scUnw.nd rfl (Or.inl rfl)) pgs_nil)))
      (pss_cons (ps_set (i := 7) scUnw.nd rfl (Or.inl rfl) (pe_meth (pv 0) FK.cl mN GN hr bN .nil pass0 (ac (pv 5) pa_nil)))
      (pss_one (ps_if (pt_cmpR op_in_setT (pv 5) (pv 3) (by with_unfolding_all rfl)) (pss_one (ps_expr (pe_bm PySem.F.plainAttrs_list PySem.F.slot_list_append PySem.F.type_list_append mt_append (pv 4) (ac (pe_tup (ac pe_str (ac (pv 6) pa_nil))) pa_nil))))
        (pss_one (ps_if (pt_cmp (pc_isN (pv 7))) (pss_one (ps_if (pt_cmp (pc_isN (pe_meth0 (pv 0) FK.cl mG GG hr bG .nil pass0))) (pss_one (ps_expr (pe_bm PySem.F.plainAttrs_list PySem.F.slot_list_append PySem.F.type_list_append mt_append (pv 4) (ac (pe_tup (ac pe_str (ac (pv 6) pa_nil))) pa_nil)))) pss_nil))
          (pss_one (ps_if (PW.pt (pw_and (pt_cmpR op_lt (pv 7) (pe_meth0 (pv 0) FK.cl mP GP hr bP .nil pass0) (nomark _)) (pw_and1 (pt_cmpR op_lt (pv 7) (pv 1) (nomark _))))) (pss_one (ps_expr (pe_bm PySem.F.plainAttrs_list PySem.F.slot_list_append PySem.F.type_list_append mt_append (pv 4) (ac (pe_tup (ac pe_str (ac (pv 6) pa_nil))) pa_nil)))) pss_nil))))))))
    (pss_one (ps_ret (pv 4))))), ?_⟩
  obtain ⟨dx, fs, lr, lb, ld, ps0, h1, h2, h3, h4, h5, h6⟩ := id hF
  have nmB : fs.lookup ("bars" : Str) = none := h2.no _ (by decide +kernel)
  have nmN : fs.lookup ("number_of" : Str) = none := h2.no _ (by decide +kernel)
  have nmG : fs.lookup ("bag" : Str) = none := h2.no _ (by decide +kernel)
  have nmP : fs.lookup ("places" : Str) = none := h2.no _ (by decide +kernel)
  refine ⟨_, rfl, f, dx, fs, rfl, h1, nmB, f, rows, bars, rfl, hF, fun lb1 H1 s1 nb eb => ?_⟩
  refine ⟨lb1, bars, rfl, SqL.of eb, by omega, fun sS nS hS => ?_⟩
  have u2 := same_new hS (setO P w sS (fun z => decide (z ∈ bars)) nS)
  have e2 : upd H1 sS (setO P w sS (fun z => decide (z ∈ bars)) nS) sS = some (setO P w sS (fun z => decide (z ∈ bars)) nS) := upd_same
  show tSeq _ _ _ _ (upd H1 sS (setO P w sS (fun z => decide (z ∈ bars)) nS))
  generalize upd H1 sS (setO P w sS (fun z => decide (z ∈ bars)) nS) = H2 at u2 e2 ⊢
  refine ⟨(by show 0 ≤ sizeLine; decide), fun l hl => ?_⟩
  have u3 := same_new hl (.lst [])
  have e3 : upd H2 l (.lst []) l = some (.lst []) := upd_same
  show tSeq _ _ _ _ (upd H2 l (.lst []))
  generalize upd H2 l (.lst []) = H3 at u3 e3 ⊢
  have s2 := s1.trans u2
  have s3 := s2.trans u3
  have hlH : H l = none := s2.free hl
  have nl : ∀ {b : Addr} {u : HO}, H2 b = some u → b ≠ l := fun e => ne_of_none e hl
  have sHl : ∀ {H' : Hp}, (∀ b u, H2 b = some u → H' b = some u) → Same H H' := fun k b u e => k b u (s2 _ _ e)
  refine ⟨_, rfl, d, o, kvP fp, rfl, s3 _ _ hd, for_items (d := d) (o := o) (kvs := kvP fp) (fun i σ H' => ∃ (us : List Addr) (v5 v6 v7 : Option V), σ = [some (.ref f), some (.int (many : Nat)), some (.ref d), some (.ref sS), some (.ref l), v5, v6, v7] ∧ (∀ b u, H2 b = some u → H' b = some u) ∧ H' l = some (.lst (us.map V.ref)) ∧ MsAt H' us (unwF rows bars many (fp.take i)))
    ⟨[], _, _, _, rfl, fun _ _ e => u3 _ _ e, e3, .nil⟩ (fun i σ H' _ ⟨_, _, _, _, _, sH, _⟩ => sH _ _ (s2 _ _ hd)) ?_ ?_⟩
  · rintro i k v p σ H' hk ⟨us, v5, v6, v7, rfl, sH, hl', hm⟩ hpn
    obtain ⟨z, n, hz, rfl, rfl⟩ : ∃ (z : Str) (n : Nat), fp[i]? = some (z, n) ∧ k = .inr z ∧ v = .int (n : Nat) := by
      unfold kvP at hk
      rw [List.getElem?_map] at hk
      cases e : fp[i]? with
      | none => rw [e] at hk; cases hk
      | some q => rw [e] at hk; cases hk; exact ⟨q.1, q.2, rfl, rfl, rfl⟩
    have tk := unwF_snoc (rows := rows) (bars := bars) (many := many) hz
    dsimp only at tk
    have sp := same_new hpn (.tup [kV (.inr z), .int (n : Nat)])
    have lu : us.length ≤ i := by
      rw [hm.length]
      refine Nat.le_trans (unwF_len _ _ _ _) ?_
      rw [List.length_take]
      omega
    have hi : i < fp.length := (List.getElem?_eq_some_iff.mp hz).1
    have sH1 : ∀ b u, H2 b = some u → upd H' p (.tup [kV (.inr z), .int (n : Nat)]) b = some u := fun b u e => sp _ _ (sH b u e)
    have hl1 := sp _ _ hl'
    have hm1 := hm.same sp
    refine ⟨p, _, rfl, SqT.of upd_same, rfl, _, _, rfl, _, _, rfl, rfl, ?_⟩
    generalize upd H' p (.tup [kV (.inr z), .int (n : Nat)]) = H4 at sH1 hl1 hm1 ⊢
    have s4 := sHl sH1
    refine ⟨_, rfl, f, dx, fs, rfl, s4 _ _ h1, nmN, _, rfl, f, z, rows, bars, rfl, hF.same s4, ?_⟩
    refine ⟨_, rfl, _, rfl, sS, _, _, z, rfl, rfl, sH1 _ _ e2, _, rfl, ?_⟩
    by_cases hz1 : z ∈ bars
    · refine dT hz1 ?_
      rw [show unwW rows bars many z = some "barred" from if_pos hz1] at tk
      refine ⟨_, rfl, .inl ⟨rfl, _, SqL.of hl1⟩, _, rfl, (by show 2 ≤ sizeLine; decide), fun t ht => ?_⟩
      have s6 := same_new ht (.tup [.str "barred", .int (n : Nat)])
      have hl6 := s6 _ _ hl1
      have hu2 : MA1 (upd H4 t (.tup [.str "barred", .int (n : Nat)])) t ("barred", n) := by
        show upd H4 t _ t = _
        rw [upd_same]
      refine ⟨l, _, .ref t, rfl, rfl, hl6, small1000 (by rw [List.length_map]; omega), ?_⟩
      refine ⟨us ++ [t], _, _, _, rfl, fun b u e => ?_, by rw [upd_same, List.map_append]; rfl, ?_⟩
      · rw [upd_ne (nl e)]
        exact s6 _ _ (sH1 b u e)
      · rw [tk]
        exact ((hm1.same s6).snoc hu2).upd hl6
    · refine dF hz1 ?_
      have e0 : unwW rows bars many z = (match unwW.lastD' z rows with | none => if (firstK 4 0 rows).isSome = true then none else some "strange" | some l => if l < plN rows ∧ l < many then some "again" else none) := if_neg hz1
      cases ev : valV (doorsF 0 [] rows) (.inr z) with
      | none =>
        have e1 : unwW.lastD' z rows = none := by unfold unwW.lastD'; rw [ev]
        rw [e1] at e0
        refine ⟨_, rfl, _, rfl, ?_⟩
        refine dT rfl ?_
        refine ⟨_, rfl, f, dx, fs, rfl, s4 _ _ h1, nmG, f, rows, bars, rfl, hF.same s4, _, rfl, ?_⟩
        cases eg : firstK 4 0 rows with
        | none =>
          have e2' : unwW rows bars many z = some "strange" := by rw [e0, eg]; rfl
          refine dT rfl ?_
          rw [show unwW rows bars many z = some "strange" from e2'] at tk
          refine ⟨_, rfl, .inl ⟨rfl, _, SqL.of hl1⟩, _, rfl, (by show 2 ≤ sizeLine; decide), fun t ht => ?_⟩
          have s6 := same_new ht (.tup [.str "strange", .int (n : Nat)])
          have hl6 := s6 _ _ hl1
          have hu2 : MA1 (upd H4 t (.tup [.str "strange", .int (n : Nat)])) t ("strange", n) := by
            show upd H4 t _ t = _
            rw [upd_same]
          refine ⟨l, _, .ref t, rfl, rfl, hl6, small1000 (by rw [List.length_map]; omega), ?_⟩
          refine ⟨us ++ [t], _, _, _, rfl, fun b u e => ?_, by rw [upd_same, List.map_append]; rfl, ?_⟩
          · rw [upd_ne (nl e)]
            exact s6 _ _ (sH1 b u e)
          · rw [tk]
            exact ((hm1.same s6).snoc hu2).upd hl6
        | some j =>
          have e2' : unwW rows bars many z = none := by rw [e0, eg]; rfl
          refine dF (by intro z; cases z) ?_
          rw [show unwW rows bars many z = none from e2', List.append_nil] at tk
          exact ⟨us, _, _, _, rfl, sH1, hl1, by rw [tk]; exact hm1⟩
      | some v =>
        obtain ⟨j, rfl⟩ := dv_val rows 0 [] (.inr z) v (fun k v e => by cases e) ev
        have e1 : unwW.lastD' z rows = some j := by unfold unwW.lastD'; rw [ev]; rfl
        rw [e1] at e0
        refine ⟨_, rfl, _, rfl, ?_⟩
        refine dF (by intro z; cases z) ?_
        refine ⟨_, rfl, _, rfl, f, dx, fs, rfl, s4 _ _ h1, nmP, f, rows, bars, rfl, hF.same s4, _, _, rfl, rfl, _, rfl, ?_⟩
        by_cases hj1 : j < plN rows
        · refine iteB (decide_eq_true (by show (j : Int) < (plN rows : Int); omega)) ?_
          refine ⟨_, rfl, _, rfl, _, _, rfl, rfl, _, rfl, ?_⟩
          by_cases hj2 : j < many
          · have e2' : unwW rows bars many z = some "again" := by rw [e0]; exact if_pos ⟨hj1, hj2⟩
            refine iteB (decide_eq_true (by show (j : Int) < (many : Int); omega)) ?_
            rw [show unwW rows bars many z = some "again" from e2'] at tk
            refine ⟨_, rfl, .inl ⟨rfl, _, SqL.of hl1⟩, _, rfl, (by show 2 ≤ sizeLine; decide), fun t ht => ?_⟩
            have s6 := same_new ht (.tup [.str "again", .int (n : Nat)])
            have hl6 := s6 _ _ hl1
            have hu2 : MA1 (upd H4 t (.tup [.str "again", .int (n : Nat)])) t ("again", n) := by
              show upd H4 t _ t = _
              rw [upd_same]
            refine ⟨l, _, .ref t, rfl, rfl, hl6, small1000 (by rw [List.length_map]; omega), ?_⟩
            refine ⟨us ++ [t], _, _, _, rfl, fun b u e => ?_, by rw [upd_same, List.map_append]; rfl, ?_⟩
            · rw [upd_ne (nl e)]
              exact s6 _ _ (sH1 b u e)
            · rw [tk]
              exact ((hm1.same s6).snoc hu2).upd hl6
          · have e2' : unwW rows bars many z = none := by rw [e0]; exact if_neg fun h => hj2 h.2
            refine iteC (decide_eq_false (by show ¬ (j : Int) < (many : Int); omega)) ?_
            rw [show unwW rows bars many z = none from e2', List.append_nil] at tk
            exact ⟨us, _, _, _, rfl, sH1, hl1, by rw [tk]; exact hm1⟩
        · have e2' : unwW rows bars many z = none := by rw [e0]; exact if_neg fun h => hj1 h.1
          refine iteC (decide_eq_false (by show ¬ (j : Int) < (plN rows : Int); omega)) ?_
          refine iteF ?_
          rw [show unwW rows bars many z = none from e2', List.append_nil] at tk
          exact ⟨us, _, _, _, rfl, sH1, hl1, by rw [tk]; exact hm1⟩
  · rintro σ H' ⟨us, v5, v6, v7, rfl, sH, hl', hm⟩
    have lk : (kvP fp).length = fp.length := by unfold kvP; rw [List.length_map]
    rw [lk, List.take_length] at hm
    exact ⟨_, rfl, q l H' (sHl sH) ⟨us, hlH, hl', hm⟩⟩
end
end K65

set_option Elab.async false
set_option linter.all false
set_option maxRecDepth 100000
set_option maxHeartbeats 4000000
namespace K65
open PySem L2 PyProof.Rows
def missC (rows : List Rw) (bars : List Str) (c : List Item) : List (Str × Nat) := missF rows bars (laidT c).length (namesOf c)
/-- what a call handed to fitting is -/
structure CallOk (K : PySem.W.Frag) (H : Hp) (a : Addr) (ct : List Item) : Prop where
  at_ : ∃ xs, SqL K H a xs ∧ Paired (Says K T' H 3) xs (ct.map itemD)
  lt : (laidT ct).length ≤ 900
  lp : (laidP ct).length ≤ 900
structure FormOk (c : C5) (CF : Addr) (H : Hp) (f : Addr) (rows : List Rw) (bars : List Str) : Prop where
  at_ : FormAt c CF H f rows bars
  lr : rows.length ≤ 500
  lb : bars.length ≤ 500
  ok : ∀ r ∈ rows, r.ok
theorem FormOk.same {c : C5} {CF : Addr} {H H' : Hp} {f : Addr} {rows : List Rw} {bars : List Str} (h : FormOk c CF H f rows bars) (s : Same H H') : FormOk c CF H' f rows bars := ⟨h.at_.same s, h.lr, h.lb, h.ok⟩
theorem CallOk.same {K : PySem.W.Frag} {H H' : Hp} {a : Addr} {ct : List Item} (h : CallOk K H a ct) (s : Same H H') : CallOk K H' a ct := by
  obtain ⟨⟨xs, h1, h2⟩, l1, l2⟩ := h
  exact ⟨⟨xs, s.seq h1, Paired.imp' (fun _ _ z => z.same s) h2⟩, l1, l2⟩
def spMis (K : PySem.W.Frag) (c : C5) (CF : Addr) : Sp := fun vs H Q _ => ∃ (f a : Addr) (rows : List Rw) (bars : List Str) (ct : List Item), vs = [.ref f, .ref a] ∧ FormOk c CF H f rows bars ∧ CallOk K H a ct ∧ ∀ (l : Addr) (H' : Hp), Same H H' → NewMs H H' l (missC rows bars ct) → Q (.ref l) H'
def spFits (K : PySem.W.Frag) (c : C5) (CF : Addr) : Sp := fun vs H Q _ => ∃ (f a : Addr) (rows : List Rw) (bars : List Str) (ct : List Item), vs = [.ref f, .ref a] ∧ FormOk c CF H f rows bars ∧ CallOk K H a ct ∧ ∀ (H' : Hp), Same H H' → Q (.bl (missC rows bars ct).isEmpty) H'
def spRFirst (K : PySem.W.Frag) (c : C5) (CF : Addr) : Sp := fun vs H Q _ => ∃ (f a : Addr) (rows : List Rw) (bars : List Str) (ct : List Item), vs = [.ref f, .ref a] ∧ FormOk c CF H f rows bars ∧ CallOk K H a ct ∧ (∀ m ∈ missC rows bars ct, m.1 = "lacking") ∧ ∀ (H' : Hp), Same H H' → Q .non H'
section
variable {P : Program} {w : World} {K : PySem.W.Frag} {mg : Str → Option Value} {base : Heap} {f CF : Addr} {fd : FuncData} {c : C5} {m : MA}
theorem scMis : FnScope ["form", "call", "many", "names"] ["form", "call"] (defScope sMisfits) := ⟨rfl, rfl, rfl, by decide +kernel, rfl, by decide +kernel, by decide +kernel⟩
theorem ok_mis {g1 g2 : Addr} {d1 d2 : FuncData} (F : Fun K "misfits" "misfits" sMisfits f fd) (c1 : Callee P w K mg base 2 "shape" g1 d1 ["call"] (spShape K)) (c2 : Callee P w K mg base 4 "misfits_of" g2 d2 ["form", "many", "names"] (spMOf c CF)) : FnOk P w K mg base CX0 5 f fd ["form", "call"] (spMis K c CF) := by
  refine F.ok scMis (fun vs H Q E h => ?_) (fun cdv A outer s H vs Q E hr h => ?_)
  · obtain ⟨f, a, rows, bars, ct, rfl, _⟩ := h
    rfl
  obtain ⟨f, a, rows, bars, ct, rfl, hF, ⟨⟨xs, hx, hc⟩, lt, lp⟩, q⟩ := h
  have hr2 : Room 2 _ := hr.mono (by decide)
  refine ⟨_, pss_cons (ps_asg (cF c1 hr2 (ac (pv 1) pa_nil)) (pg_tup rfl (pgs_cons (pg_name (i := 2) scMis.nd rfl (Or.inl rfl)) (pgs_cons (pg_name (i := 3) scMis.nd rfl (Or.inl rfl)) pgs_nil))))
    (pss_one (ps_ret (cF c2 hr (ac (pv 0) (ac (pv 2) (ac (pv 3) pa_nil)))))), ?_⟩
  refine ⟨_, rfl, a, ct, xs, rfl, hx, hc, lt, lp, fun p l H1 s1 nl ep el => ?_⟩
  refine ⟨p, _, rfl, SqT.of ep, rfl, _, _, rfl, _, _, rfl, rfl, ?_⟩
  have hF1 := hF.same s1
  have ln : (namesOf ct).length ≤ 900 := by unfold namesOf; rw [List.length_map]; exact lp
  exact ⟨_, rfl, _, rfl, _, rfl, f, l, (laidT ct).length, rows, bars, namesOf ct, rfl, hF.lr, hF.lb, lt, ln, hF.ok, hF1.at_, el, fun l2 H2 s2 ⟨us, n2, e2, m2⟩ => q l2 H2 (s1.trans s2) ⟨us, s1.free n2, e2, m2⟩⟩
theorem scFits : FnScope ["form", "call"] ["form", "call"] (defScope sFits) := ⟨rfl, rfl, rfl, by decide +kernel, rfl, by decide +kernel, by decide +kernel⟩
theorem ok_fits {g1 : Addr} {d1 : FuncData} (F : Fun K "fits" "fits" sFits f fd) (c1 : Callee P w K mg base 5 "misfits" g1 d1 ["form", "call"] (spMis K c CF)) : FnOk P w K mg base CX0 6 f fd ["form", "call"] (spFits K c CF) := by
  refine F.ok scFits (fun vs H Q E h => ?_) (fun cdv A outer s H vs Q E hr h => ?_)
  · obtain ⟨f, a, rows, bars, ct, rfl, _⟩ := h
    rfl
  obtain ⟨f, a, rows, bars, ct, rfl, hF, hC, q⟩ := h
  have hU := hr.units
  have hU0 := hr.units0
  refine ⟨_, pss_one (ps_ret (pe_cmpR (OpR.or (op_eqS hU) (op_eqLen hU0)) (cF c1 hr (ac (pv 0) (ac (pv 1) pa_nil))) (pe_lst pa_nil) (nomark _))), ?_⟩
  refine ⟨_, rfl, _, rfl, f, a, rows, bars, ct, rfl, hF, hC, fun l H1 s1 ⟨us, nl, el, ml⟩ => ?_⟩
  refine ⟨(by show 0 ≤ sizeLine; decide), fun l2 hl2 => ?_⟩
  have s2 := same_new hl2 (.lst [])
  have lu := ml.length
  cases e : missC rows bars ct with
  | nil =>
    rw [e] at ml
    cases ml
    refine .inl ⟨l, l2, 0, .lst [], fun _ => True, fun _ => True, rfl, rfl, by decide, Says.lst True.intro (s2 _ _ el) .nil, Says.lst True.intro upd_same .nil, ?_⟩
    have := q _ (s1.trans s2)
    rw [e] at this
    exact this
  | cons x xs =>
    refine .inr ⟨l, l2, _, _, rfl, rfl, s2 _ _ el, upd_same, (by rw [List.length_map, lu, e]; exact Nat.succ_ne_zero _), ?_⟩
    have := q _ (s1.trans s2)
    rw [e] at this
    exact this
theorem scRFirst : FnScope ["form", "call", "word", "number"] ["form", "call"] (defScope sRFirst) := ⟨rfl, rfl, rfl, by decide +kernel, rfl, by decide +kernel, by decide +kernel⟩
theorem ok_rfirst {g1 : Addr} {d1 : FuncData} (F : Fun K "refuse_first_things" "refuse_first_things" sRFirst f fd) (c1 : Callee P w K mg base 5 "misfits" g1 d1 ["form", "call"] (spMis K c CF)) : FnOk P w K mg base CX0 6 f fd ["form", "call"] (spRFirst K c CF) := by
  refine F.ok scRFirst (fun vs H Q E h => ?_) (fun cdv A outer s H vs Q E hr h => ?_)
  · obtain ⟨f, a, rows, bars, ct, rfl, _⟩ := h
    rfl
  obtain ⟨f, a, rows, bars, ct, rfl, hF, hC, hw, q⟩ := h
  refine ⟨_, pss_one (ps_for PassesOwn.never rfl (pi_list (cF c1 hr (ac (pv 0) (ac (pv 1) pa_nil)))) (pg_tup rfl (pgs_cons (pg_name (i := 2) scRFirst.nd rfl (Or.inl rfl)) (pgs_cons (pg_name (i := 3) scRFirst.nd rfl (Or.inl rfl)) pgs_nil)))
      (pss_one (ps_if (pt_cmpR op_ne (pv 2) pe_str (nomark _)) (pss_one ps_dead) pss_nil))), ?_⟩
  refine ⟨_, rfl, _, rfl, f, a, rows, bars, ct, rfl, hF, hC, fun l H1 s1 ⟨us, nl, el, ml⟩ => ?_⟩
  refine ⟨l, rfl, ⟨_, SqL.of el⟩, for_list (K := K) (a := l) (xs := us.map V.ref) (fun i σ H' => ∃ v2 v3, σ = [some (.ref f), some (.ref a), v2, v3] ∧ H' = H1) ⟨_, _, rfl, rfl⟩ (fun i σ H' _ ⟨_, _, _, e⟩ => by rw [e]; exact SqL.of el) ?_ ?_⟩
  · rintro i x σ H' hx ⟨v2, v3, rfl, rfl⟩
    obtain ⟨u, hu, rfl⟩ := refs_at hx
    obtain ⟨mm, hm, tm⟩ := paired_at ml hu
    have e := hw mm (List.mem_of_getElem? hm)
    refine ⟨u, _, rfl, SqT.of tm, rfl, _, _, rfl, _, _, rfl, rfl, ?_⟩
    refine ⟨_, rfl, rfl, _, rfl, ?_⟩
    refine iteNS (by rw [e]) ?_
    exact ⟨_, _, rfl, rfl⟩
  · rintro σ H' ⟨v2, v3, rfl, rfl⟩
    exact q _ s1
end
end K65

set_option Elab.async false
set_option linter.all false
set_option maxRecDepth 100000
set_option maxHeartbeats 4000000
namespace K65
open PySem L2 PyProof.Rows
/-! ### what is left behind -/
def isBoth (names : List Str) (r : Rw) : Bool := byNm r.k && decide (r.z ∈ names)
def fbF (names : List Str) : Nat → List Rw → Option Nat
  | _, [] => none
  | i, r :: rs => if isBoth names r = true then some i else fbF names (i + 1) rs
def spFB (c : C5) (CF : Addr) : Sp := fun vs H Q _ => ∃ (f a : Addr) (rows : List Rw) (bars names : List Str), vs = [.ref f, .ref a] ∧ FormOk c CF H f rows bars ∧ H a = some (.lst (names.map V.str)) ∧ ∀ H', Same H H' → Q (numV (fbF names 0 (rows.take (plN rows)))) H'
/-- a new list of parameters -/
def NewPs (c : C5) (H H' : Hp) (l : Addr) (rows : List Rw) : Prop := ∃ ps : List Addr, H l = none ∧ H' l = some (.lst (ps.map V.ref)) ∧ Paired (PAt c H') ps rows
def bagR (rows : List Rw) : List Rw := match firstK 4 0 rows with
  | none => []
  | some i => (rows.drop i).take 1
def tailR (rows : List Rw) : List Rw := match firstK 2 0 rows with
  | none => []
  | some i => (rows.drop i).take 1
def spBagOf (c : C5) (CF : Addr) : Sp := fun vs H Q _ => ∃ (f : Addr) (rows : List Rw) (bars : List Str), vs = [.ref f] ∧ FormOk c CF H f rows bars ∧ ∀ (l : Addr) (H' : Hp), Same H H' → NewPs c H H' l (bagR rows) → Q (.ref l) H'
def spTailL (c : C5) (CF : Addr) : Sp := fun vs H Q _ => ∃ (f : Addr) (st : Option Nat) (rows : List Rw) (bars : List Str), vs = [.ref f, numV st] ∧ FormOk c CF H f rows bars ∧ ∀ (l : Addr) (H' : Hp), Same H H' → NewPs c H H' l (if st.isSome = true then [] else tailR rows) → Q (.ref l) H'
theorem firstK_lt {kk : Nat} : ∀ (rows : List Rw) (i j : Nat), firstK kk i rows = some j → i ≤ j ∧ j < i + rows.length
  | [], _, _, h => by cases h
  | r :: rs, i, j, h => by
    unfold firstK at h
    split at h
    · cases h; simp
    · have := firstK_lt rs (i + 1) j h
      simp only [List.length_cons]
      omega
section
variable {P : Program} {w : World} {K : PySem.W.Frag} {mg : Str → Option Value} {base : Heap} {f CF : Addr} {fd : FuncData} {c : C5} {m : MA}
theorem scBagOf : FnScope ["form"] ["form"] (defScope sBagOf) := ⟨rfl, rfl, rfl, by decide +kernel, rfl, by decide +kernel, by decide +kernel⟩
theorem ok_bagOf {gG gP : Addr} {eG eP : FuncData} (F : Fun K "bag_of" "bag_of" sBagOf f fd) (FK : FC K CF) (mG : Meth K CF "bag" gG) (GG : FnOk P w K mg base CX0 1 gG eG ["self"] (spWord c CF 4)) (bG : Binds K eG ["self"] []) (mP : Meth K CF "parameters" gP) (GP : FnOk P w K mg base CX0 1 gP eP ["self"] (spPars c CF)) (bP : Binds K eP ["self"] []) :
    FnOk P w K mg base CX0 2 f fd ["form"] (spBagOf c CF) := by
  refine F.ok scBagOf (fun vs H Q E h => ?_) (fun cdv A outer s H vs Q E hr h => ?_)
  · obtain ⟨f, rows, bars, rfl, _⟩ := h
    rfl
  obtain ⟨f, rows, bars, rfl, hF, q⟩ := h
  refine ⟨_, pss_one (ps_ret (pe_ifExp (pt_cmp (pc_isN (pe_meth0 (pv 0) FK.cl mG GG hr bG .nil pass0))) (pe_lst pa_nil) (pe_lst (ac (pe_ix ix_list (pe_meth0 (pv 0) FK.cl mP GP hr bP .nil pass0) (pe_meth0 (pv 0) FK.cl mG GG hr bG .nil pass0) (fun _ _ => rfl)) pa_nil)))), ?_⟩
  obtain ⟨dx, fs, lr, lb, ld, ps0, h1, h2, h3, h4, h5, h6⟩ := id hF.at_
  have nmG : fs.lookup ("bag" : Str) = none := h2.no _ (by decide +kernel)
  have nmP : fs.lookup ("parameters" : Str) = none := h2.no _ (by decide +kernel)
  refine ⟨_, rfl, f, dx, fs, rfl, h1, nmG, f, rows, bars, rfl, hF.at_, _, rfl, ?_⟩
  cases e : firstK 4 0 rows with
  | none =>
    refine dT rfl ?_
    refine ⟨(by show 0 ≤ sizeLine; decide), fun l hl => q l _ (same_new hl _) ⟨[], hl, upd_same, ?_⟩⟩
    unfold bagR; rw [e]; exact .nil
  | some j =>
    refine dF (by intro z; cases z) ?_
    refine ⟨_, rfl, f, dx, fs, rfl, h1, nmP, f, rows, bars, rfl, hF.at_, fun lp ps H1 s1 np ep hps => ?_⟩
    have hj := (firstK_lt rows 0 j e).2
    rw [Nat.zero_add] at hj
    have hjp : j < ps.length := by rw [hps.length]; exact hj
    obtain ⟨r, hr', tp⟩ := paired_at hps (List.getElem?_eq_getElem hjp)
    have eb : bagR rows = [r] := by
      unfold bagR; rw [e]
      show (rows.drop j).take 1 = [r]
      rw [List.drop_eq_getElem_cons hj]
      show [rows[j]] = [r]
      rw [List.getElem?_eq_getElem hj] at hr'
      rw [Option.some.inj hr']
    refine ⟨_, rfl, f, dx, fs, rfl, s1 _ _ h1, nmG, f, rows, bars, rfl, hF.at_.same s1, lp, _, (j : Int), .ref ps[j], rfl, by rw [e]; rfl, SqL.of ep, atI_nat (by rw [List.getElem?_map, List.getElem?_eq_getElem hjp]; rfl), (by show 1 ≤ sizeLine; decide), fun l hl => ?_⟩
    have s2 := same_new hl (.lst [.ref ps[j]])
    refine q l _ (s1.trans s2) ⟨[ps[j]], s1.free hl, upd_same, ?_⟩
    rw [eb]
    exact .cons (tp.same s2) .nil
theorem scTailL : FnScope ["form", "stop"] ["form", "stop"] (defScope sTailL) := ⟨rfl, rfl, rfl, by decide +kernel, rfl, by decide +kernel, by decide +kernel⟩
theorem ok_tailL {gG gP : Addr} {eG eP : FuncData} (F : Fun K "tail_left" "tail_left" sTailL f fd) (FK : FC K CF) (mG : Meth K CF "tail" gG) (GG : FnOk P w K mg base CX0 1 gG eG ["self"] (spWord c CF 2)) (bG : Binds K eG ["self"] []) (mP : Meth K CF "parameters" gP) (GP : FnOk P w K mg base CX0 1 gP eP ["self"] (spPars c CF)) (bP : Binds K eP ["self"] []) :
    FnOk P w K mg base CX0 2 f fd ["form", "stop"] (spTailL c CF) := by
  refine F.ok scTailL (fun vs H Q E h => ?_) (fun cdv A outer s H vs Q E hr h => ?_)
  · obtain ⟨f, st, rows, bars, rfl, _⟩ := h
    rfl
  obtain ⟨f, st, rows, bars, rfl, hF, q⟩ := h
  refine ⟨_, pss_cons (ps_if (PW.pt (pw_or (pt_cmp (pc_notN (pv 1))) (pw_or1 (pt_cmp (pc_isN (pe_meth0 (pv 0) FK.cl mG GG hr bG .nil pass0)))))) (pss_one (ps_ret (pe_lst pa_nil))) pss_nil)
    (pss_one (ps_ret (pe_lst (ac (pe_ix ix_list (pe_meth0 (pv 0) FK.cl mP GP hr bP .nil pass0) (pe_meth0 (pv 0) FK.cl mG GG hr bG .nil pass0) (fun _ _ => rfl)) pa_nil)))), ?_⟩
  obtain ⟨dx, fs, lr, lb, ld, ps0, h1, h2, h3, h4, h5, h6⟩ := id hF.at_
  have nmG : fs.lookup ("tail" : Str) = none := h2.no _ (by decide +kernel)
  have nmP : fs.lookup ("parameters" : Str) = none := h2.no _ (by decide +kernel)
  cases st with
  | some i =>
    refine ⟨_, rfl, _, rfl, ?_⟩
    refine iteT ?_
    refine iteT ?_
    exact ⟨(by show 0 ≤ sizeLine; decide), fun l hl => q l _ (same_new hl _) ⟨[], hl, upd_same, .nil⟩⟩
  | none =>
    refine ⟨_, rfl, _, rfl, ?_⟩
    refine iteF ?_
    refine ⟨_, rfl, f, dx, fs, rfl, h1, nmG, f, rows, bars, rfl, hF.at_, _, rfl, ?_⟩
    cases e : firstK 2 0 rows with
    | none =>
      refine dT rfl ?_
      refine ⟨(by show 0 ≤ sizeLine; decide), fun l hl => q l _ (same_new hl _) ⟨[], hl, upd_same, ?_⟩⟩
      show Paired _ [] (tailR rows)
      unfold tailR; rw [e]; exact .nil
    | some j =>
      refine dF (by intro z; cases z) ?_
      refine ⟨_, rfl, f, dx, fs, rfl, h1, nmP, f, rows, bars, rfl, hF.at_, fun lp ps H1 s1 np ep hps => ?_⟩
      have hj := (firstK_lt rows 0 j e).2
      rw [Nat.zero_add] at hj
      have hjp : j < ps.length := by rw [hps.length]; exact hj
      obtain ⟨r, hr', tp⟩ := paired_at hps (List.getElem?_eq_getElem hjp)
      have eb : tailR rows = [r] := by
        unfold tailR; rw [e]
        show (rows.drop j).take 1 = [r]
        rw [List.drop_eq_getElem_cons hj]
        show [rows[j]] = [r]
        rw [List.getElem?_eq_getElem hj] at hr'
        rw [Option.some.inj hr']
      refine ⟨_, rfl, f, dx, fs, rfl, s1 _ _ h1, nmG, f, rows, bars, rfl, hF.at_.same s1, lp, _, (j : Int), .ref ps[j], rfl, by rw [e]; rfl, SqL.of ep, atI_nat (by rw [List.getElem?_map, List.getElem?_eq_getElem hjp]; rfl), (by show 1 ≤ sizeLine; decide), fun l hl => ?_⟩
      have s2 := same_new hl (.lst [.ref ps[j]])
      refine q l _ (s1.trans s2) ⟨[ps[j]], s1.free hl, upd_same, ?_⟩
      show Paired _ _ (tailR rows)
      rw [eb]
      exact .cons (tp.same s2) .nil
theorem cut_takeN {xs : List V} {n : Nat} : cutV xs none (some (n : Int)) = xs.take n := by
  unfold cutV
  rw [HT.sIx_nat, HT.sIx_none, List.drop_zero, Nat.sub_zero]
  by_cases h : n ≤ xs.length
  · rw [Nat.min_eq_left h]
  · rw [Nat.min_eq_right (by omega), List.take_of_length_le (Nat.le_refl _), List.take_of_length_le (by omega)]
theorem pairedTake {α β : Type} {R : α → β → Prop} {a : List α} {c : List β} (h : Paired R a c) : ∀ n, Paired R (a.take n) (c.take n) := by
  induction h with
  | nil => intro n; rw [List.take_nil, List.take_nil]; exact .nil
  | cons r _ ih =>
    intro n
    cases n with
    | zero => exact .nil
    | succ n => exact .cons r (ih n)
theorem inStrs {z : Str} : ∀ {zs : List Str}, inV (.str z) (zs.map V.str) = decide (z ∈ zs)
  | [] => by simp [inV]
  | y :: ys => by
    have ih := inStrs (z := z) (zs := ys)
    show (eqV (.str y) (.str z) || inV (.str z) (ys.map V.str)) = _
    rw [ih]
    have : eqV (.str y) (.str z) = decide (z = y) := by
      show (y == z) = _
      rw [Bool.eq_iff_iff, beq_iff_eq, decide_eq_true_eq]
      exact ⟨Eq.symm, Eq.symm⟩
    rw [this]
    simp
theorem flatStrs : ∀ {zs : List Str}, (zs.map V.str).all flatV = true
  | [] => rfl
  | _ :: ys => by
    show (true && (ys.map V.str).all flatV) = true
    rw [flatStrs]
    rfl
theorem scFB : FnScope ["form", "names", "number", "parameter"] ["form", "names"] (defScope sFBoth) := ⟨rfl, rfl, rfl, by decide +kernel, rfl, by decide +kernel, by decide +kernel⟩
theorem ok_fb {gP gL : Addr} {eP eL gb : FuncData} (F : Fun K "first_both" "first_both" sFBoth f fd) (hen : mg "enumerate" = none) (FK : FC K CF) (PP : Pcs K m c) (mP : Meth K CF "parameters" gP) (GP : FnOk P w K mg base CX0 1 gP eP ["self"] (spPars c CF)) (bP : Binds K eP ["self"] []) (mL : Meth K CF "places" gL) (GL : FnOk P w K mg base CX0 1 gL eL ["self"] (spPlaces c CF)) (bL : Binds K eL ["self"] [])
    (GB : FnOk P w K mg base CX0 1 m.fB gb ["self"] (spIn K m bnL)) (bB : Binds K gb ["self"] []) : FnOk P w K mg base CX0 2 f fd ["form", "names"] (spFB c CF) := by
  refine F.ok scFB (fun vs H Q E h => ?_) (fun cdv A outer s H vs Q E hr h => ?_)
  · obtain ⟨f, a, rows, bars, names, rfl, _⟩ := h
    rfl
  obtain ⟨f, a, rows, bars, names, rfl, hF, ha, q⟩ := h
  have hB : ∀ C, Cs5 c C → Cls K C ∧ Meth K C "by_name" m.fB := fun C ⟨k, hk, e⟩ => by rw [e]; exact ⟨(PP k hk).cl, (PP k hk).mB⟩
  refine ⟨_, pss_cons (ps_for PassesOwn.never rfl (pi_enum rfl hen (ac (pe_slice sl_list (pe_meth0 (pv 0) FK.cl mP GP hr bP .nil pass0) po_none (po_some (pe_meth0 (pv 0) FK.cl mL GL hr bL .nil pass0))) pa_nil)) (pg_tup rfl (pgs_cons (pg_name (i := 2) scFB.nd rfl (Or.inl rfl)) (pgs_cons (pg_name (i := 3) scFB.nd rfl (Or.inl rfl)) pgs_nil)))
      (pss_one (ps_if (PW.pt (pw_and (pt_val (pe_methP (pv 3) hB GB hr bB pass0)) (pw_and1 (pt_cmpR op_in_seq (pe_fld (pv 3) rfl) (pv 1) (by with_unfolding_all rfl))))) (pss_one (ps_ret (pv 2))) pss_nil)))
    (pss_one (ps_ret pe_non)), ?_⟩
  obtain ⟨dx, fs, lr, lb, ld, ps0, h1, h2, h3, h4, h5, h6⟩ := id hF.at_
  have nmL : fs.lookup ("places" : Str) = none := h2.no _ (by decide +kernel)
  have nmP : fs.lookup ("parameters" : Str) = none := h2.no _ (by decide +kernel)
  refine ⟨_, rfl, f, dx, fs, rfl, h1, nmP, f, rows, bars, rfl, hF.at_, fun lp ps H1 s1 np ep hps => ?_⟩
  refine ⟨_, rfl, f, dx, fs, rfl, s1 _ _ h1, nmL, f, rows, bars, rfl, hF.at_.same s1, _, rfl, lp, _, rfl, SqL.of ep, fun p hp => ?_⟩
  rw [cut_takeN, ← List.map_take]
  have u2 := same_new hp (.lst ((ps.take (plN rows)).map V.ref))
  have e2 : upd H1 p (.lst ((ps.take (plN rows)).map V.ref)) p = some (.lst ((ps.take (plN rows)).map V.ref)) := upd_same
  have hp2 := pats_same u2 (pairedTake hps (plN rows))
  have s2 := s1.trans u2
  generalize upd H1 p (.lst ((ps.take (plN rows)).map V.ref)) = H2 at u2 e2 hp2 s2 ⊢
  have rk : ∀ r ∈ rows.take (plN rows), r.ok := fun r h => hF.ok r (List.mem_of_mem_take h)
  generalize rows.take (plN rows) = rw' at hp2 rk q
  generalize ps.take (plN rows) = pw at e2 hp2
  refine ⟨p, rfl, ⟨_, SqL.of e2⟩, for_enum (K := K) (a := p) (xs := pw.map V.ref) (fun i σ H' => ∃ v2 v3, σ = [some (.ref f), some (.ref a), v2, v3] ∧ Same H2 H' ∧ fbF names 0 rw' = fbF names i (rw'.drop i)) ⟨_, _, rfl, Same.refl _, rfl⟩ (fun i σ H' _ ⟨_, _, _, sH, _⟩ => SqL.of (sH _ _ e2)) ?_ ?_⟩
  · rintro i x t σ H' hx ⟨v2, v3, rfl, sH, hb⟩ htn
    obtain ⟨pa, hpa, rfl⟩ := refs_at hx
    obtain ⟨r, hr', dx', hdx⟩ := paired_at hp2 hpa
    have rok := rk r (List.mem_of_getElem? hr')
    have C := PP r.k rok.1
    have hi : i < rw'.length := (List.getElem?_eq_some_iff.mp hr').1
    have er : rw'[i] = r := by rw [List.getElem?_eq_getElem hi] at hr'; exact Option.some.inj hr'
    rw [List.drop_eq_getElem_cons hi, er] at hb
    have hb' : fbF names 0 rw' = if isBoth names r = true then some i else fbF names (i + 1) (rw'.drop (i + 1)) := hb
    have sp := same_new htn (.tup [.int (i : Nat), .ref pa])
    refine ⟨t, _, rfl, SqT.of upd_same, rfl, _, _, rfl, _, _, rfl, rfl, ?_⟩
    have s3 := sH.trans sp
    generalize upd H' t (.tup [.int (i : Nat), .ref pa]) = H3 at sp s3 ⊢
    have hd3 := s3 _ _ hdx
    refine ⟨_, rfl, pa, _, dx', _, rfl, ⟨r.k, rok.1, rfl⟩, hd3, pf_no (by decide +kernel) (by decide +kernel) (by decide +kernel), pa, dx', _, _, _, _, rfl, C, hd3, _, rfl, ?_⟩
    rw [in_nm r.k rok.1]
    cases eb : byNm r.k with
    | false =>
      have : isBoth names r = false := by unfold isBoth; rw [eb]; rfl
      rw [this, if_neg Bool.false_ne_true] at hb'
      refine iteF ?_
      refine iteF ?_
      exact ⟨_, _, rfl, s3, hb'⟩
    | true =>
      have ei : isBoth names r = decide (r.z ∈ names) := by unfold isBoth; rw [eb]; rfl
      refine iteT ?_
      refine ⟨_, rfl, pa, _, dx', _, _, rfl, hd3, C.cl, C.nN, pf_name, _, rfl, a, _, rfl, .inl (SqL.of (s3 _ _ (s2 _ _ ha))), rfl, flatStrs, _, rfl, ?_⟩
      rw [show (if false = true then !inV (V.str r.z) (names.map V.str) else inV (V.str r.z) (names.map V.str)) = decide (r.z ∈ names) from inStrs]
      refine ite2 (fun c1 => ?_) (fun c1 => ?_)
      · rw [ei, if_pos c1] at hb'
        refine ⟨_, rfl, ?_⟩
        have := q H3 (s2.trans s3)
        rw [hb'] at this
        exact this
      · rw [ei, if_neg c1] at hb'
        exact ⟨_, _, rfl, s3, hb'⟩
  · rintro σ H' ⟨v2, v3, rfl, sH, hb⟩
    rw [List.length_map, hp2.length, List.drop_length] at hb
    have := q H' (s2.trans sH)
    rw [hb] at this
    exact this
end
end K65

set_option Elab.async false
set_option linter.all false
set_option maxRecDepth 100000
set_option maxHeartbeats 4000000
namespace K65
open PySem L2 PyProof.Rows
def spToldF (c : C5) (CF : Addr) : Sp := fun vs H Q _ => ∃ (a b : Addr) (ps : List Addr) (rows : List Rw) (bars : List Str), vs = [.ref a, .ref b] ∧ H a = some (.lst (ps.map V.ref)) ∧ Paired (PAt c H) ps rows ∧ (∀ r ∈ rows, r.ok) ∧ rows.length ≤ 500 ∧ H b = some (.lst (bars.map V.str)) ∧ ∀ (f : Addr) (H' : Hp), Same H H' → H f = none → FormAt c CF H' f rows bars → Q (.ref f) H'
def tagsR (names : List Str) (rs : List Rw) : List Rw := (rs.filter fun r => byNm r.k && !decide (r.z ∈ names)).map fun r => ⟨3, r.z, fr r.k r.b⟩
def spTagsL (c : C5) (CF : Addr) : Sp := fun vs H Q _ => ∃ (f b a : Addr) (pb : List Addr) (rows rb : List Rw) (bars names : List Str), vs = [.ref f, .ref b, .ref a] ∧ FormOk c CF H f rows bars ∧ H b = some (.lst (pb.map V.ref)) ∧ Paired (PAt c H) pb rb ∧ (∀ r ∈ rb, r.ok) ∧ rb.length ≤ 500 ∧ H a = some (.lst (names.map V.str)) ∧ ∀ (l : Addr) (H' : Hp), Same H H' → NewPs c H H' l (tagsR names (rb ++ rows.drop (plN rows))) → Q (.ref l) H'
theorem valid0 : Valid [] [] := ⟨(fun r h => by cases h), Nat.zero_le _, Nat.zero_le _, rfl, (fun z h => by cases h), List.nodup_nil⟩
theorem tagsR_snoc {names : List Str} {rs : List Rw} {i : Nat} {r : Rw} (h : rs[i]? = some r) : tagsR names (rs.take (i + 1)) = tagsR names (rs.take i) ++ (if (byNm r.k && !decide (r.z ∈ names)) = true then [⟨3, r.z, fr r.k r.b⟩] else []) := by
  unfold tagsR
  rw [List.take_add_one, h, List.filter_append, List.map_append]
  congr 1
  show List.map _ (List.filter _ [r]) = _
  cases e : (byNm r.k && !decide (r.z ∈ names)) with
  | true => rw [List.filter_cons, if_pos e]; rfl
  | false => rw [List.filter_cons, if_neg (by rw [e]; exact Bool.false_ne_true)]; rfl
theorem tagsR_len (names : List Str) (rs : List Rw) : (tagsR names rs).length ≤ rs.length := by
  unfold tagsR
  rw [List.length_map]
  exact List.length_filter_le _ _
section
variable {P : Program} {w : World} {K : PySem.W.Frag} {mg : Str → Option Value} {base : Heap} {f CF N : Addr} {fd : FuncData} {c : C5} {m : MA}
theorem scToldF : FnScope ["parameters", "bars", "form"] ["parameters", "bars"] (defScope sToldF) := ⟨rfl, rfl, rfl, by decide +kernel, rfl, by decide +kernel, by decide +kernel⟩
theorem ok_toldF {gF gK : Addr} {eF eK : FuncData} (F : Fun K "told_form" "told_form" sToldF f fd) (FK : FC K CF) (kF : Ctor P w K mg base CX0 3 "Form" CF gF eF ["self", "parameters", "bars"] [.none] (spFI c CF)) (mK : Meth K CF "keep" gK) (GK : FnOk P w K mg base CX0 2 gK eK ["self", "parameters", "bars"] (spKeep c CF)) (bK : Binds K eK ["self", "parameters", "bars"] []) :
    FnOk P w K mg base CX0 5 f fd ["parameters", "bars"] (spToldF c CF) := by
  refine F.ok scToldF (fun vs H Q E h => ?_) (fun cdv A outer s H vs Q E hr h => ?_)
  · obtain ⟨a, b, ps, rows, bars, rfl, _⟩ := h
    rfl
  obtain ⟨a, b, ps, rows, bars, rfl, ha, hp, hok, l5, hb, q⟩ := h
  have hr2 : Room 2 _ := hr.mono (by decide)
  refine ⟨_, pss_cons (ps_set (i := 2) scToldF.nd rfl (Or.inl rfl) (cMk (dvs := [.non]) kF (.cons rfl .nil) pass0 hr (ac (pe_lst pa_nil) pa_nil)))
    (pss_cons (ps_expr (pe_meth (pv 2) FK.cl mK GK hr2 bK .nil pass0 (ac (pv 0) (ac (pv 1) pa_nil))))
    (pss_one (ps_ret (pv 2)))), ?_⟩
  refine ⟨(by show 0 ≤ sizeLine; decide), fun l hl => ?_⟩
  have s1 := same_new hl (.lst [])
  have e1 : upd H l (.lst []) l = some (.lst []) := upd_same
  generalize upd H l (.lst []) = H1 at s1 e1 ⊢
  intro x dx hx hd hne
  have sm : Same H1 (upd (upd H1 dx (.own x)) x (.ins CF dx [])) := same_make0 hx hd
  refine ⟨x, l, dx, .non, [], [], [], rfl, upd_same, sm _ _ e1, .nil, .inl ⟨rfl, rfl⟩, valid0, fun H2 x2 F2 L2' => ⟨rfl, ?_⟩⟩
  have s2 : Same H1 H2 := fun b' u' e' => x2 b' u' (sm _ _ e') (ne_of_none e' hx)
  have s12 := s1.trans s2
  obtain ⟨dx2, fs2, ex, lx⟩ := L2'
  obtain ⟨dx3, fs3, lr, lb, ld, ps3, k1, k2, k3, k4, k5, k6⟩ := F2.at
  rw [ex] at k1
  cases k1
  have nmK : fs2.lookup ("keep" : Str) = none := k2.no _ (by decide +kernel)
  refine ⟨_, rfl, x, dx2, fs2, rfl, ex, nmK, _, rfl, _, rfl, x, a, b, dx2, fs2, ps, rows, bars, rfl, ex, ⟨by omega, k2.no⟩, s12 _ _ ha, pats_same s12 hp, hok, l5, s12 _ _ hb, fun H3 x3 F3 _ => ?_⟩
  have nx : ∀ {b' : Addr} {u' : HO}, H b' = some u' → b' ≠ x := fun e' => ne_of_none (s1 _ _ e') hx
  exact ⟨_, rfl, q x H3 (fun b' u' e' => x3 b' u' (s12 _ _ e') (nx e')) (s1.free hx) F3.at⟩
theorem ndOneT : ([Str.ofString "one", Str.ofString "names"] : List Str).Nodup := by decide +kernel
theorem scTagsL : FnScope ["form", "beyond", "names", "behind"] ["form", "beyond", "names"] (defScope sTagsL) := ⟨rfl, rfl, rfl, by decide +kernel, rfl, by decide +kernel, by decide +kernel⟩
theorem cut_dropN {xs : List V} {n : Nat} : cutV xs (some (n : Int)) none = xs.drop n := by
  unfold cutV
  rw [HT.sIx_nat, HT.sIx_none]
  by_cases h : n ≤ xs.length
  · rw [Nat.min_eq_left h]
    exact List.take_of_length_le (by rw [List.length_drop]; exact Nat.le_refl _)
  · rw [Nat.min_eq_right (by omega), List.drop_of_length_le (Nat.le_refl _), List.drop_of_length_le (by omega)]
    simp
theorem pairedDrop {α β : Type} {R : α → β → Prop} {a : List α} {c : List β} (h : Paired R a c) : ∀ n, Paired R (a.drop n) (c.drop n) := by
  induction h with
  | nil => intro n; rw [List.drop_nil, List.drop_nil]; exact .nil
  | cons r t ih =>
    intro n
    cases n with
    | zero => exact .cons r t
    | succ n => exact ih n
theorem pat_upd {c : C5} {H : Hp} {v D : Addr} {r : Rw} {ys : List V} {o : HO} (h : PAt c H v r) (hD : H D = some (.lst ys)) : PAt c (upd H D o) v r := by
  obtain ⟨dx, h⟩ := h
  refine ⟨dx, ?_⟩
  rw [upd_ne (fun e => by rw [e, hD] at h; cases h)]
  exact h
theorem ok_tagsL {gP gL i3 : Addr} {eP eL gb gf d3 : FuncData} (F : Fun K "tags_left" "tags_left" sTagsL f fd) (FK : FC K CF) (PP : Pcs K m c) (mP : Meth K CF "parameters" gP) (GP : FnOk P w K mg base CX0 1 gP eP ["self"] (spPars c CF)) (bP : Binds K eP ["self"] []) (mL : Meth K CF "places" gL) (GL : FnOk P w K mg base CX0 1 gL eL ["self"] (spPlaces c CF)) (bL : Binds K eL ["self"] [])
    (GB : FnOk P w K mg base CX0 1 m.fB gb ["self"] (spIn K m bnL)) (bB : Binds K gb ["self"] []) (GF : FnOk P w K mg base CX0 1 m.fF gf ["self"] (spFree K m)) (bF : Binds K gf ["self"] []) (kT : Ctor P w K mg base (CXe P w) 3 "Tag" c.c3 i3 d3 ["self", "name", "free"] [] (spS K c.c3 N "tag")) :
    FnOk P w K mg base CX0 5 f fd ["form", "beyond", "names"] (spTagsL c CF) := by
  refine F.ok scTagsL (fun vs H Q E h => ?_) (fun cdv A outer s H vs Q E hr h => ?_)
  · obtain ⟨f, b, a, pb, rows, rb, bars, names, rfl, _⟩ := h
    rfl
  obtain ⟨f, b, a, pb, rows, rb, bars, names, rfl, hF, hb, hpb, rbk, lrb, ha, q⟩ := h
  have hr1 : Room 1 _ := hr.mono (by decide)
  have hB : ∀ C, Cs5 c C → Cls K C ∧ Meth K C "by_name" m.fB := fun C ⟨k, hk, e⟩ => by rw [e]; exact ⟨(PP k hk).cl, (PP k hk).mB⟩
  have hFr : ∀ C, Cs5 c C → Cls K C ∧ Meth K C "free" m.fF := fun C ⟨k, hk, e⟩ => by rw [e]; exact ⟨(PP k hk).cl, (PP k hk).mF⟩
  refine ⟨_, pss_cons (ps_set (i := 3) scTagsL.nd rfl (Or.inl rfl) (pe_op op_cat (pv 1) (pe_slice sl_list (pe_meth0 (pv 0) FK.cl mP GP hr1 bP .nil pass0) (po_some (pe_meth0 (pv 0) FK.cl mL GL hr1 bL .nil pass0)) po_none)))
    (pss_one (ps_ret (pe_lc ["names"] ["one", "names"] [none, some 2] rfl ⟨rfl, rfl, rfl, rfl⟩ (pi_list (pv 3)) (gown_name 0) rfl rfl rfl
      (fun pins fp s H C => ⟨pg_name (i := 0) ndOneT rfl (Or.inl rfl) (.inr rfl), pif_one (PW.pt (pw_and (pt_val (pe_methP (pv 0) hB GB hr1 bB pass0)) (pw_and1 (pt_cmpR (r := rIn K true) op_notIn_seq (pe_fldK (K := K) rfl (pv 0) rfl) (pv 1) (by with_unfolding_all rfl))))), cMk (E := fun _ _ _ => False) kT .nil passF hr (ac (pe_fldK (K := K) rfl (pv 0) rfl) (ac (pe_methP (pv 0) hFr GF hr1 bF pass0) pa_nil))⟩)))), ?_⟩
  obtain ⟨dx, fs, lr, lb, ld, ps0, h1, h2, h3, h4, h5, h6⟩ := id hF.at_
  have nmL : fs.lookup ("places" : Str) = none := h2.no _ (by decide +kernel)
  have nmP : fs.lookup ("parameters" : Str) = none := h2.no _ (by decide +kernel)
  refine ⟨_, rfl, _, rfl, f, dx, fs, rfl, h1, nmP, f, rows, bars, rfl, hF.at_, fun lp ps H1 s1 np ep hps => ?_⟩
  refine ⟨_, rfl, f, dx, fs, rfl, s1 _ _ h1, nmL, f, rows, bars, rfl, hF.at_.same s1, _, rfl, lp, _, rfl, SqL.of ep, fun p hp => ?_⟩
  rw [cut_dropN, ← List.map_drop]
  have u2 := same_new hp (.lst ((ps.drop (plN rows)).map V.ref))
  have e2 : upd H1 p (.lst ((ps.drop (plN rows)).map V.ref)) p = some (.lst ((ps.drop (plN rows)).map V.ref)) := upd_same
  have hp2 := pats_same u2 (pairedDrop hps (plN rows))
  have s2 := s1.trans u2
  generalize upd H1 p (.lst ((ps.drop (plN rows)).map V.ref)) = H2 at u2 e2 hp2 s2 ⊢
  have big : 2000 ≤ sizeLine := by decide
  have ld1 : (ps.drop (plN rows)).length ≤ 500 := by rw [hp2.length, List.length_drop]; have := hF.lr; omega
  have lpb : pb.length ≤ 500 := by rw [hpb.length]; exact lrb
  refine ⟨b, p, _, _, rfl, rfl, s2 _ _ hb, e2, (by simp only [List.length_map]; omega), fun l3 hl3 => ?_⟩
  rw [← List.map_append]
  have u3 := same_new hl3 (.lst ((pb ++ ps.drop (plN rows)).map V.ref))
  have e3 : upd H2 l3 (.lst ((pb ++ ps.drop (plN rows)).map V.ref)) l3 = some (.lst ((pb ++ ps.drop (plN rows)).map V.ref)) := upd_same
  have hq : Paired (PAt c H2) (pb ++ ps.drop (plN rows)) (rb ++ rows.drop (plN rows)) := paired_app (pats_same s2 hpb) hp2
  have hq3 := pats_same u3 hq
  have s3 := s2.trans u3
  show tSeq _ _ _ _ (upd H2 l3 (.lst ((pb ++ ps.drop (plN rows)).map V.ref)))
  generalize upd H2 l3 (.lst ((pb ++ ps.drop (plN rows)).map V.ref)) = H3 at u3 e3 hq3 s3 ⊢
  have lq : (pb ++ ps.drop (plN rows)).length ≤ 1000 := by rw [List.length_append]; omega
  have rk : ∀ r ∈ rb ++ rows.drop (plN rows), r.ok := fun r h => (List.mem_append.mp h).elim (rbk r) fun h => hF.ok r (List.mem_of_mem_drop h)
  clear hq
  generalize pb ++ ps.drop (plN rows) = pq at e3 hq3 lq
  generalize rb ++ rows.drop (plN rows) = rs at hq3 rk q
  have lrs := hq3.length
  refine ⟨_, rfl, l3, rfl, ⟨_, SqL.of e3⟩, fun D hD => ?_⟩
  refine lc_list (K := K) (xs := pq.map V.ref) (fun i ys H' => ∃ vs, ys = vs.map V.ref ∧ Same H3 H' ∧ H' D = some (.lst ys) ∧ Paired (PAt c H') vs (tagsR names (rs.take i))) ⟨[], rfl, same_new hD _, upd_same, .nil⟩ (fun i ys H' ⟨_, _, h, _⟩ => SqL.of (h _ _ e3)) ?_ ?_
  · rintro i x ys H' hlt hx ⟨vs, rfl, sH, hDy, hv⟩
    obtain ⟨pa, hpa, rfl⟩ := refs_at hx
    obtain ⟨r, hr', dx', hdx⟩ := paired_at hq3 hpa
    have rok := rk r (List.mem_of_getElem? hr')
    have C := PP r.k rok.1
    have hd3 := sH _ _ hdx
    have tk := tagsR_snoc (names := names) hr'
    have lv : vs.length ≤ i := by
      rw [hv.length]
      refine Nat.le_trans (tagsR_len _ _) ?_
      rw [List.length_take]
      omega
    have hn : H' a = some (.lst (names.map V.str)) := sH _ _ (s3 _ _ ha)
    refine ⟨_, rfl, pa, _, dx', _, rfl, ⟨r.k, rok.1, rfl⟩, hd3, pf_no (by decide +kernel) (by decide +kernel) (by decide +kernel), pa, dx', _, _, _, _, rfl, C, hd3, _, rfl, ?_⟩
    rw [in_nm r.k rok.1]
    cases eb : byNm r.k with
    | false =>
      rw [eb, Bool.false_and, if_neg Bool.false_ne_true, List.append_nil] at tk
      refine iteF ?_
      exact ⟨fun e => Bool.noConfusion e, fun _ => lcS.mk hlt ⟨vs, rfl, sH, hDy, by rw [tk]; exact hv⟩⟩
    | true =>
      rw [eb, Bool.true_and] at tk
      refine iteT ?_
      refine ⟨_, rfl, pa, _, dx', _, _, rfl, hd3, C.cl, C.nN, pf_name, _, rfl, a, _, rfl, .inl (SqL.of hn), rfl, flatStrs, _, rfl, ?_⟩
      rw [show (if true = true then !inV (V.str r.z) (names.map V.str) else inV (V.str r.z) (names.map V.str)) = !decide (r.z ∈ names) from by rw [if_pos rfl, inStrs]]
      refine ⟨fun e => ?_, fun e => ?_⟩
      · rw [e, if_pos rfl] at tk
        refine ⟨_, rfl, pa, _, dx', _, _, rfl, hd3, C.cl, C.nN, pf_name, _, rfl, pa, _, dx', _, rfl, ⟨r.k, rok.1, rfl⟩, hd3, pf_no (by decide +kernel) (by decide +kernel) (by decide +kernel), pa, dx', _, _, _, _, rfl, C, hd3, ?_⟩
        intro xt dxt hxt hdt hnt
        refine ⟨xt, dxt, .str r.z, fr r.k r.b, rfl, upd_same, .inl ⟨r.z, rfl, nameB_ok rok.2⟩, fun _ H4 s4 => ⟨rfl, ?_⟩, fun e => absurd (show nameB r.z = false from e) (by rw [rok.2]; decide)⟩
        have s5 : Same H' (upd H4 xt (.ins c.c3 dxt (pf "tag" (.str r.z) (fr r.k r.b)))) := same_after hxt hdt s4
        have e5 : PAt c (upd H4 xt (.ins c.c3 dxt (pf "tag" (.str r.z) (fr r.k r.b)))) xt ⟨3, r.z, fr r.k r.b⟩ := ⟨dxt, upd_same⟩
        generalize upd H4 xt (.ins c.c3 dxt (pf "tag" (.str r.z) (fr r.k r.b))) = H5 at s5 e5 ⊢
        have hDy5 := s5 _ _ hDy
        refine lcN.mk hlt (le1000 (by rw [List.length_map]; exact lq)) hDy5 (by rw [List.length_map]; exact lv) ⟨vs ++ [xt], by rw [List.map_append]; rfl, fun b' u' e' => ?_, upd_same, ?_⟩
        · rw [upd_ne (ne_of_none e' hD)]
          exact s5 _ _ (sH _ _ e')
        · rw [tk]
          exact Paired.snoc (Paired.imp' (fun _ _ z => pat_upd (z.same s5) hDy5) hv) (pat_upd e5 hDy5)
      · rw [e, if_neg Bool.false_ne_true, List.append_nil] at tk
        exact lcS.mk hlt ⟨vs, rfl, sH, hDy, by rw [tk]; exact hv⟩
  · rintro ys H' ⟨vs, rfl, sH, hDy, hv⟩
    rw [List.length_map, lrs, List.take_length] at hv
    exact q D H' (s3.trans sH) ⟨vs, s3.free hD, hDy, hv⟩
end
end K65

set_option Elab.async false
set_option linter.all false
set_option maxRecDepth 100000
set_option maxHeartbeats 4000000
namespace K65
open PySem L2 PyProof.Rows
def stuck (r : Rw) : Bool := !byNm r.k && !fr r.k r.b
def plR (rows : List Rw) : List Rw := rows.take (plN rows)
def leftR (rows : List Rw) (names : List Str) (many st : Nat) : List Rw := ((plR rows).drop many).take (st - many) ++ [] ++ tagsR names ((plR rows).drop st ++ rows.drop (plN rows)) ++ bagR rows
def leftB (rows : List Rw) (bars names : List Str) (many : Nat) : List Str := bars ++ (((plR rows).take many).filter fun r => byNm r.k).map (·.z) ++ names
def spLeftB (c : C5) (CF : Addr) : Sp := fun vs H Q _ => ∃ (f a : Addr) (many st : Nat) (rows : List Rw) (bars names : List Str), vs = [.ref f, .int (many : Nat), .ref a] ∧ FormOk c CF H f rows bars ∧ H a = some (.lst (names.map V.str)) ∧ names.length ≤ 100 ∧ fbF names 0 (plR rows) = some st ∧ many ≤ st ∧ rows.length ≤ 400 ∧
  (((plR rows).drop st).any stuck = true → ∀ H', Same H H' → Q .non H') ∧ (((plR rows).drop st).any stuck = false → ∀ (g : Addr) (H' : Hp), Same H H' → H g = none → FormAt c CF H' g (leftR rows names many st) (leftB rows bars names many) → Q (.ref g) H')
theorem cut_mid {xs : List V} {a b : Nat} (h : a ≤ b) (hb : b ≤ xs.length) : cutV xs (some (a : Int)) (some (b : Int)) = (xs.drop a).take (b - a) := by
  unfold cutV
  rw [HT.sIx_nat, HT.sIx_nat, Nat.min_eq_left hb, Nat.min_eq_left (Nat.le_trans h hb)]
theorem fb_lt {names : List Str} : ∀ (rows : List Rw) (i j : Nat), fbF names i rows = some j → i ≤ j ∧ j < i + rows.length
  | [], _, _, h => by cases h
  | r :: rs, i, j, h => by
    unfold fbF at h
    split at h
    · cases h; simp
    · have := fb_lt rs (i + 1) j h
      simp only [List.length_cons]
      omega
section
variable {P : Program} {w : World} {K : PySem.W.Frag} {mg : Str → Option Value} {base : Heap} {f CF N : Addr} {fd : FuncData} {c : C5} {m : MA}
theorem ndO1 : ([Str.ofString "one"] : List Str).Nodup := by decide +kernel
theorem scLeftB : FnScope ["form", "many", "names", "stop", "places", "beyond", "row", "placed"] ["form", "many", "names"] (defScope sLeftB) := ⟨rfl, rfl, rfl, by decide +kernel, rfl, by decide +kernel, by decide +kernel⟩
theorem ok_leftB {gP gL gB g1 g2 g3 g4 g5 : Addr} {eP eL eB d1 d2 d3 d4 d5 gb gf : FuncData} (F : Fun K "left_behind" "left_behind" sLeftB f fd) (hany : mg "any" = none) (FK : FC K CF) (PP : Pcs K m c) (mP : Meth K CF "parameters" gP) (GP : FnOk P w K mg base CX0 1 gP eP ["self"] (spPars c CF)) (bP : Binds K eP ["self"] []) (mL : Meth K CF "places" gL) (GL : FnOk P w K mg base CX0 1 gL eL ["self"] (spPlaces c CF)) (bL : Binds K eL ["self"] [])
    (mB : Meth K CF "bars" gB) (GB : FnOk P w K mg base CX0 1 gB eB ["self"] (spBars c CF)) (bB : Binds K eB ["self"] []) (GN : FnOk P w K mg base CX0 1 m.fB gb ["self"] (spIn K m bnL)) (bN : Binds K gb ["self"] []) (GF : FnOk P w K mg base CX0 1 m.fF gf ["self"] (spFree K m)) (bF : Binds K gf ["self"] [])
    (c1 : Callee P w K mg base 2 "first_both" g1 d1 ["form", "names"] (spFB c CF)) (c2 : Callee P w K mg base 2 "tail_left" g2 d2 ["form", "stop"] (spTailL c CF)) (c3 : Callee P w K mg base 5 "tags_left" g3 d3 ["form", "beyond", "names"] (spTagsL c CF)) (c4 : Callee P w K mg base 2 "bag_of" g4 d4 ["form"] (spBagOf c CF)) (c5 : Callee P w K mg base 5 "told_form" g5 d5 ["parameters", "bars"] (spToldF c CF)) :
    FnOk P w K mg base CX0 6 f fd ["form", "many", "names"] (spLeftB c CF) := by
  refine F.ok scLeftB (fun vs H Q E h => ?_) (fun cdv A outer s H vs Q E hr h => ?_)
  · obtain ⟨f, a, many, st, rows, bars, names, rfl, _⟩ := h
    rfl
  obtain ⟨f, a, many, st, rows, bars, names, rfl, hF, ha, ln, hst, hms, ls, qn, qy⟩ := h
  have hr1 : Room 1 _ := hr.mono (by decide)
  have hr2 : Room 2 _ := hr.mono (by decide)
  have hB : ∀ C, Cs5 c C → Cls K C ∧ Meth K C "by_name" m.fB := fun C ⟨k, hk, e⟩ => by rw [e]; exact ⟨(PP k hk).cl, (PP k hk).mB⟩
  have hFr : ∀ C, Cs5 c C → Cls K C ∧ Meth K C "free" m.fF := fun C ⟨k, hk, e⟩ => by rw [e]; exact ⟨(PP k hk).cl, (PP k hk).mF⟩
  refine ⟨_, pss_cons (ps_set (i := 3) scLeftB.nd rfl (Or.inl rfl) (cF c1 hr2 (ac (pv 0) (ac (pv 2) pa_nil))))
    (pss_cons (ps_set (i := 4) scLeftB.nd rfl (Or.inl rfl) (pe_slice sl_list (pe_meth0 (pv 0) FK.cl mP GP hr1 bP .nil pass0) po_none (po_some (pe_meth0 (pv 0) FK.cl mL GL hr1 bL .nil pass0))))
    (pss_cons (ps_set (i := 5) scLeftB.nd rfl (Or.inl rfl) (pe_ifExp (pt_cmp (pc_isN (pv 3))) (pe_lst pa_nil) (pe_slice sl_list (pv 4) (po_some (pv 3)) po_none)))
    (pss_cons (ps_if (pt_val (cB (call_anyB rfl) hany PyProof.Rows.boot_any (ac (pe_lc [] ["one"] [none] rfl ⟨rfl, rfl, rfl, rfl⟩ (pi_list (pv 5)) (gown_name 0) rfl rfl rfl
        (fun pins fp s H C => ⟨pg_name (i := 0) ndO1 rfl (Or.inl rfl) (.inr rfl), pif_nil, pe_and (pe_not (pe_methP (pv 0) hB GN hr1 bN pass0)) (pe_one (pe_not (pe_methP (pv 0) hFr GF hr1 bF pass0)))⟩)) pa_nil))) (pss_one (ps_ret pe_non)) pss_nil)
    (pss_cons (ps_set (i := 6) scLeftB.nd rfl (Or.inl rfl) (pe_op op_cat (pe_op op_cat (pe_op op_cat (pe_slice sl_list (pv 4) (po_some (pv 1)) (po_some (pv 3))) (cF c2 hr2 (ac (pv 0) (ac (pv 3) pa_nil)))) (cF c3 hr (ac (pv 0) (ac (pv 5) (ac (pv 2) pa_nil))))) (cF c4 hr2 (ac (pv 0) pa_nil))))
    (pss_cons (ps_lc (i := 7) [] ["one"] [none] scLeftB.nd rfl (Or.inl rfl) rfl ⟨rfl, rfl, rfl, rfl⟩ (pi_list (pe_slice sl_list (pv 4) po_none (po_some (pv 1)))) (gown_name 0) rfl rfl rfl
        (fun pins fp s H C => ⟨pg_name (i := 0) ndO1 rfl (Or.inl rfl) (.inr rfl), pif_one (pt_val (pe_methP (pv 0) hB GN hr1 bN pass0)), pe_fldK (K := K) rfl (pv 0) rfl⟩))
    (pss_one (ps_ret (cF c5 hr (ac (pv 6) (ac (pe_op op_cat (pe_op op_cat (pe_meth0 (pv 0) FK.cl mB GB hr1 bB .nil pass0) (pv 7)) (pv 2)) pa_nil)))))))))), ?_⟩
  obtain ⟨dx, fs, lr, lb, ld, ps0, h1, h2, h3, h4, h5, h6⟩ := id hF.at_
  have nmL : fs.lookup ("places" : Str) = none := h2.no _ (by decide +kernel)
  have nmP : fs.lookup ("parameters" : Str) = none := h2.no _ (by decide +kernel)
  have nmB : fs.lookup ("bars" : Str) = none := h2.no _ (by decide +kernel)
  have hst' : fbF names 0 (rows.take (plN rows)) = some st := hst
  refine ⟨_, rfl, _, rfl, f, a, rows, bars, names, rfl, hF, ha, fun H1 s1 => ?_⟩
  rw [hst']
  refine ⟨_, rfl, f, dx, fs, rfl, s1 _ _ h1, nmP, f, rows, bars, rfl, hF.at_.same s1, fun lp ps H2 u2 np ep hps => ?_⟩
  have s2 := s1.trans u2
  refine ⟨_, rfl, f, dx, fs, rfl, s2 _ _ h1, nmL, f, rows, bars, rfl, hF.at_.same s2, _, rfl, lp, _, rfl, SqL.of ep, fun p hp => ?_⟩
  rw [cut_takeN, ← List.map_take]
  have u3 := same_new hp (.lst ((ps.take (plN rows)).map V.ref))
  have e3 : upd H2 p (.lst ((ps.take (plN rows)).map V.ref)) p = some (.lst ((ps.take (plN rows)).map V.ref)) := upd_same
  have hq3 : Paired (PAt c (upd H2 p (.lst ((ps.take (plN rows)).map V.ref)))) (ps.take (plN rows)) (plR rows) := pats_same u3 (pairedTake hps (plN rows))
  have s3 := s2.trans u3
  show tSeq _ _ _ _ (upd H2 p (.lst ((ps.take (plN rows)).map V.ref)))
  generalize upd H2 p (.lst ((ps.take (plN rows)).map V.ref)) = H3 at u3 e3 hq3 s3 ⊢
  generalize ps.take (plN rows) = pq at e3 hq3
  have lpl : (plR rows).length ≤ 500 := by unfold plR; rw [List.length_take]; have := hF.lr; omega
  have lpq : pq.length = (plR rows).length := hq3.length
  have rk : ∀ r ∈ plR rows, r.ok := fun r h => hF.ok r (List.mem_of_mem_take h)
  have big : 4000 ≤ sizeLine := by decide
  -- beyond
  refine ⟨_, rfl, _, rfl, ?_⟩
  refine dF (by intro z; cases z) ?_
  refine ⟨_, rfl, _, rfl, _, rfl, p, _, rfl, SqL.of e3, fun pb hpb => ?_⟩
  rw [cut_dropN, ← List.map_drop]
  have u4 := same_new hpb (.lst ((pq.drop st).map V.ref))
  have e4 : upd H3 pb (.lst ((pq.drop st).map V.ref)) pb = some (.lst ((pq.drop st).map V.ref)) := upd_same
  have hb4 : Paired (PAt c (upd H3 pb (.lst ((pq.drop st).map V.ref)))) (pq.drop st) ((plR rows).drop st) := pats_same u4 (pairedDrop hq3 st)
  have s4 := s3.trans u4
  show tSeq _ _ _ _ (upd H3 pb (.lst ((pq.drop st).map V.ref)))
  generalize upd H3 pb (.lst ((pq.drop st).map V.ref)) = H4 at u4 e4 hb4 s4 ⊢
  have rkb : ∀ r ∈ (plR rows).drop st, r.ok := fun r h => rk r (List.mem_of_mem_drop h)
  have lbq := hb4.length
  have lbd : (pq.drop st).length ≤ 500 := by rw [List.length_drop]; omega
  -- any
  refine ⟨_, rfl, pb, rfl, ⟨_, SqL.of e4⟩, fun D hD => ?_⟩
  refine lc_list (K := K) (xs := (pq.drop st).map V.ref) (fun i ys H' => Same H4 H' ∧ H' D = some (.lst ys) ∧ ys = ((((plR rows).drop st).take i).map stuck).map V.bl) ⟨same_new hD _, upd_same, rfl⟩ (fun i ys H' h => SqL.of (h.1 _ _ e4)) ?_ ?_
  · rintro i x ys H' hlt hx ⟨sH, hDy, ey⟩
    obtain ⟨pa, hpa, rfl⟩ := refs_at hx
    obtain ⟨r, hr', dx', hdx⟩ := paired_at hb4 hpa
    have rok := rkb r (List.mem_of_getElem? hr')
    have C := PP r.k rok.1
    have hd3 := sH _ _ hdx
    have hi : i < ((plR rows).drop st).length := (List.getElem?_eq_some_iff.mp hr').1
    have er : ((plR rows).drop st)[i] = r := by rw [List.getElem?_eq_getElem hi] at hr'; exact Option.some.inj hr'
    have tk : (((plR rows).drop st).take (i + 1)).map stuck = (((plR rows).drop st).take i).map stuck ++ [stuck r] := by
      rw [List.take_succ_eq_append_getElem hi, List.map_append, er]
      rfl
    have fin : lcN ((pq.drop st).map V.ref).length i D (fun i ys H' => Same H4 H' ∧ H' D = some (.lst ys) ∧ ys = ((((plR rows).drop st).take i).map stuck).map V.bl) ys (.bl (stuck r)) H' := by
      refine lcN.mk hlt (le1000 (by rw [List.length_map]; omega)) hDy (by rw [ey, List.length_map, List.length_map, List.length_take]; omega) ⟨fun b' u' e' => ?_, upd_same, ?_⟩
      · rw [upd_ne (ne_of_none e' hD)]
        exact sH _ _ e'
      · rw [ey, tk, List.map_append]
        rfl
    refine ⟨fun _ => ?_, fun e => Bool.noConfusion e⟩
    refine ⟨_, rfl, pa, _, dx', _, rfl, ⟨r.k, rok.1, rfl⟩, hd3, pf_no (by decide +kernel) (by decide +kernel) (by decide +kernel), pa, dx', _, _, _, _, rfl, C, hd3, _, rfl, _, rfl, ?_⟩
    rw [in_nm r.k rok.1]
    unfold stuck at fin
    cases eb : byNm r.k with
    | true =>
      rw [eb] at fin
      refine iteF ?_
      exact fin
    | false =>
      rw [eb] at fin
      refine iteT ?_
      exact ⟨_, rfl, pa, _, dx', _, rfl, ⟨r.k, rok.1, rfl⟩, hd3, pf_no (by decide +kernel) (by decide +kernel) (by decide +kernel), pa, dx', _, _, _, _, rfl, C, hd3, _, rfl, fin⟩
  rintro ys H5 ⟨u5, hDy5, ey⟩
  rw [List.length_map, lbq, List.take_length] at ey
  subst ey
  refine ⟨D, _, rfl, SqL.of hDy5, _, rfl, ?_⟩
  have s5 := s4.trans u5
  have eany : (((plR rows).drop st).map stuck).any id = ((plR rows).drop st).any stuck := by rw [List.any_map]; rfl
  rw [eany]
  refine ite2 (fun c1' => ?_) (fun c1' => ?_)
  · exact qn c1' _ s5
  have cf : ((plR rows).drop st).any stuck = false := by
    cases e : ((plR rows).drop st).any stuck with
    | false => rfl
    | true => exact absurd e c1'
  have qy := qy cf
  have v35 : Same H3 H5 := u4.trans u5
  -- row
  have hst2 : st ≤ pq.length := by
    have := (fb_lt (plR rows) 0 st hst).2
    omega
  refine ⟨_, rfl, _, rfl, _, rfl, _, rfl, _, rfl, p, _, rfl, SqL.of (v35 _ _ e3), fun p6 hp6 => ?_⟩
  rw [cut_mid hms (by rw [List.length_map]; exact hst2), ← List.map_drop, ← List.map_take]
  have u6 := same_new hp6 (.lst (((pq.drop many).take (st - many)).map V.ref))
  have e6 : upd H5 p6 (.lst (((pq.drop many).take (st - many)).map V.ref)) p6 = some (.lst (((pq.drop many).take (st - many)).map V.ref)) := upd_same
  have q6 : Paired (PAt c (upd H5 p6 (.lst (((pq.drop many).take (st - many)).map V.ref)))) ((pq.drop many).take (st - many)) (((plR rows).drop many).take (st - many)) := pats_same (v35.trans u6) (pairedTake (pairedDrop hq3 many) (st - many))
  have s6 := s5.trans u6
  generalize upd H5 p6 (.lst (((pq.drop many).take (st - many)).map V.ref)) = H6 at u6 e6 q6 s6 ⊢
  have l6 : ((pq.drop many).take (st - many)).length ≤ 500 := by rw [List.length_take, List.length_drop]; omega
  refine ⟨_, rfl, _, rfl, f, some st, rows, bars, rfl, hF.same s6, fun l7 H7 u7 ⟨ps7, n7, e7, q7⟩ => ?_⟩
  have q7 : Paired (PAt c H7) ps7 [] := q7
  cases q7
  have s7 := s6.trans u7
  refine ⟨p6, l7, _, _, rfl, rfl, u7 _ _ e6, e7, (by simp only [List.length_map]; show _ + 0 ≤ _; omega), fun p8 hp8 => ?_⟩
  rw [← List.map_append]
  have u8 := same_new hp8 (.lst (((pq.drop many).take (st - many) ++ []).map V.ref))
  have e8 : upd H7 p8 (.lst (((pq.drop many).take (st - many) ++ []).map V.ref)) p8 = some (.lst (((pq.drop many).take (st - many) ++ []).map V.ref)) := upd_same
  have q8 : Paired (PAt c (upd H7 p8 (.lst (((pq.drop many).take (st - many) ++ []).map V.ref)))) ((pq.drop many).take (st - many) ++ []) (((plR rows).drop many).take (st - many) ++ []) := paired_app (pats_same (u7.trans u8) q6) .nil
  have s8 := s7.trans u8
  generalize upd H7 p8 (.lst (((pq.drop many).take (st - many) ++ []).map V.ref)) = H8 at u8 e8 q8 s8 ⊢
  have v48 : Same H4 H8 := u5.trans (u6.trans (u7.trans u8))
  refine ⟨_, rfl, _, rfl, _, rfl, f, pb, a, pq.drop st, rows, (plR rows).drop st, bars, names, rfl, hF.same s8, v48 _ _ e4, pats_same v48 hb4, rkb, by rw [← lbq]; exact lbd, s8 _ _ ha, fun l9 H9 u9 ⟨ps9, n9, e9, q9⟩ => ?_⟩
  have s9 := s8.trans u9
  have l9' : ps9.length ≤ 1000 := by
    rw [q9.length]
    refine Nat.le_trans (tagsR_len _ _) ?_
    rw [List.length_append, List.length_drop, List.length_drop]
    have := hF.lr
    omega
  refine ⟨p8, l9, _, _, rfl, rfl, u9 _ _ e8, e9, (by simp only [List.length_map, List.length_append, List.length_nil]; omega), fun p10 hp10 => ?_⟩
  rw [← List.map_append]
  have u10 := same_new hp10 (.lst (((pq.drop many).take (st - many) ++ [] ++ ps9).map V.ref))
  have e10 : upd H9 p10 (.lst (((pq.drop many).take (st - many) ++ [] ++ ps9).map V.ref)) p10 = some (.lst (((pq.drop many).take (st - many) ++ [] ++ ps9).map V.ref)) := upd_same
  have q10 := paired_app (pats_same (u9.trans u10) q8) (pats_same u10 q9)
  have s10 := s9.trans u10
  generalize upd H9 p10 (.lst (((pq.drop many).take (st - many) ++ [] ++ ps9).map V.ref)) = H10 at u10 e10 q10 s10 ⊢
  refine ⟨_, rfl, f, rows, bars, rfl, hF.same s10, fun l11 H11 u11 ⟨ps11, n11, e11, q11⟩ => ?_⟩
  have s11 := s10.trans u11
  have lbag : (bagR rows).length ≤ 1 := by
    unfold bagR
    split
    · exact Nat.zero_le _
    · rw [List.length_take]; omega
  have l11' : ps11.length ≤ 1 := by rw [q11.length]; exact lbag
  refine ⟨p10, l11, _, _, rfl, rfl, u11 _ _ e10, e11, (by simp only [List.length_map, List.length_append, List.length_nil]; omega), fun p12 hp12 => ?_⟩
  rw [← List.map_append]
  have u12 := same_new hp12 (.lst (((pq.drop many).take (st - many) ++ [] ++ ps9 ++ ps11).map V.ref))
  have e12 : upd H11 p12 (.lst (((pq.drop many).take (st - many) ++ [] ++ ps9 ++ ps11).map V.ref)) p12 = some (.lst (((pq.drop many).take (st - many) ++ [] ++ ps9 ++ ps11).map V.ref)) := upd_same
  have q12 : Paired (PAt c (upd H11 p12 (.lst (((pq.drop many).take (st - many) ++ [] ++ ps9 ++ ps11).map V.ref)))) ((pq.drop many).take (st - many) ++ [] ++ ps9 ++ ps11) (leftR rows names many st) := paired_app (pats_same (u11.trans u12) q10) (pats_same u12 q11)
  have s12 := s11.trans u12
  show tSeq _ _ _ _ (upd H11 p12 (.lst (((pq.drop many).take (st - many) ++ [] ++ ps9 ++ ps11).map V.ref)))
  have lps : ((pq.drop many).take (st - many) ++ [] ++ ps9 ++ ps11).length ≤ 1501 := by simp only [List.length_append, List.length_nil]; omega
  generalize upd H11 p12 (.lst (((pq.drop many).take (st - many) ++ [] ++ ps9 ++ ps11).map V.ref)) = H12 at u12 e12 q12 s12 ⊢
  generalize (pq.drop many).take (st - many) ++ [] ++ ps9 ++ ps11 = pz at e12 q12 lps
  have v312 : Same H3 H12 := v35.trans (u6.trans (u7.trans (u8.trans (u9.trans (u10.trans (u11.trans u12))))))
  -- placed
  refine ⟨_, rfl, _, rfl, _, rfl, p, _, rfl, SqL.of (v312 _ _ e3), fun p13 hp13 => ?_⟩
  rw [cut_takeN, ← List.map_take]
  have u13 := same_new hp13 (.lst ((pq.take many).map V.ref))
  have e13 : upd H12 p13 (.lst ((pq.take many).map V.ref)) p13 = some (.lst ((pq.take many).map V.ref)) := upd_same
  have q13 : Paired (PAt c (upd H12 p13 (.lst ((pq.take many).map V.ref)))) (pq.take many) ((plR rows).take many) := pats_same (v312.trans u13) (pairedTake hq3 many)
  have s13 := s12.trans u13
  generalize upd H12 p13 (.lst ((pq.take many).map V.ref)) = H13 at u13 e13 q13 s13 ⊢
  have l13 : (pq.take many).length ≤ 500 := by rw [List.length_take]; omega
  refine ⟨p13, rfl, ⟨_, SqL.of e13⟩, fun D14 hD14 => ?_⟩
  refine lc_list (K := K) (xs := (pq.take many).map V.ref) (fun i ys H' => Same H13 H' ∧ H' D14 = some (.lst ys) ∧ ys = (((((plR rows).take many).take i).filter fun r => byNm r.k).map (·.z)).map V.str) ⟨same_new hD14 _, upd_same, rfl⟩ (fun i ys H' h => SqL.of (h.1 _ _ e13)) ?_ ?_
  · rintro i x ys H' hlt hx ⟨sH, hDy, ey⟩
    obtain ⟨pa, hpa, rfl⟩ := refs_at hx
    obtain ⟨r, hr', dx', hdx⟩ := paired_at q13 hpa
    have rok := rk r (List.mem_of_mem_take (List.mem_of_getElem? hr'))
    have C := PP r.k rok.1
    have hd3 := sH _ _ hdx
    have tk : ((((plR rows).take many).take (i + 1)).filter fun r => byNm r.k).map (·.z) = ((((plR rows).take many).take i).filter fun r => byNm r.k).map (·.z) ++ (if byNm r.k = true then [r.z] else []) := by
      rw [List.take_add_one, hr', List.filter_append, List.map_append]
      congr 1
      show List.map _ (List.filter _ [r]) = _
      cases e : byNm r.k <;> simp [List.filter, e]
    have nl : ys.length ≤ i := by
      rw [ey, List.length_map, List.length_map]
      refine Nat.le_trans (List.length_filter_le _ _) ?_
      rw [List.length_take]
      omega
    refine ⟨_, rfl, pa, _, dx', _, rfl, ⟨r.k, rok.1, rfl⟩, hd3, pf_no (by decide +kernel) (by decide +kernel) (by decide +kernel), pa, dx', _, _, _, _, rfl, C, hd3, _, rfl, ?_⟩
    rw [in_nm r.k rok.1]
    refine ⟨fun e => ?_, fun e => ?_⟩
    · rw [e, if_pos rfl] at tk
      refine ⟨_, rfl, pa, _, dx', _, _, rfl, hd3, C.cl, C.nN, pf_name, ?_⟩
      refine lcN.mk hlt (le1000 (by rw [List.length_map]; omega)) hDy nl ⟨fun b' u' e' => ?_, upd_same, ?_⟩
      · rw [upd_ne (ne_of_none e' hD14)]
        exact sH _ _ e'
      · rw [ey, tk, List.map_append]
        rfl
    · rw [e, if_neg Bool.false_ne_true, List.append_nil] at tk
      exact lcS.mk hlt ⟨sH, hDy, by rw [ey, tk]⟩
  rintro ys H14 ⟨u14, hDy14, ey⟩
  have e15 : ys = ((((plR rows).take many).filter fun r => byNm r.k).map (·.z)).map V.str := by
    rw [ey, List.length_map, q13.length, List.take_length]
  subst e15
  have s14 := s13.trans u14
  have lpd : ((((plR rows).take many).filter fun r => byNm r.k).map (·.z)).length ≤ 500 := by
    rw [List.length_map]
    refine Nat.le_trans (List.length_filter_le _ _) ?_
    rw [List.length_take]
    omega
  refine ⟨_, rfl, _, rfl, f, dx, fs, rfl, s14 _ _ h1, nmB, f, rows, bars, rfl, hF.at_.same s14, fun l16 H16 u16 n16 e16 => ?_⟩
  have s16 := s14.trans u16
  have lb5 := hF.lb
  refine ⟨_, rfl, l16, D14, _, _, rfl, rfl, e16, u16 _ _ hDy14, (by simp only [List.length_map]; simp only [List.length_map] at lpd; omega), fun p17 hp17 => ?_⟩
  rw [← List.map_append]
  have u17 := same_new hp17 (.lst ((bars ++ (((plR rows).take many).filter fun r => byNm r.k).map (·.z)).map V.str))
  have e17 : upd H16 p17 (.lst ((bars ++ (((plR rows).take many).filter fun r => byNm r.k).map (·.z)).map V.str)) p17 = some (.lst ((bars ++ (((plR rows).take many).filter fun r => byNm r.k).map (·.z)).map V.str)) := upd_same
  have s17 := s16.trans u17
  generalize upd H16 p17 (.lst ((bars ++ (((plR rows).take many).filter fun r => byNm r.k).map (·.z)).map V.str)) = H17 at u17 e17 s17 ⊢
  refine ⟨_, rfl, p17, a, _, _, rfl, rfl, e17, s17 _ _ ha, (by simp only [List.length_map, List.length_append]; simp only [List.length_map] at lpd; omega), fun p18 hp18 => ?_⟩
  rw [← List.map_append]
  have u18 := same_new hp18 (.lst ((leftB rows bars names many).map V.str))
  have v1218 : Same H12 (upd H17 p18 (.lst ((leftB rows bars names many).map V.str))) := u13.trans (u14.trans (u16.trans (u17.trans u18)))
  have rkl : ∀ r ∈ leftR rows names many st, r.ok := fun r h => by
    unfold leftR at h
    simp only [List.append_nil, List.mem_append] at h
    rcases h with (h | h) | h
    · exact rk r (List.mem_of_mem_drop (List.mem_of_mem_take h))
    · unfold tagsR at h
      obtain ⟨r', h', rfl⟩ := List.mem_map.mp h
      have hr' := (List.mem_filter.mp h').1
      rcases List.mem_append.mp hr' with h'' | h''
      · exact ⟨by show 3 < 5; decide, (rkb r' h'').2⟩
      · exact ⟨by show 3 < 5; decide, (hF.ok r' (List.mem_of_mem_drop h'')).2⟩
    · unfold bagR at h
      split at h
      · cases h
      · exact hF.ok r (List.mem_of_mem_drop (List.mem_of_mem_take h))
  have lplN : plN rows ≤ rows.length := List.length_filter_le _ _
  have epl : (plR rows).length = plN rows := by unfold plR; rw [List.length_take]; omega
  have ll : (leftR rows names many st).length ≤ 500 := by
    unfold leftR
    have ht := tagsR_len names ((plR rows).drop st ++ rows.drop (plN rows))
    simp only [List.length_append, List.length_drop, List.length_take, List.length_nil] at ht ⊢
    omega
  refine ⟨p12, p18, pz, leftR rows names many st, leftB rows bars names many, rfl, v1218 _ _ e12, pats_same v1218 q12, rkl, ll, upd_same, fun g H19 u19 ng hg => ?_⟩
  exact qy g H19 (s17.trans (u18.trans u19)) ((s17.trans u18).free ng) hg
end
end K65

set_option Elab.async false
set_option linter.all false
set_option maxRecDepth 100000
set_option maxHeartbeats 4000000
namespace K65
open PySem L2 PyProof.Rows
/-! ### parts -/
def ptF (f l1 l2 : Addr) : List (Str × V) := putF "pairs" (.ref l2) (putF "things" (.ref l1) (putF "kept_form" (.ref f) []))
theorem pt_kept {f l1 l2 : Addr} : (ptF f l1 l2).lookup ("kept_form" : Str) = some (.ref f) := by
  unfold ptF
  rw [lookup_putF, if_neg (by decide +kernel), lookup_putF, if_neg (by decide +kernel), lookup_putF, if_pos rfl]
theorem pt_things {f l1 l2 : Addr} : (ptF f l1 l2).lookup ("things" : Str) = some (.ref l1) := by
  unfold ptF
  rw [lookup_putF, if_neg (by decide +kernel), lookup_putF, if_pos rfl]
theorem pt_pairs {f l1 l2 : Addr} : (ptF f l1 l2).lookup ("pairs" : Str) = some (.ref l2) := by
  unfold ptF
  rw [lookup_putF, if_pos rfl]
theorem pt_no {f l1 l2 : Addr} {m : Str} (h1 : ¬ m = "kept_form") (h2 : ¬ m = "things") (h3 : ¬ m = "pairs") : (ptF f l1 l2).lookup m = none := by
  unfold ptF
  rw [lookup_putF, if_neg h3, lookup_putF, if_neg h2, lookup_putF, if_neg h1]
  rfl
def PtAt (K : PySem.W.Frag) (CP : Addr) (H : Hp) (p f : Addr) (ts : List Int) (ps : List (Str × Int)) : Prop :=
  ∃ dx l1 l2 ys, H p = some (.ins CP dx (ptF f l1 l2)) ∧ H l1 = some (.lst (ts.map V.int)) ∧ H l2 = some (.lst ys) ∧ Paired (Says K T' H 1) ys (ps.map pairD)
structure PtC (K : PySem.W.Frag) (CP : Addr) : Prop where
  cl : Cls K CP
  n1 : NoAttr K CP "kept_form"
  n2 : NoAttr K CP "things"
  n3 : NoAttr K CP "pairs"
def spPtI (K : PySem.W.Frag) (c : C5) (CF CP : Addr) : Sp := fun vs H Q _ => ∃ (p f a dx : Addr) (rows : List Rw) (bars : List Str) (ct : List Item), vs = [.ref p, .ref f, .ref a] ∧ H p = some (.ins CP dx []) ∧ FormOk c CF H f rows bars ∧ CallOk K H a ct ∧ (∀ m ∈ missC rows bars ct, m.1 = "lacking") ∧ ∀ H', SX p H H' → PtAt K CP H' p f (laidT ct) (laidP ct) → Q .non H'
def spWhole (K : PySem.W.Frag) (CP : Addr) : Sp := fun vs H Q _ => ∃ (p f a : Addr) (ts : List Int) (ps : List (Str × Int)) (ct : List Item), vs = [.ref p, .ref a] ∧ PtAt K CP H p f ts ps ∧ CallOk K H a ct ∧ ts.length + (laidT ct).length ≤ 400 ∧ ps.length + (laidP ct).length ≤ 400 ∧ ∀ (l : Addr) (H' : Hp), Same H H' → H l = none → CallOk K H' l (plain (ts ++ laidT ct) (ps ++ laidP ct)) → Q (.ref l) H'
theorem sqT_ins {K : PySem.W.Frag} {H : Hp} {p C dx : Addr} {fs : List (Str × V)} {o : HO} (hp : H p = some (.ins C dx fs)) {b : Addr} {zs : List V} (h : SqT K H b zs) : SqT K (upd H p o) b zs := by
  rcases h with (z | ⟨u, z⟩) | z
  · exact .inl (.inl (by rw [upd_ne (ne_of z hp (by intro e; cases e))]; exact z))
  · exact .inl (.inr ⟨u, by rw [upd_ne (ne_of z hp (by intro e; cases e))]; exact z⟩)
  · exact .inr z
theorem sqL_ins {K : PySem.W.Frag} {H : Hp} {p C dx : Addr} {fs : List (Str × V)} {o : HO} (hp : H p = some (.ins C dx fs)) {b : Addr} {zs : List V} (h : SqL K H b zs) : SqL K (upd H p o) b zs := by
  rcases h with (z | ⟨u, z⟩) | z
  · exact .inl (.inl (by rw [upd_ne (ne_of z hp (by intro e; cases e))]; exact z))
  · exact .inl (.inr ⟨u, by rw [upd_ne (ne_of z hp (by intro e; cases e))]; exact z⟩)
  · exact .inr z
theorem says_ins {K : PySem.W.Frag} {H : Hp} {p C dx : Addr} {fs : List (Str × V)} {o : HO} {n : Nat} {x : V} {d : Dt} (hp : H p = some (.ins C dx fs)) (h : Says K T' H n x d) : Says K T' (upd H p o) n x d :=
  h.frame (fun _ _ z => sqT_ins hp z) fun b _ _ z => ⟨True.intro, by rw [upd_ne (ne_of z hp (by intro e; cases e))]; exact z⟩
theorem CallOk.setp {K : PySem.W.Frag} {H : Hp} {p C dx a : Addr} {fs : List (Str × V)} {o : HO} {ct : List Item} (h : CallOk K H a ct) (hp : H p = some (.ins C dx fs)) : CallOk K (upd H p o) a ct := by
  obtain ⟨⟨xs, h1, h2⟩, l1, l2⟩ := h
  exact ⟨⟨xs, sqL_ins hp h1, Paired.imp' (fun _ _ z => says_ins hp z) h2⟩, l1, l2⟩
section
variable {P : Program} {w : World} {K : PySem.W.Frag} {mg : Str → Option Value} {base : Heap} {f CF CP N : Addr} {fd : FuncData} {c : C5} {m : MA}
theorem scPtI : FnScope ["self", "form", "call", "things", "pairs"] ["self", "form", "call"] (defScope sPtInit) := ⟨rfl, rfl, rfl, by decide +kernel, rfl, by decide +kernel, by decide +kernel⟩
theorem ok_ptI {g1 g2 : Addr} {d1 d2 : FuncData} (F : Fun K "__init__" "Part.__init__" sPtInit f fd) (PC' : PtC K CP) (c1 : Callee P w K mg base 6 "refuse_first_things" g1 d1 ["form", "call"] (spRFirst K c CF)) (c2 : Callee P w K mg base 1 "laid" g2 d2 ["call"] (spLaid K)) : FnOk P w K mg base CX0 7 f fd ["self", "form", "call"] (spPtI K c CF CP) := by
  refine F.ok scPtI (fun vs H Q E h => ?_) (fun cdv A outer s H vs Q E hr h => ?_)
  · obtain ⟨p, f, a, dx, rows, bars, ct, rfl, _⟩ := h
    rfl
  obtain ⟨p, f, a, dx, rows, bars, ct, rfl, hp, hF, hC, hm, q⟩ := h
  have hr1 : Room 1 _ := hr.mono (by decide)
  refine ⟨_, pss_cons (ps_expr (cF c1 hr (ac (pv 1) (ac (pv 2) pa_nil))))
    (pss_cons (ps_fld (pv 0) (pv 1) rfl)
    (pss_cons (ps_asg (cF c2 hr1 (ac (pv 2) pa_nil)) (pg_tup rfl (pgs_cons (pg_name (i := 3) scPtI.nd rfl (Or.inl rfl)) (pgs_cons (pg_name (i := 4) scPtI.nd rfl (Or.inl rfl)) pgs_nil))))
    (pss_cons (ps_fld (pv 0) (pv 3) rfl)
    (pss_one (ps_fld (pv 0) (pv 4) rfl))))), ?_⟩
  refine ⟨_, rfl, _, rfl, f, a, rows, bars, ct, rfl, hF, hC, hm, fun H1 s1 => ?_⟩
  refine ⟨_, rfl, _, rfl, p, CP, dx, _, rfl, s1 _ _ hp, PC'.cl, PC'.n1, (by show 0 + 1 ≤ 1000; decide), ?_⟩
  have hp1 := s1 _ _ hp
  have hC1 := (hC.same s1).setp (o := .ins CP dx (putF "kept_form" (.ref f) [])) hp1
  have x2 : SX p H (upd H1 p (.ins CP dx (putF "kept_form" (.ref f) []))) := (SX.refl.same s1).upd
  have p2 : upd H1 p (.ins CP dx (putF "kept_form" (.ref f) [])) p = some (.ins CP dx (putF "kept_form" (.ref f) [])) := upd_same
  show tSeq _ _ _ _ (upd H1 p (.ins CP dx (putF "kept_form" (.ref f) [])))
  generalize upd H1 p (.ins CP dx (putF "kept_form" (.ref f) [])) = H2 at hC1 x2 p2 ⊢
  obtain ⟨⟨xs, hx, hc⟩, lt, lp⟩ := hC1
  refine ⟨_, rfl, a, ct, xs, rfl, hx, hc, lt, lp, fun t H3 s3 ⟨l1, l2, ys, n1, n2, n12, nt, et, e1, e2, gp⟩ => ?_⟩
  refine ⟨t, _, rfl, SqT.of et, rfl, _, _, rfl, _, _, rfl, rfl, ?_⟩
  have p3 := s3 _ _ p2
  refine ⟨_, rfl, _, rfl, p, CP, dx, _, rfl, p3, PC'.cl, PC'.n2, (by show 1 + 1 ≤ 1000; decide), ?_⟩
  have x4 : SX p H (upd H3 p (.ins CP dx (putF "things" (.ref l1) (putF "kept_form" (.ref f) [])))) := (x2.same s3).upd
  have p4 : upd H3 p (.ins CP dx (putF "things" (.ref l1) (putF "kept_form" (.ref f) []))) p = some (.ins CP dx (putF "things" (.ref l1) (putF "kept_form" (.ref f) []))) := upd_same
  have e14 : upd H3 p (.ins CP dx (putF "things" (.ref l1) (putF "kept_form" (.ref f) []))) l1 = some (.lst ((laidT ct).map V.int)) := by rw [upd_ne (ne_of e1 p3 (by intro z; cases z))]; exact e1
  have e24 : upd H3 p (.ins CP dx (putF "things" (.ref l1) (putF "kept_form" (.ref f) []))) l2 = some (.lst ys) := by rw [upd_ne (ne_of e2 p3 (by intro z; cases z))]; exact e2
  have g4 : Paired (Says K T' (upd H3 p (.ins CP dx (putF "things" (.ref l1) (putF "kept_form" (.ref f) [])))) 1) ys ((laidP ct).map pairD) := Paired.imp' (fun _ _ z => says_ins p3 z) gp
  show tSeq _ _ _ _ (upd H3 p (.ins CP dx (putF "things" (.ref l1) (putF "kept_form" (.ref f) []))))
  generalize upd H3 p (.ins CP dx (putF "things" (.ref l1) (putF "kept_form" (.ref f) []))) = H4 at x4 p4 e14 e24 g4 ⊢
  refine ⟨_, rfl, _, rfl, p, CP, dx, _, rfl, p4, PC'.cl, PC'.n3, (by show 2 + 1 ≤ 1000; decide), ?_⟩
  refine q _ x4.upd ⟨dx, l1, l2, ys, upd_same, ?_, ?_, Paired.imp' (fun _ _ z => says_ins p4 z) g4⟩
  · rw [upd_ne (ne_of e14 p4 (by intro z; cases z))]; exact e14
  · rw [upd_ne (ne_of e24 p4 (by intro z; cases z))]; exact e24
theorem scWhole : FnScope ["self", "call", "things", "pairs"] ["self", "call"] (defScope sPtWhole) := ⟨rfl, rfl, rfl, by decide +kernel, rfl, by decide +kernel, by decide +kernel⟩
theorem ok_whole {g1 g2 : Addr} {d1 d2 : FuncData} (F : Fun K "whole" "Part.whole" sPtWhole f fd) (PC' : PtC K CP) (c1 : Callee P w K mg base 1 "laid" g1 d1 ["call"] (spLaid K)) (c2 : Callee P w K mg base 1 "call_of" g2 d2 ["things", "pairs"] (spOf K)) : FnOk P w K mg base CX0 2 f fd ["self", "call"] (spWhole K CP) := by
  refine F.ok scWhole (fun vs H Q E h => ?_) (fun cdv A outer s H vs Q E hr h => ?_)
  · obtain ⟨p, f, a, ts, ps, ct, rfl, _⟩ := h
    rfl
  obtain ⟨p, f, a, ts, ps, ct, rfl, ⟨dx, k1, k2, yk, hp, e1, e2, gp⟩, ⟨⟨xs, hx, hc⟩, lt, lp⟩, lT, lP, q⟩ := h
  refine ⟨_, pss_cons (ps_asg (cF c1 hr (ac (pv 1) pa_nil)) (pg_tup rfl (pgs_cons (pg_name (i := 2) scWhole.nd rfl (Or.inl rfl)) (pgs_cons (pg_name (i := 3) scWhole.nd rfl (Or.inl rfl)) pgs_nil))))
    (pss_one (ps_ret (cF c2 hr (ac (pe_op op_cat (pe_fld (pv 0) rfl) (pv 2)) (ac (pe_op op_cat (pe_fld (pv 0) rfl) (pv 3)) pa_nil))))), ?_⟩
  refine ⟨_, rfl, a, ct, xs, rfl, hx, hc, lt, lp, fun t H1 s1 ⟨l1, l2, ys, n1, n2, n12, nt, et, g1', g2', gy⟩ => ?_⟩
  refine ⟨t, _, rfl, SqT.of et, rfl, _, _, rfl, _, _, rfl, rfl, ?_⟩
  have big : 1000 ≤ sizeLine := by decide
  refine ⟨_, rfl, p, CP, dx, _, _, rfl, s1 _ _ hp, PC'.cl, PC'.n2, pt_things, _, rfl, k1, l1, _, _, rfl, rfl, s1 _ _ e1, g1', (by simp only [List.length_map]; omega), fun p2 hp2 => ?_⟩
  rw [← List.map_append]
  have u2 := same_new hp2 (.lst ((ts ++ laidT ct).map V.int))
  have f2 : upd H1 p2 (.lst ((ts ++ laidT ct).map V.int)) p2 = some (.lst ((ts ++ laidT ct).map V.int)) := upd_same
  generalize upd H1 p2 (.lst ((ts ++ laidT ct).map V.int)) = H2 at u2 f2 ⊢
  have s2 := s1.trans u2
  have lyk : yk.length = ps.length := by rw [gp.length, List.length_map]
  have lys : ys.length = (laidP ct).length := by rw [gy.length, List.length_map]
  refine ⟨_, rfl, p, CP, dx, _, _, rfl, s2 _ _ hp, PC'.cl, PC'.n3, pt_pairs, _, rfl, k2, l2, _, _, rfl, rfl, s2 _ _ e2, u2 _ _ g2', (by omega), fun p3 hp3 => ?_⟩
  have u3 := same_new hp3 (.lst (yk ++ ys))
  have f3 : upd H2 p3 (.lst (yk ++ ys)) p3 = some (.lst (yk ++ ys)) := upd_same
  have g3 : Paired (Says K T' (upd H2 p3 (.lst (yk ++ ys))) 1) (yk ++ ys) ((ps ++ laidP ct).map pairD) := by
    rw [List.map_append]
    exact paired_app (Paired.imp' (fun _ _ z => z.same (s2.trans u3)) gp) (Paired.imp' (fun _ _ z => z.same (u2.trans u3)) gy)
  generalize upd H2 p3 (.lst (yk ++ ys)) = H3 at u3 f3 g3 ⊢
  refine ⟨p2, p3, ts ++ laidT ct, ps ++ laidP ct, yk ++ ys, rfl, SqL.of (u3 _ _ f2), SqL.of f3, g3, by rw [List.length_append]; exact lT, by rw [List.length_append]; exact lP, fun r xs' H4 s4 nr er pr' => ?_⟩
  refine q r H4 (s2.trans (u3.trans s4)) ((s2.trans u3).free nr) ⟨⟨xs', SqL.of er, Paired.imp' (fun _ _ z => z.up.up) pr'⟩, ?_, ?_⟩
  · rw [laidT_plain, List.length_append]; omega
  · rw [laidP_plain, List.length_append]; omega
def spPtLeft (K : PySem.W.Frag) (c : C5) (CF CP : Addr) : Sp := fun vs H Q _ => ∃ (p f : Addr) (st : Nat) (ts : List Int) (ps : List (Str × Int)) (rows : List Rw) (bars : List Str), vs = [.ref p] ∧ PtAt K CP H p f ts ps ∧ FormOk c CF H f rows bars ∧ ps.length ≤ 100 ∧ fbF (ps.map (·.1)) 0 (plR rows) = some st ∧ ts.length ≤ st ∧ rows.length ≤ 400 ∧
  (((plR rows).drop st).any stuck = true → ∀ H', Same H H' → Q .non H') ∧ (((plR rows).drop st).any stuck = false → ∀ (g : Addr) (H' : Hp), Same H H' → H g = none → FormAt c CF H' g (leftR rows (ps.map (·.1)) ts.length st) (leftB rows bars (ps.map (·.1)) ts.length) → Q (.ref g) H')
theorem scPtLeft : FnScope ["self"] ["self"] (defScope sPtLeft) := ⟨rfl, rfl, rfl, by decide +kernel, rfl, by decide +kernel, by decide +kernel⟩
theorem ok_ptLeft {g1 : Addr} {d1 : FuncData} (F : Fun K "left" "Part.left" sPtLeft f fd) (hlen : mg "len" = none) (PC' : PtC K CP) (c1 : Callee P w K mg base 6 "left_behind" g1 d1 ["form", "many", "names"] (spLeftB c CF)) : FnOk P w K mg base CX0 7 f fd ["self"] (spPtLeft K c CF CP) := by
  refine F.ok scPtLeft (fun vs H Q E h => ?_) (fun cdv A outer s H vs Q E hr h => ?_)
  · obtain ⟨p, f, st, ts, ps, rows, bars, rfl, _⟩ := h
    rfl
  obtain ⟨p, f, st, ts, ps, rows, bars, rfl, ⟨dx, k1, k2, yk, hp, e1, e2, gp⟩, hF, lps, hst, hts, l4, qn, qy⟩ := h
  refine ⟨_, pss_one (ps_ret (cF c1 hr (ac (pe_fld (pv 0) rfl) (ac (cB call_len_seq hlen PySem.boot_len (ac (pe_fld (pv 0) rfl) pa_nil)) (ac (pe_lc [] ["name", "thing"] [none, none] rfl ⟨rfl, rfl, rfl, rfl⟩ (pi_list (pe_fld (pv 0) rfl)) (gown_tup2 (K := K) (n := 2) 0 1) rfl rfl rfl
      (fun pins fp s H C => ⟨pg_tup rfl (pgs_cons (pg_name (i := 0) ndNT rfl (Or.inl rfl) (.inr rfl)) (pgs_cons (pg_name (i := 1) ndNT rfl (Or.inl rfl) (.inr rfl)) pgs_nil)), pif_nil, pv 0⟩)) pa_nil))))), ?_⟩
  refine ⟨_, rfl, p, CP, dx, _, _, rfl, hp, PC'.cl, PC'.n1, pt_kept, _, rfl, p, CP, dx, _, _, rfl, hp, PC'.cl, PC'.n2, pt_things, k1, _, rfl, .inl (SqL.of e1), _, rfl, p, CP, dx, _, _, rfl, hp, PC'.cl, PC'.n3, pt_pairs, k2, rfl, ⟨_, SqL.of e2⟩, fun D hD => ?_⟩
  have lyk : yk.length = ps.length := by rw [gp.length, List.length_map]
  refine lc_list (K := K) (xs := yk) (fun i zs H' => Same H H' ∧ H' D = some (.lst zs) ∧ zs = ((ps.map (·.1)).take i).map V.str) ⟨same_new hD _, upd_same, rfl⟩ (fun i zs H' h => SqL.of (h.1 _ _ e2)) ?_ ?_
  · rintro i x zs H' hlt hx ⟨sH, hDy, ez⟩
    obtain ⟨d, hd, hy⟩ := Paired.get gp hx
    obtain ⟨pr', hpr, rfl⟩ := pair_get hd
    obtain ⟨b, rfl, hb⟩ := pair_says (hy.same sH)
    refine ⟨b, _, rfl, hb, rfl, _, _, rfl, _, _, rfl, rfl, fun _ => ⟨_, rfl, ?_⟩, fun e => Bool.noConfusion e⟩
    have hi : i < (ps.map (·.1)).length := by rw [List.length_map]; omega
    have en : (ps.map (·.1))[i] = pr'.1 := by
      have : (ps.map (·.1))[i]? = some pr'.1 := by rw [List.getElem?_map, hpr]; rfl
      rw [List.getElem?_eq_getElem hi] at this
      exact Option.some.inj this
    refine lcN.mk hlt (le1000 (by omega)) hDy (by rw [ez, List.length_map, List.length_take]; omega) ⟨fun b' u e => ?_, upd_same, ?_⟩
    · rw [upd_ne (ne_of_none e hD)]
      exact sH b' u e
    · rw [ez, List.take_succ_eq_append_getElem hi, en, List.map_append]
      rfl
  rintro zs H2 ⟨s2, hDy, ez⟩
  have hz : zs = (ps.map (·.1)).map V.str := by
    rw [ez, List.take_of_length_le (by rw [List.length_map]; omega)]
  subst hz
  refine ⟨f, D, ts.length, st, rows, bars, ps.map (·.1), (by rw [List.length_map]; rfl), hF.same s2, hDy, by rw [List.length_map]; exact lps, hst, hts, l4, fun e H' s' => qn e H' (s2.trans s'), fun e g H' s' ng hg => qy e g H' (s2.trans s') (s2.free ng) hg⟩
end
end K65

set_option Elab.async false
set_option linter.all false
set_option maxRecDepth 100000
set_option maxHeartbeats 4000000
namespace K65
open PySem L2 PyProof.Rows
def letS (k : Nat) : Str := ⟨#[97 + k]⟩
theorem let_inj {j k : Nat} (h : letS j = letS k) : j = k := by
  have : (#[97 + j] : Array Nat) = #[97 + k] := congrArg Str.cps h
  have : 97 + j = 97 + k := by simpa using this
  omega
theorem let_at : ∀ k : Nat, k < 26 → atI (Str.ofString "abcdefghijklmnopqrstuvwxyz").cps.toList ((k : Int) % 26) = some (97 + k) := by decide +kernel
theorem let_name : ∀ k : Nat, k < 26 → nameB (letS k) = true := by decide +kernel
theorem let_ne : ∀ k : Nat, k < 26 → ∀ z ∈ (["told", "rest", "tag", "shut", "shuts"] : List Str), ¬ letS k = z := by decide +kernel
theorem op_mul1 {X : Cx} : OpR X (binaryOp .Mult) (fun x y H Q => ∃ z : Str, x = .str z ∧ y = .int 1 ∧ Q (.str z) H) := by
  intro pins s σ H x y v u Q I rx ry h
  obtain ⟨z, rfl, rfl, q⟩ := h
  obtain ⟨t, rfl⟩ := rx
  obtain ⟨t2, rfl⟩ := ry
  refine SB.mul ⟨by decide, fun _ e => Bool.noConfusion e, fun _ e => Bool.noConfusion e⟩ fun t' k => ⟨.str z, H, I.tok k, ⟨t', rfl⟩, q⟩
def spNthA (K : PySem.W.Frag) : Sp := fun vs H Q _ => ∃ (a : Addr) (ns : List Int) (k : Nat), vs = [.ref a, .int k] ∧ SqL K H a (ns.map V.int) ∧ ns.length ≤ 63 ∧ ∀ (n : Int) (H' : Hp), Same H H' → Q (.int n) H'
def spName : Sp := fun vs H Q _ => ∃ k : Nat, k < 26 ∧ vs = [.int (k : Nat)] ∧ Q (.str (letS k)) H
section
variable {P : Program} {w : World} {K : PySem.W.Frag} {mg : Str → Option Value} {base : Heap} {f CF CP N : Addr} {fd : FuncData} {c : C5} {m : MA}
theorem scNth : FnScope ["_law_script", "_law_k", "_law_cells"] ["_law_script", "_law_k"] (defScope sNth) := ⟨rfl, rfl, rfl, by decide +kernel, rfl, by decide +kernel, by decide +kernel⟩
theorem ok_nth (F : Fun K "_law_nth" "_law_nth" sNth f fd) : FnOk P w K mg base CX0 1 f fd ["_law_script", "_law_k"] (spNthA K) := by
  refine F.ok scNth (fun vs H Q E h => ?_) (fun cdv A outer s H vs Q E hr h => ?_)
  · obtain ⟨a, ns, k, rfl, _⟩ := h
    rfl
  obtain ⟨a, ns, k, rfl, hS, l63, q⟩ := h
  refine ⟨_, pss_cons (ps_set (i := 2) scNth.nd rfl (Or.inl rfl) (pe_op op_cat (pe_slice sl_list (pv 0) (po_some (pv 1)) (po_some (pe_op op_add (pv 1) pe_int))) (pe_lst (ac pe_int pa_nil))))
    (pss_one (ps_ret (pe_ix ix_list (pv 2) pe_int (fun _ _ => rfl)))), ?_⟩
  obtain ⟨ms, em, lm, _⟩ := cut_ints ns (some (k : Int)) (some ((k : Int) + 1))
  refine ⟨_, rfl, _, rfl, _, rfl, _, rfl, _, _, rfl, rfl, _, rfl, a, _, rfl, hS, fun p hp => ?_⟩
  rw [em]
  have u1 := same_new hp (.lst (ms.map V.int))
  have e1 : upd H p (.lst (ms.map V.int)) p = some (.lst (ms.map V.int)) := upd_same
  generalize upd H p (.lst (ms.map V.int)) = H1 at u1 e1 ⊢
  refine ⟨(by show 1 ≤ sizeLine; decide), fun l hl => ?_⟩
  have u2 := same_new hl (.lst [.int 0])
  have big : 1000 ≤ sizeLine := by decide
  refine ⟨p, l, _, _, rfl, rfl, u2 _ _ e1, upd_same, (by rw [List.length_map]; show _ + 1 ≤ _; omega), fun p3 hp3 => ?_⟩
  have u3 := same_new hp3 (.lst (ms.map V.int ++ [.int 0]))
  have s3 := u1.trans (u2.trans u3)
  cases ms with
  | nil => exact ⟨_, rfl, p3, _, 0, .int 0, rfl, rfl, SqL.of upd_same, rfl, q 0 _ s3⟩
  | cons x xs => exact ⟨_, rfl, p3, _, 0, .int x, rfl, rfl, SqL.of upd_same, atI_nat (j := 0) rfl, q x _ s3⟩
theorem scName : FnScope ["_law_k"] ["_law_k"] (defScope sName) := ⟨rfl, rfl, rfl, by decide +kernel, rfl, by decide +kernel, by decide +kernel⟩
theorem ok_name (F : Fun K "_law_name" "_law_name" sName f fd) : FnOk P w K mg base CX0 1 f fd ["_law_k"] spName := by
  refine F.ok scName (fun vs H Q E h => ?_) (fun cdv A outer s H vs Q E hr h => ?_)
  · obtain ⟨k, _, rfl, _⟩ := h
    rfl
  obtain ⟨k, hk, rfl, q⟩ := h
  refine ⟨_, pss_one (ps_ret (pe_op op_mul1 (pe_ix ix_str pe_str (pe_op op_mod (pv 0) pe_int) (fun _ _ => rfl)) (pe_op op_add pe_int (pe_op op_mod (pe_op op_fdiv (pv 0) pe_int) pe_int)))), ?_⟩
  refine ⟨_, rfl, _, _, rfl, rfl, (by show (0 : Int) < 26; decide), _, _, _, rfl, rfl, (by decide), let_at k hk, _, rfl, _, _, rfl, rfl, ⟨by decide, by decide⟩, _, _, rfl, rfl, (by show (0 : Int) < 2; decide), _, _, rfl, rfl, letS k, rfl, ?_, q⟩
  show V.int (1 + (k : Int) / 26 % 2) = V.int 1
  rw [show (k : Int) / 26 = 0 by omega]
  rfl
end
end K65

set_option Elab.async false
set_option linter.all false
set_option maxRecDepth 100000
set_option maxHeartbeats 4000000
namespace K65
open PySem L2 PyProof.Rows
def PlOk (bg : Nat) (rs : List Rw) : Prop := ∀ (j : Nat) (r : Rw), rs[j]? = some r → r.z = letS (bg + j) ∧ r.k ≤ 1 ∧ r.ok
def spPls (c : C5) : Sp := fun vs H Q _ => ∃ (n : Int) (bg many : Nat) (ns : Bool), vs = [.int n, .int (bg : Nat), .int (many : Nat), .bl ns] ∧ bg + many ≤ 26 ∧ ∀ (l : Addr) (rs : List Rw) (H' : Hp), Same H H' → NewPs c H H' l rs → rs.length = many → PlOk bg rs → Q (.ref l) H'
def endsR (t g gb b : Bool) : List Rw := (if t = true then [⟨2, "rest", true⟩] else []) ++ (if g = true then [⟨3, "tag", gb⟩] else []) ++ (if b = true then [⟨4, "rest", true⟩] else [])
def spEnds (c : C5) : Sp := fun vs H Q _ => ∃ n : Int, vs = [.int n] ∧ ∀ (l : Addr) (t g gb b : Bool) (H' : Hp), Same H H' → NewPs c H H' l (endsR t g gb b) → Q (.ref l) H'
section
variable {P : Program} {w : World} {K : PySem.W.Frag} {mg : Str → Option Value} {base : Heap} {f CF CP N i0 i1 i2 i3 i4 : Addr} {fd d0 d1 d2 d3 d4 : FuncData} {c : C5} {m : MA}
theorem scPls : FnScope ["_law_number", "_law_begin", "_law_many", "_law_no_seats", "_law_found", "_law_k", "_law_bits", "_law_name_here"] ["_law_number", "_law_begin", "_law_many", "_law_no_seats"] (defScope sPlaces) := ⟨rfl, rfl, rfl, by decide +kernel, rfl, by decide +kernel, by decide +kernel⟩
theorem ok_pls {g : Addr} {gd : FuncData} (F : Fun K "_law_places" "_law_places" sPlaces f fd) (hran : mg "range" = none) (U : Ctors P w K mg base c N i0 i1 i2 i3 i4 d0 d1 d2 d3 d4) (cN : Callee P w K mg base 1 "_law_name" g gd ["_law_k"] spName) : FnOk P w K mg base CX0 5 f fd ["_law_number", "_law_begin", "_law_many", "_law_no_seats"] (spPls c) := by
  refine F.ok scPls (fun vs H Q E h => ?_) (fun cdv A outer s H vs Q E hr h => ?_)
  · obtain ⟨n, bg, many, ns, rfl, _⟩ := h
    rfl
  obtain ⟨n, bg, many, ns, rfl, h26, q⟩ := h
  have hr1 : Room 1 _ := hr.mono (by decide)
  refine ⟨_, pss_cons (ps_set (i := 4) scPls.nd rfl (Or.inl rfl) (pe_lst pa_nil))
    (pss_cons (ps_for PassesOwn.never rfl (pi_range1 rfl hran (ac (pv 2) pa_nil)) (pg_name (i := 5) scPls.nd rfl (Or.inl rfl))
      (pss_cons (ps_set (i := 6) scPls.nd rfl (Or.inl rfl) (pe_op op_mod (pv 0) pe_int))
      (pss_cons (ps_set (i := 0) scPls.nd rfl (Or.inl rfl) (pe_op op_fdiv (pv 0) pe_int))
      (pss_cons (ps_set (i := 7) scPls.nd rfl (Or.inl rfl) (cF cN hr1 (ac (pe_op op_add (pv 1) (pv 5)) pa_nil)))
      (pss_one (ps_if (PW.pt (pw_and (pt_cmpR op_lt (pv 6) pe_int (nomark _)) (pw_and1 (PW.pt (pw_or (pt_cmpR op_eq (pv 6) pe_int (nomark _)) (pw_or1 (pt_not (pt_val (pv 3)))))))))
        (pss_one (ps_expr (pe_bm PySem.F.plainAttrs_list PySem.F.slot_list_append PySem.F.type_list_append mt_append (pv 4) (ac (cMk (E := fun _ _ _ => False) U.k0 .nil passF hr (ac (pv 7) (ac (pe_cmpR op_eq (pv 6) pe_int (nomark _)) pa_nil))) pa_nil))))
        (pss_one (ps_expr (pe_bm PySem.F.plainAttrs_list PySem.F.slot_list_append PySem.F.type_list_append mt_append (pv 4) (ac (cMk (E := fun _ _ _ => False) U.k1 .nil passF hr (ac (pv 7) (ac (pe_cmpR op_eq (pe_op op_mod (pv 6) pe_int) pe_int (nomark _)) pa_nil))) pa_nil))))))))))
    (pss_one (ps_ret (pv 4)))), ?_⟩
  refine ⟨(by show 0 ≤ sizeLine; decide), fun l hl => ?_⟩
  have s1 := same_new hl (.lst [])
  have e1 : upd H l (.lst []) l = some (.lst []) := upd_same
  show tSeq _ _ _ _ (upd H l (.lst []))
  generalize upd H l (.lst []) = H1 at s1 e1 ⊢
  refine ⟨_, rfl, (many : Int), rfl, by omega, by omega, ?_⟩
  refine for_range (n := many) (fun i σ H' => ∃ (n' : Int) (ps : List Addr) (rs : List Rw) (v5 v6 v7 : Option V), σ = [some (.int n'), some (.int (bg : Nat)), some (.int (many : Nat)), some (.bl ns), some (.ref l), v5, v6, v7] ∧ Same H H' ∧ H' l = some (.lst (ps.map V.ref)) ∧ Paired (PAt c H') ps rs ∧ rs.length = i ∧ PlOk bg rs) ⟨n, [], [], _, _, _, rfl, s1, e1, .nil, rfl, fun j r e => by simp at e⟩ ?_ ?_
  · rintro i σ H' hi ⟨n', ps, rs, v5, v6, v7, rfl, sH, hl', hps, lrs, hpl⟩
    refine ⟨_, rfl, _, _, rfl, rfl, (by show (0 : Int) < 4; decide), ?_⟩
    refine ⟨_, rfl, _, _, rfl, rfl, ⟨by decide, by decide⟩, ?_⟩
    refine ⟨_, rfl, _, rfl, _, _, rfl, rfl, bg + i, by omega, by rw [Int.zero_add]; rfl, ?_⟩
    have nm := let_name (bg + i) (by omega)
    have lps : ps.length = i := by rw [hps.length]; exact lrs
    have fin : ∀ (k : Nat) (b : Bool) (x dxx : Addr) (H4 : Hp), k ≤ 1 → Same H' H4 → H4 x = some (.ins (c.at k) dxx (pf (kw k) (.str (letS (bg + i))) b)) → ∃ (n' : Int) (ps' : List Addr) (rs : List Rw), Same H (upd H4 l (.lst (ps.map V.ref ++ [.ref x]))) ∧ upd H4 l (.lst (ps.map V.ref ++ [.ref x])) l = some (.lst (ps'.map V.ref)) ∧ Paired (PAt c (upd H4 l (.lst (ps.map V.ref ++ [.ref x])))) ps' rs ∧ rs.length = i + 1 ∧ PlOk bg rs := by
      intro k b x dxx H4 hk s4 e4
      have hl4 := s4 _ _ hl'
      have hx : PAt c H4 x ⟨k, letS (bg + i), b⟩ := by
        refine ⟨dxx, ?_⟩
        rw [e4]
        rcases Nat.le_one_iff_eq_zero_or_eq_one.mp hk with rfl | rfl <;> rfl
      refine ⟨0, ps ++ [x], rs ++ [⟨k, letS (bg + i), b⟩], fun b' u' e' => ?_, by rw [upd_same, List.map_append]; rfl, Paired.snoc (Paired.imp' (fun _ _ z => pat_upd (z.same s4) hl4) hps) (pat_upd hx hl4), by rw [List.length_append, lrs]; rfl, fun j r e => ?_⟩
      · rw [upd_ne (ne_of_none e' hl)]
        exact s4 _ _ (sH _ _ e')
      · by_cases hj : j < rs.length
        · rw [List.getElem?_append_left hj] at e
          exact hpl j r e
        · rw [List.getElem?_append_right (by omega)] at e
          have hj0 : j - rs.length = 0 := by
            cases e2 : j - rs.length with
            | zero => rfl
            | succ q => rw [e2] at e; simp at e
          rw [hj0] at e
          have er : (⟨k, letS (bg + i), b⟩ : Rw) = r := by simpa using e
          have hji : j = i := by omega
          rw [← er, hji]
          exact ⟨rfl, hk, ⟨by show k < 5; omega, nm⟩⟩
    refine ⟨_, rfl, _, _, rfl, rfl, _, rfl, ?_⟩
    refine ite2 (fun _ => ?_) (fun _ => ?_)
    · refine ⟨_, rfl, rfl, _, rfl, ?_⟩
      refine ite2 (fun _ => ?_) (fun _ => ?_)
      · refine iteT ?_
        refine ⟨_, rfl, .inl ⟨rfl, _, SqL.of hl'⟩, _, rfl, _, rfl, rfl, ?_⟩
        intro x dxx hx hdx hne
        refine ⟨x, dxx, .str (letS (bg + i)), _, rfl, upd_same, .inl ⟨_, rfl, nameB_ok nm⟩, fun _ H4 s4 => ⟨rfl, ?_⟩, fun e => absurd (show nameB (letS (bg + i)) = false from e) (by rw [nm]; decide)⟩
        have s5 := same_after (o2 := .ins c.c0 dxx (pf "seat" (.str (letS (bg + i))) (decide (V.int (n' % 4) = V.int 1)))) hx hdx s4
        obtain ⟨_, ps', rs', g1, g2, g3, g4, g5⟩ := fin 0 (decide (V.int (n' % 4) = V.int 1)) x dxx _ (by decide) s5 upd_same
        exact ⟨l, _, .ref x, rfl, rfl, s5 _ _ hl', small1000 (by rw [List.length_map]; omega), _, ps', rs', _, _, _, rfl, g1, g2, g3, g4, g5⟩
      · refine ⟨_, rfl, _, rfl, ?_⟩
        refine ite2 (fun _ => ?_) (fun _ => ?_)
        · refine ⟨_, rfl, .inl ⟨rfl, _, SqL.of hl'⟩, _, rfl, _, rfl, rfl, ?_⟩
          intro x dxx hx hdx hne
          refine ⟨x, dxx, .str (letS (bg + i)), _, rfl, upd_same, .inl ⟨_, rfl, nameB_ok nm⟩, fun _ H4 s4 => ⟨rfl, ?_⟩, fun e => absurd (show nameB (letS (bg + i)) = false from e) (by rw [nm]; decide)⟩
          have s5 := same_after (o2 := .ins c.c0 dxx (pf "seat" (.str (letS (bg + i))) (decide (V.int (n' % 4) = V.int 1)))) hx hdx s4
          obtain ⟨_, ps', rs', g1, g2, g3, g4, g5⟩ := fin 0 (decide (V.int (n' % 4) = V.int 1)) x dxx _ (by decide) s5 upd_same
          exact ⟨l, _, .ref x, rfl, rfl, s5 _ _ hl', small1000 (by rw [List.length_map]; omega), _, ps', rs', _, _, _, rfl, g1, g2, g3, g4, g5⟩
        · refine ⟨_, rfl, .inl ⟨rfl, _, SqL.of hl'⟩, _, rfl, _, rfl, _, _, rfl, rfl, (by show (0 : Int) < 2; decide), rfl, ?_⟩
          intro x dxx hx hdx hne
          refine ⟨x, dxx, .str (letS (bg + i)), _, rfl, upd_same, .inl ⟨_, rfl, nameB_ok nm⟩, fun _ H4 s4 => ⟨rfl, ?_⟩, fun e => absurd (show nameB (letS (bg + i)) = false from e) (by rw [nm]; decide)⟩
          have s5 := same_after (o2 := .ins c.c1 dxx (pf "both" (.str (letS (bg + i))) (decide (V.int (n' % 4 % 2) = V.int 1)))) hx hdx s4
          obtain ⟨_, ps', rs', g1, g2, g3, g4, g5⟩ := fin 1 (decide (V.int (n' % 4 % 2) = V.int 1)) x dxx _ (by decide) s5 upd_same
          exact ⟨l, _, .ref x, rfl, rfl, s5 _ _ hl', small1000 (by rw [List.length_map]; omega), _, ps', rs', _, _, _, rfl, g1, g2, g3, g4, g5⟩
    · refine iteF ?_
      refine ⟨_, rfl, .inl ⟨rfl, _, SqL.of hl'⟩, _, rfl, _, rfl, _, _, rfl, rfl, (by show (0 : Int) < 2; decide), rfl, ?_⟩
      intro x dxx hx hdx hne
      refine ⟨x, dxx, .str (letS (bg + i)), _, rfl, upd_same, .inl ⟨_, rfl, nameB_ok nm⟩, fun _ H4 s4 => ⟨rfl, ?_⟩, fun e => absurd (show nameB (letS (bg + i)) = false from e) (by rw [nm]; decide)⟩
      have s5 := same_after (o2 := .ins c.c1 dxx (pf "both" (.str (letS (bg + i))) (decide (V.int (n' % 4 % 2) = V.int 1)))) hx hdx s4
      obtain ⟨_, ps', rs', g1, g2, g3, g4, g5⟩ := fin 1 (decide (V.int (n' % 4 % 2) = V.int 1)) x dxx _ (by decide) s5 upd_same
      exact ⟨l, _, .ref x, rfl, rfl, s5 _ _ hl', small1000 (by rw [List.length_map]; omega), _, ps', rs', _, _, _, rfl, g1, g2, g3, g4, g5⟩
  · rintro σ H' ⟨n', ps, rs, v5, v6, v7, rfl, sH, hl', hps, lrs, hpl⟩
    exact ⟨_, rfl, q l rs H' sH ⟨ps, hl, hl', hps⟩ lrs hpl⟩
end
end K65

set_option Elab.async false
set_option linter.all false
set_option maxRecDepth 100000
set_option maxHeartbeats 4000000
namespace K65
open PySem L2 PyProof.Rows
def e1R (t : Bool) : List Rw := if t = true then [⟨2, "rest", true⟩] else []
def e2R (g gb : Bool) : List Rw := if g = true then [⟨3, "tag", gb⟩] else []
def e3R (b : Bool) : List Rw := if b = true then [⟨4, "rest", true⟩] else []
def rngP (names : List Str) : List (Str × Int) := (List.range names.length).map fun i => (names.getD i "", (i : Int))
def callI (n : Nat) (names : List Str) : List Item := [.row (intsTo n), .book (rngP names)]
def spCallL (K : PySem.W.Frag) : Sp := fun vs H Q _ => ∃ (n : Nat) (a : Addr) (names : List Str), vs = [.int (n : Nat), .ref a] ∧ n ≤ 100 ∧ H a = some (.lst (names.map V.str)) ∧ names.length ≤ 100 ∧ ∀ (l : Addr) (H' : Hp), Same H H' → H l = none → CallOk K H' l (callI n names) → Q (.ref l) H'
section
variable {P : Program} {w : World} {K : PySem.W.Frag} {mg : Str → Option Value} {base : Heap} {f CF CP N i0 i1 i2 i3 i4 : Addr} {fd d0 d1 d2 d3 d4 : FuncData} {c : C5} {m : MA}
theorem scEnds : FnScope ["_law_number", "_law_found"] ["_law_number"] (defScope sEnds) := ⟨rfl, rfl, rfl, by decide +kernel, rfl, by decide +kernel, by decide +kernel⟩
theorem ok_ends (F : Fun K "_law_ends" "_law_ends" sEnds f fd) (U : Ctors P w K mg base c N i0 i1 i2 i3 i4 d0 d1 d2 d3 d4) : FnOk P w K mg base CX0 5 f fd ["_law_number"] (spEnds c) := by
  refine F.ok scEnds (fun vs H Q E h => ?_) (fun cdv A outer s H vs Q E hr h => ?_)
  · obtain ⟨n, rfl, _⟩ := h
    rfl
  obtain ⟨n, rfl, q⟩ := h
  refine ⟨_, pss_cons (ps_set (i := 1) scEnds.nd rfl (Or.inl rfl) (pe_lst pa_nil))
    (pss_cons (ps_if (pt_cmpR op_eq (pe_op op_mod (pv 0) pe_int) pe_int (nomark _)) (pss_one (ps_expr (pe_bm PySem.F.plainAttrs_list PySem.F.slot_list_append PySem.F.type_list_append mt_append (pv 1) (ac (cMk (E := fun _ _ _ => False) U.k2 .nil passF hr (ac pe_str pa_nil)) pa_nil)))) pss_nil)
    (pss_cons (ps_if (pt_cmpR op_eq (pe_op op_mod (pe_op op_fdiv (pv 0) pe_int) pe_int) pe_int (nomark _)) (pss_one (ps_expr (pe_bm PySem.F.plainAttrs_list PySem.F.slot_list_append PySem.F.type_list_append mt_append (pv 1) (ac (cMk (E := fun _ _ _ => False) U.k3 .nil passF hr (ac pe_str (ac (pe_cmpR op_eq (pe_op op_mod (pe_op op_fdiv (pv 0) pe_int) pe_int) pe_int (nomark _)) pa_nil))) pa_nil)))) pss_nil)
    (pss_cons (ps_if (pt_cmpR op_eq (pe_op op_mod (pe_op op_fdiv (pv 0) pe_int) pe_int) pe_int (nomark _)) (pss_one (ps_expr (pe_bm PySem.F.plainAttrs_list PySem.F.slot_list_append PySem.F.type_list_append mt_append (pv 1) (ac (cMk (E := fun _ _ _ => False) U.k4 .nil passF hr (ac pe_str pa_nil)) pa_nil)))) pss_nil)
    (pss_one (ps_ret (pv 1)))))), ?_⟩
  refine ⟨(by show 0 ≤ sizeLine; decide), fun l hl => ?_⟩
  have s1 := same_new hl (.lst [])
  have e1 : upd H l (.lst []) l = some (.lst []) := upd_same
  try dsimp only [gName]
  generalize upd H l (.lst []) = H1 at s1 e1 ⊢
  have app : ∀ {H2 H4 : Hp} {ps : List Addr} {rs : List Rw} {x : Addr} {r : Rw}, Same H H2 → H2 l = some (.lst (ps.map V.ref)) → Paired (PAt c H2) ps rs → Same H2 H4 → PAt c H4 x r → Same H (upd H4 l (.lst (ps.map V.ref ++ [.ref x]))) ∧ upd H4 l (.lst (ps.map V.ref ++ [.ref x])) l = some (.lst ((ps ++ [x]).map V.ref)) ∧ Paired (PAt c (upd H4 l (.lst (ps.map V.ref ++ [.ref x])))) (ps ++ [x]) (rs ++ [r]) := by
    intro H2 H4 ps rs x r sH hl2 hps s4 hx
    have hl4 := s4 _ _ hl2
    refine ⟨fun b' u' e' => ?_, by rw [upd_same, List.map_append]; rfl, Paired.snoc (Paired.imp' (fun _ _ z => pat_upd (z.same s4) hl4) hps) (pat_upd hx hl4)⟩
    rw [upd_ne (ne_of_none e' hl)]
    exact s4 _ _ (sH _ _ e')
  -- tail
  try dsimp only
  refine seq_via (fun σ' H' => ∃ (t : Bool) (ps : List Addr), σ' = [some (.int n), some (.ref l)] ∧ Same H H' ∧ H' l = some (.lst (ps.map V.ref)) ∧ Paired (PAt c H') ps (e1R t)) ?_ (fun key => ?_)
  rotate_left
  · refine ⟨_, rfl, _, _, rfl, rfl, (by show (0 : Int) < 2; decide), rfl, _, rfl, ?_⟩
    refine ite2 (fun _ => ?_) (fun _ => ?_)
    · refine ⟨_, rfl, .inl ⟨rfl, _, SqL.of e1⟩, ?_⟩
      intro x dxx hx hdx hne
      refine ⟨x, dxx, .str "rest", rfl, upd_same, .inl ⟨"rest", rfl, nameB_ok (by decide +kernel)⟩, fun _ H4 s4 => ⟨rfl, ?_⟩, fun e => absurd e (by decide +kernel)⟩
      have s5 := same_after (o2 := .ins c.c2 dxx (pf "tail" (.str "rest") true)) hx hdx s4
      obtain ⟨g1, g2, g3⟩ := app (r := ⟨2, "rest", true⟩) s1 (ps := []) e1 .nil s5 ⟨dxx, upd_same⟩
      exact ⟨l, _, .ref x, rfl, rfl, s5 _ _ e1, (by decide), key _ _ ⟨true, [x], rfl, g1, g2, g3⟩⟩
    · exact key _ _ ⟨false, [], rfl, s1, e1, .nil⟩
  rintro σ2 H2 ⟨t, ps2, rfl, s2, e2, q2⟩
  have l2 : ps2.length ≤ 1 := by rw [q2.length]; unfold e1R; split <;> simp
  -- tag
  try dsimp only
  refine seq_via (fun σ' H' => ∃ (g gb : Bool) (ps : List Addr), σ' = [some (.int n), some (.ref l)] ∧ Same H H' ∧ H' l = some (.lst (ps.map V.ref)) ∧ Paired (PAt c H') ps (e1R t ++ e2R g gb)) ?_ (fun key => ?_)
  rotate_left
  · refine ⟨_, rfl, _, _, rfl, rfl, ⟨by decide, by decide⟩, _, _, rfl, rfl, (by show (0 : Int) < 2; decide), rfl, _, rfl, ?_⟩
    refine ite2 (fun _ => ?_) (fun _ => ?_)
    · refine ⟨_, rfl, .inl ⟨rfl, _, SqL.of e2⟩, _, rfl, _, _, rfl, rfl, ⟨by decide, by decide⟩, _, _, rfl, rfl, (by show (0 : Int) < 2; decide), rfl, ?_⟩
      intro x dxx hx hdx hne
      refine ⟨x, dxx, .str "tag", decide (V.int (n / 4 % 2) = V.int 1), rfl, upd_same, .inl ⟨"tag", rfl, nameB_ok (by decide +kernel)⟩, fun _ H4 s4 => ⟨rfl, ?_⟩, fun e => absurd e (by decide +kernel)⟩
      have s5 := same_after (o2 := .ins c.c3 dxx (pf "tag" (.str "tag") (decide (V.int (n / 4 % 2) = V.int 1)))) hx hdx s4
      obtain ⟨g1, g2, g3⟩ := app (r := ⟨3, "tag", decide (V.int (n / 4 % 2) = V.int 1)⟩) s2 e2 q2 s5 ⟨dxx, upd_same⟩
      exact ⟨l, _, .ref x, rfl, rfl, s5 _ _ e2, small1000 (by rw [List.length_map]; omega), key _ _ ⟨true, _, ps2 ++ [x], rfl, g1, g2, g3⟩⟩
    · exact key _ _ ⟨false, false, ps2, rfl, s2, e2, by unfold e2R; rw [if_neg Bool.false_ne_true, List.append_nil]; exact q2⟩
  rintro σ3 H3 ⟨g, gb, ps3, rfl, s3, e3, q3⟩
  have l3 : ps3.length ≤ 2 := by rw [q3.length]; unfold e1R e2R; split <;> split <;> simp
  -- bag
  try dsimp only
  refine seq_via (fun σ' H' => ∃ (b : Bool) (ps : List Addr), σ' = [some (.int n), some (.ref l)] ∧ Same H H' ∧ H' l = some (.lst (ps.map V.ref)) ∧ Paired (PAt c H') ps (e1R t ++ e2R g gb ++ e3R b)) ?_ (fun key => ?_)
  rotate_left
  · refine ⟨_, rfl, _, _, rfl, rfl, ⟨by decide, by decide⟩, _, _, rfl, rfl, (by show (0 : Int) < 2; decide), rfl, _, rfl, ?_⟩
    refine ite2 (fun _ => ?_) (fun _ => ?_)
    · refine ⟨_, rfl, .inl ⟨rfl, _, SqL.of e3⟩, ?_⟩
      intro x dxx hx hdx hne
      refine ⟨x, dxx, .str "rest", rfl, upd_same, .inl ⟨"rest", rfl, nameB_ok (by decide +kernel)⟩, fun _ H4 s4 => ⟨rfl, ?_⟩, fun e => absurd e (by decide +kernel)⟩
      have s5 := same_after (o2 := .ins c.c4 dxx (pf "bag" (.str "rest") true)) hx hdx s4
      obtain ⟨g1, g2, g3⟩ := app (r := ⟨4, "rest", true⟩) s3 e3 q3 s5 ⟨dxx, upd_same⟩
      exact ⟨l, _, .ref x, rfl, rfl, s5 _ _ e3, small1000 (by rw [List.length_map]; omega), key _ _ ⟨true, ps3 ++ [x], rfl, g1, g2, g3⟩⟩
    · exact key _ _ ⟨false, ps3, rfl, s3, e3, by unfold e3R; rw [if_neg Bool.false_ne_true, List.append_nil]; exact q3⟩
  rintro σ4 H4 ⟨b, ps4, rfl, s4, e4, q4⟩
  exact ⟨_, rfl, q l t g gb b H4 s4 ⟨ps4, hl, e4, q4⟩⟩
end
end K65

set_option Elab.async false
set_option linter.all false
set_option maxRecDepth 100000
set_option maxHeartbeats 4000000
namespace K65
open PySem L2 PyProof.Rows
def P2 (H : Hp) (u : Addr) (p : Str × Int) : Prop := H u = some (.tup [.str p.1, .int p.2])
theorem p2_says {K : PySem.W.Frag} {H : Hp} {us : List Addr} {ps : List (Str × Int)} (h : Paired (P2 H) us ps) {n : Nat} : Paired (Says K T' H (n + 1)) (us.map V.ref) (ps.map pairD) := by
  induction h with
  | nil => exact .nil
  | cons r _ ih => exact .cons (Says.tup (SqT.of r) (.cons Says.str (.cons Says.int .nil))) ih
theorem p2_same {H H' : Hp} {us : List Addr} {ps : List (Str × Int)} (h : Paired (P2 H) us ps) (s : Same H H') : Paired (P2 H') us ps := Paired.imp' (fun _ _ z => s _ _ z) h
theorem p2_upd {H : Hp} {us : List Addr} {ps : List (Str × Int)} {D : Addr} {ys : List V} {o : HO} (h : Paired (P2 H) us ps) (hD : H D = some (.lst ys)) : Paired (P2 (upd H D o)) us ps := Paired.imp' (fun u p z => by
  show L2.upd H D o u = _
  rw [upd_ne (fun e => by rw [e] at z; rw [P2, hD] at z; cases z)]
  exact z) h
theorem rngP_len (names : List Str) : (rngP names).length = names.length := by unfold rngP; rw [List.length_map, List.length_range]
theorem rngP_names (names : List Str) : (rngP names).map (·.1) = names := by
  unfold rngP
  rw [List.map_map]
  apply List.ext_getElem?
  intro i
  rw [List.getElem?_map]
  by_cases hi : i < names.length
  · rw [List.getElem?_range hi, List.getElem?_eq_getElem hi]
    show some (names.getD i "") = _
    rw [List.getD_eq_getElem?_getD, List.getElem?_eq_getElem hi]
    rfl
  · rw [List.getElem?_eq_none (by rw [List.length_range]; omega), List.getElem?_eq_none (by omega)]
    rfl
theorem rngP_snoc {names : List Str} {i : Nat} {z : Str} (h : names[i]? = some z) : (rngP names).take (i + 1) = (rngP names).take i ++ [(z, (i : Int))] := by
  have hi : i < names.length := (List.getElem?_eq_some_iff.mp h).1
  have hl : i < (rngP names).length := by rw [rngP_len]; exact hi
  rw [List.take_succ_eq_append_getElem hl]
  congr 2
  have : (rngP names)[i]? = some (z, (i : Int)) := by
    unfold rngP
    rw [List.getElem?_map, List.getElem?_range hi]
    show some (names.getD i "", (i : Int)) = _
    rw [List.getD_eq_getElem?_getD, h]
    rfl
  rw [List.getElem?_eq_getElem hl] at this
  exact Option.some.inj this
section
variable {P : Program} {w : World} {K : PySem.W.Frag} {mg : Str → Option Value} {base : Heap} {f CF CP N : Addr} {fd : FuncData} {c : C5} {m : MA}
theorem ndKN : ([Str.ofString "_law_k", Str.ofString "_law_name_here"] : List Str).Nodup := by decide +kernel
theorem scCall : FnScope ["_law_more", "_law_names"] ["_law_more", "_law_names"] (defScope sCall) := ⟨rfl, rfl, rfl, by decide +kernel, rfl, by decide +kernel, by decide +kernel⟩
theorem ok_call (F : Fun K "_law_call" "_law_call" sCall f fd) (hlst : mg "list" = none) (hran : mg "range" = none) (hen : mg "enumerate" = none) : FnOk P w K mg base CX0 1 f fd ["_law_more", "_law_names"] (spCallL K) := by
  refine F.ok scCall (fun vs H Q E h => ?_) (fun cdv A outer s H vs Q E hr h => ?_)
  · obtain ⟨n, a, names, rfl, _⟩ := h
    rfl
  obtain ⟨n, a, names, rfl, hn, ha, ln, q⟩ := h
  refine ⟨_, pss_one (ps_ret (pe_op op_cat (pe_lst (ac (pe_tup (ac pe_str (ac (cTy (call_listR rfl) hlst PyProof.Rows.boot_list (ac (cTy call_rng hran boot_range (ac (pv 0) pa_nil)) pa_nil)) pa_nil))) pa_nil))
    (pe_lst (ac (pe_tup (ac pe_str (ac (pe_lc [] ["_law_k", "_law_name_here"] [none, none] rfl ⟨rfl, rfl, rfl, rfl⟩ (pi_enum rfl hen (ac (pv 1) pa_nil)) (gown_tup2 (K := K) (n := 2) 0 1) rfl rfl rfl
      (fun pins fp s H C => ⟨pg_tup rfl (pgs_cons (pg_name (i := 0) ndKN rfl (Or.inl rfl) (.inr rfl)) (pgs_cons (pg_name (i := 1) ndKN rfl (Or.inl rfl) (.inr rfl)) pgs_nil)), pif_nil, pe_tup (ac (pv 1) (ac (pv 0) pa_nil))⟩)) pa_nil))) pa_nil)))), ?_⟩
  have big : 1000 ≤ sizeLine := by decide
  refine ⟨_, rfl, n, rfl, fun p1 hp1 => ?_⟩
  have u1 := same_new hp1 (.rng 0 (n : Nat))
  refine ⟨p1, n, rfl, upd_same, by omega, fun l2 hl2 => ?_⟩
  have u2 := same_new hl2 (.lst ((intsTo n).map V.int))
  have e2 : upd (upd H p1 (.rng 0 (n : Nat))) l2 (.lst ((intsTo n).map V.int)) l2 = some (.lst ((intsTo n).map V.int)) := upd_same
  have s2 := u1.trans u2
  generalize upd (upd H p1 (.rng 0 (n : Nat))) l2 (.lst ((intsTo n).map V.int)) = H2 at u2 e2 s2 ⊢
  refine ⟨(by show 2 ≤ sizeLine; decide), fun t3 ht3 => ?_⟩
  have u3 := same_new ht3 (.tup [.str "row", .ref l2])
  have e3 : upd H2 t3 (.tup [.str "row", .ref l2]) t3 = some (.tup [.str "row", .ref l2]) := upd_same
  generalize upd H2 t3 (.tup [.str "row", .ref l2]) = H3 at u3 e3 ⊢
  refine ⟨(by show 1 ≤ sizeLine; decide), fun l4 hl4 => ?_⟩
  have u4 := same_new hl4 (.lst [.ref t3])
  have e4 : upd H3 l4 (.lst [.ref t3]) l4 = some (.lst [.ref t3]) := upd_same
  have s4 := s2.trans (u3.trans u4)
  generalize upd H3 l4 (.lst [.ref t3]) = H4 at u4 e4 s4 ⊢
  refine ⟨_, rfl, a, rfl, ⟨_, SqL.of (s4 _ _ ha)⟩, fun D hD => ?_⟩
  refine lc_enum (K := K) (xs := names.map V.str) (fun i ys H' => ∃ us, ys = us.map V.ref ∧ Same H4 H' ∧ H' D = some (.lst ys) ∧ Paired (P2 H') us ((rngP names).take i)) ⟨[], rfl, same_new hD _, upd_same, .nil⟩ (fun i ys H' ⟨_, _, h, _⟩ => SqL.of (h _ _ (s4 _ _ ha))) ?_ ?_
  · rintro i x p ys H' hlt hx ⟨us, rfl, sH, hDy, hm⟩ hpn
    obtain ⟨z, hz, rfl⟩ := strs_at hx
    have hi : i < names.length := (List.getElem?_eq_some_iff.mp hz).1
    have sp := same_new hpn (.tup [.int (i : Nat), .str z])
    refine ⟨p, _, rfl, SqT.of upd_same, rfl, _, _, rfl, _, _, rfl, rfl, fun _ => ?_, fun e => Bool.noConfusion e⟩
    refine ⟨_, rfl, _, rfl, (by show 2 ≤ sizeLine; decide), fun t ht => ?_⟩
    have s5 := sp.trans (same_new ht (.tup [.str z, .int (i : Nat)]))
    have hDy5 := s5 _ _ hDy
    have lu : us.length ≤ i := by rw [hm.length, List.length_take]; omega
    refine lcN.mk hlt (le1000 (by rw [List.length_map]; omega)) hDy5 (by rw [List.length_map]; exact lu) ⟨us ++ [t], by rw [List.map_append]; rfl, fun b' u' e' => ?_, upd_same, ?_⟩
    · rw [upd_ne (ne_of_none e' hD)]
      exact s5 _ _ (sH _ _ e')
    · rw [rngP_snoc hz]
      have hu : P2 (upd (upd H' p (.tup [.int (i : Nat), .str z])) t (.tup [.str z, .int (i : Nat)])) t (z, (i : Int)) := by
        show upd _ t _ t = _
        rw [upd_same]
      exact p2_upd (Paired.snoc (p2_same hm s5) hu) hDy5
  rintro ys H5 ⟨us, rfl, s5, hDy, hm⟩
  rw [List.length_map, List.take_of_length_le (by rw [rngP_len]; exact Nat.le_refl _)] at hm
  refine ⟨(by show 2 ≤ sizeLine; decide), fun t6 ht6 => ?_⟩
  have u6 := same_new ht6 (.tup [.str "book", .ref D])
  have e6 : upd H5 t6 (.tup [.str "book", .ref D]) t6 = some (.tup [.str "book", .ref D]) := upd_same
  generalize upd H5 t6 (.tup [.str "book", .ref D]) = H6 at u6 e6 ⊢
  refine ⟨(by show 1 ≤ sizeLine; decide), fun l7 hl7 => ?_⟩
  have u7 := same_new hl7 (.lst [.ref t6])
  refine ⟨l4, l7, _, _, rfl, rfl, u7 _ _ (u6 _ _ (s5 _ _ e4)), upd_same, (by show 2 ≤ _; decide), fun l8 hl8 => ?_⟩
  have u8 := same_new hl8 (.lst ([.ref t3] ++ [.ref t6]))
  have v58 := u6.trans (u7.trans u8)
  have v48 := s5.trans v58
  refine q l8 _ (s4.trans v48) ((s4.trans (s5.trans (u6.trans u7))).free hl8) ⟨⟨[.ref t3, .ref t6], SqL.of upd_same, ?_⟩, ?_, ?_⟩
  · refine .cons (Says.tup (SqT.of (v48 _ _ (u4 _ _ e3))) (.cons Says.str (.cons (Says.lst True.intro (v48 _ _ (u4 _ _ (u3 _ _ e2))) (ints_says _)) .nil))) (.cons (Says.tup (SqT.of (u8 _ _ (u7 _ _ e6))) (.cons Says.str (.cons (Says.lst True.intro (v58 _ _ hDy) (p2_says (p2_same hm v58))) .nil))) .nil)
  · show (laidT (callI n names)).length ≤ 900
    have : laidT (callI n names) = intsTo n := by unfold callI laidT; simp [itT]
    rw [this]
    unfold intsTo
    rw [List.length_map, List.length_range]
    omega
  · show (laidP (callI n names)).length ≤ 900
    have : laidP (callI n names) = rngP names := by unfold callI laidP; simp [itP]
    rw [this, rngP_len]
    omega
end
end K65

set_option Elab.async false
set_option linter.all false
set_option maxRecDepth 100000
set_option maxHeartbeats 4000000
namespace K65
open PySem L2 PyProof.Rows
def packI (ts : List Int) (ps : List (Str × Int)) : List Item := [.row (ts.take 30), .row (ts.drop 30), .book (ps.take 30), .book (ps.drop 30)]
theorem packT (ts : List Int) (ps : List (Str × Int)) : laidT (packI ts ps) = ts := by
  unfold packI laidT
  simp [itT]
theorem packP (ts : List Int) (ps : List (Str × Int)) : laidP (packI ts ps) = ps := by
  unfold packI laidP
  simp [itP]
theorem plain_mem {ts : List Int} {ps : List (Str × Int)} {it : Item} (h : it ∈ plain ts ps) : (∃ t, it = .one t) ∨ ∃ n t, it = .named n t := by
  unfold plain at h
  rcases List.mem_append.mp h with h | h
  · obtain ⟨t, _, rfl⟩ := List.mem_map.mp h
    exact .inl ⟨t, rfl⟩
  · obtain ⟨p, _, rfl⟩ := List.mem_map.mp h
    exact .inr ⟨p.1, p.2, rfl⟩
theorem laid_le : ∀ (ct : List Item), (∀ it ∈ ct, (∃ t, it = .one t) ∨ ∃ n t, it = .named n t) → (laidT ct).length ≤ ct.length ∧ (laidP ct).length ≤ ct.length
  | [], _ => ⟨Nat.le_refl _, Nat.le_refl _⟩
  | it :: ct, h => by
    obtain ⟨h1, h2⟩ := laid_le ct fun i hi => h i (List.mem_cons_of_mem _ hi)
    have e1 : laidT (it :: ct) = itT it ++ laidT ct := rfl
    have e2 : laidP (it :: ct) = itP it ++ laidP ct := rfl
    rw [e1, e2, List.length_append, List.length_append, List.length_cons]
    rcases h it List.mem_cons_self with ⟨t, rfl⟩ | ⟨n, t, rfl⟩
    · show 1 + _ ≤ _ ∧ 0 + _ ≤ _; omega
    · show 0 + _ ≤ _ ∧ 1 + _ ≤ _; omega
theorem plain_le (ts : List Int) (ps : List (Str × Int)) (i : Nat) : (laidT ((plain ts ps).take i)).length ≤ i ∧ (laidP ((plain ts ps).take i)).length ≤ i := by
  have := laid_le ((plain ts ps).take i) fun it h => plain_mem (List.mem_of_mem_take h)
  rw [List.length_take] at this
  omega
theorem cut_t30 {xs : List V} : cutV xs none (some 30) = xs.take 30 := cut_takeN (n := 30)
theorem cut_d30 {xs : List V} : cutV xs (some 30) none = xs.drop 30 := cut_dropN (n := 30)
def spPack (K : PySem.W.Frag) : Sp := fun vs H Q _ => ∃ (a : Addr) (ts : List Int) (ps : List (Str × Int)), vs = [.ref a] ∧ CallOk K H a (plain ts ps) ∧ ∀ (l : Addr) (H' : Hp), Same H H' → H l = none → CallOk K H' l (packI ts ps) → Q (.ref l) H'
section
variable {P : Program} {w : World} {K : PySem.W.Frag} {mg : Str → Option Value} {base : Heap} {f CF CP N : Addr} {fd : FuncData} {c : C5} {m : MA}
theorem ndIt : ([Str.ofString "_law_item"] : List Str).Nodup := by decide +kernel
theorem scPack : FnScope ["_law_call_here", "_law_things", "_law_pairs"] ["_law_call_here"] (defScope sPacked) := ⟨rfl, rfl, rfl, by decide +kernel, rfl, by decide +kernel, by decide +kernel⟩
theorem ok_pack (F : Fun K "_law_packed" "_law_packed" sPacked f fd) : FnOk P w K mg base CX0 1 f fd ["_law_call_here"] (spPack K) := by
  refine F.ok scPack (fun vs H Q E h => ?_) (fun cdv A outer s H vs Q E hr h => ?_)
  · obtain ⟨a, ts, ps, rfl, _⟩ := h
    rfl
  obtain ⟨a, ts, ps, rfl, ⟨⟨xs, hx, hc⟩, lt, lp⟩, q⟩ := h
  rw [laidT_plain] at lt
  rw [laidP_plain] at lp
  refine ⟨_, pss_cons (ps_lc (i := 1) [] ["_law_item"] [none] scPack.nd rfl (Or.inl rfl) rfl ⟨rfl, rfl, rfl, rfl⟩ (pi_list (pv 0)) (gown_name 0) rfl rfl rfl
      (fun pins fp s H C => ⟨pg_name (i := 0) ndIt rfl (Or.inl rfl) (.inr rfl), pif_one (pt_cmpR op_eq (pe_ix (r := rIxT K) ix_tup (pv 0) pe_int (fun _ _ => rfl)) pe_str (nomark _)), pe_ix (r := rIxT K) ix_tup (pv 0) pe_int (fun _ _ => rfl)⟩))
    (pss_cons (ps_lc (i := 2) [] ["_law_item"] [none] scPack.nd rfl (Or.inl rfl) rfl ⟨rfl, rfl, rfl, rfl⟩ (pi_list (pv 0)) (gown_name 0) rfl rfl rfl
      (fun pins fp s H C => ⟨pg_name (i := 0) ndIt rfl (Or.inl rfl) (.inr rfl), pif_one (pt_cmpR op_eq (pe_ix (r := rIxT K) ix_tup (pv 0) pe_int (fun _ _ => rfl)) pe_str (nomark _)), pe_tup (ac (pe_ix (r := rIxT K) ix_tup (pv 0) pe_int (fun _ _ => rfl)) (ac (pe_ix (r := rIxT K) ix_tup (pv 0) pe_int (fun _ _ => rfl)) pa_nil))⟩))
    (pss_one (ps_ret (pe_lst (ac (pe_tup (ac pe_str (ac (pe_slice sl_list (pv 1) po_none (po_some pe_int)) pa_nil))) (ac (pe_tup (ac pe_str (ac (pe_slice sl_list (pv 1) (po_some pe_int) po_none) pa_nil))) (ac (pe_tup (ac pe_str (ac (pe_slice sl_list (pv 2) po_none (po_some pe_int)) pa_nil))) (ac (pe_tup (ac pe_str (ac (pe_slice sl_list (pv 2) (po_some pe_int) po_none) pa_nil))) pa_nil)))))))), ?_⟩
  have lx : xs.length = (plain ts ps).length := by rw [hc.length, List.length_map]
  have lpl : (plain ts ps).length ≤ 1800 := by unfold plain; rw [List.length_append, List.length_map, List.length_map]; omega
  have big : 4000 ≤ sizeLine := by decide
  have big2 : (plain ts ps).length ≤ sizeLine := by omega
  -- things
  refine ⟨_, rfl, a, rfl, ⟨_, hx⟩, fun D hD => ?_⟩
  refine lc_list (K := K) (xs := xs) (fun i ys H' => Same H H' ∧ H' D = some (.lst ys) ∧ ys = (laidT ((plain ts ps).take i)).map V.int) ⟨same_new hD _, upd_same, rfl⟩ (fun i ys H' h => h.1.seq hx) ?_ ?_
  · rintro i x ys H' hlt hxi ⟨sH, hDy, ey⟩
    obtain ⟨d, hd, hy⟩ := Paired.get hc hxi
    obtain ⟨it, hit, rfl⟩ := item_get hd
    have tk := laidT_snoc (plain ts ps) i it hit
    have nl : ys.length ≤ i := by rw [ey, List.length_map]; exact (plain_le ts ps i).1
    rcases plain_mem (List.mem_of_getElem? hit) with ⟨t, rfl⟩ | ⟨n, t, rfl⟩
    · obtain ⟨b, rfl, hb⟩ := item_one (hy.same sH)
      refine ⟨_, rfl, b, _, 0, .str "one", rfl, rfl, hb, rfl, rfl, _, rfl, fun _ => ?_, fun e => absurd e (by decide +kernel)⟩
      refine ⟨_, rfl, b, _, 1, .int t, rfl, rfl, hb, rfl, ?_⟩
      refine lcN.mk hlt (by omega) hDy nl ⟨fun b' u' e' => ?_, upd_same, ?_⟩
      · rw [upd_ne (ne_of_none e' hD)]
        exact sH _ _ e'
      · rw [ey, tk, List.map_append]
        rfl
    · obtain ⟨b, rfl, hb⟩ := item_named (hy.same sH)
      refine ⟨_, rfl, b, _, 0, .str "named", rfl, rfl, hb, rfl, rfl, _, rfl, fun e => absurd e (by decide +kernel), fun _ => ?_⟩
      exact lcS.mk hlt ⟨sH, hDy, by rw [ey, tk]; show _ = List.map V.int (_ ++ []); rw [List.append_nil]⟩
  rintro ys H1 ⟨s1, hD1, ey⟩
  rw [lx, List.take_length, laidT_plain] at ey
  subst ey
  -- pairs
  refine ⟨_, rfl, a, rfl, ⟨_, s1.seq hx⟩, fun D2 hD2 => ?_⟩
  refine lc_list (K := K) (xs := xs) (fun i ys H' => ∃ us, ys = us.map V.ref ∧ Same H1 H' ∧ H' D2 = some (.lst ys) ∧ Paired (P2 H') us (laidP ((plain ts ps).take i))) ⟨[], rfl, same_new hD2 _, upd_same, .nil⟩ (fun i ys H' ⟨_, _, h, _⟩ => (s1.trans h).seq hx) ?_ ?_
  · rintro i x ys H' hlt hxi ⟨us, rfl, sH, hDy, hm⟩
    obtain ⟨d, hd, hy⟩ := Paired.get hc hxi
    obtain ⟨it, hit, rfl⟩ := item_get hd
    have tk := laidP_snoc (plain ts ps) i it hit
    have nl : (us.map V.ref).length ≤ i := by rw [List.length_map, hm.length]; exact (plain_le ts ps i).2
    rcases plain_mem (List.mem_of_getElem? hit) with ⟨t, rfl⟩ | ⟨n, t, rfl⟩
    · obtain ⟨b, rfl, hb⟩ := item_one (hy.same (s1.trans sH))
      refine ⟨_, rfl, b, _, 0, .str "one", rfl, rfl, hb, rfl, rfl, _, rfl, fun e => absurd e (by decide +kernel), fun _ => ?_⟩
      exact lcS.mk hlt ⟨us, rfl, sH, hDy, by rw [tk]; show Paired _ _ (_ ++ []); rw [List.append_nil]; exact hm⟩
    · obtain ⟨b, rfl, hb⟩ := item_named (hy.same (s1.trans sH))
      refine ⟨_, rfl, b, _, 0, .str "named", rfl, rfl, hb, rfl, rfl, _, rfl, fun _ => ?_, fun e => absurd e (by decide +kernel)⟩
      refine ⟨_, rfl, b, _, 1, .str n, rfl, rfl, hb, rfl, _, rfl, b, _, 2, .int t, rfl, rfl, hb, rfl, (by show 2 ≤ sizeLine; decide), fun t2 ht2 => ?_⟩
      have s5 := same_new ht2 (.tup [.str n, .int t])
      have hDy5 := s5 _ _ hDy
      refine lcN.mk hlt (by omega) hDy5 nl ⟨us ++ [t2], by rw [List.map_append]; rfl, fun b' u' e' => ?_, upd_same, ?_⟩
      · rw [upd_ne (ne_of_none e' hD2)]
        exact s5 _ _ (sH _ _ e')
      · rw [tk]
        have hu : P2 (upd H' t2 (.tup [.str n, .int t])) t2 (n, t) := by
          show upd _ t2 _ t2 = _
          rw [upd_same]
        exact p2_upd (Paired.snoc (p2_same hm s5) hu) hDy5
  rintro ys H2 ⟨us, rfl, u2, hD2', hm⟩
  rw [lx, List.take_length, laidP_plain] at hm
  have s2 := s1.trans u2
  have hT2 := u2 _ _ hD1
  -- the four items
  refine ⟨_, rfl, _, rfl, D, _, rfl, SqL.of hT2, fun a1 ha1 => ?_⟩
  rw [cut_t30, ← List.map_take]
  have u3 := same_new ha1 (.lst ((ts.take 30).map V.int))
  have f3 : upd H2 a1 (.lst ((ts.take 30).map V.int)) a1 = some (.lst ((ts.take 30).map V.int)) := upd_same
  generalize upd H2 a1 (.lst ((ts.take 30).map V.int)) = H3 at u3 f3 ⊢
  refine ⟨(by show 2 ≤ sizeLine; decide), fun b1 hb1 => ?_⟩
  have u4 := same_new hb1 (.tup [.str "row", .ref a1])
  have f4 : upd H3 b1 (.tup [.str "row", .ref a1]) b1 = some (.tup [.str "row", .ref a1]) := upd_same
  generalize upd H3 b1 (.tup [.str "row", .ref a1]) = H4 at u4 f4 ⊢
  have v24 := u3.trans u4
  refine ⟨_, rfl, _, rfl, D, _, rfl, SqL.of (v24 _ _ hT2), fun a2 ha2 => ?_⟩
  rw [cut_d30, ← List.map_drop]
  have u5 := same_new ha2 (.lst ((ts.drop 30).map V.int))
  have f5 : upd H4 a2 (.lst ((ts.drop 30).map V.int)) a2 = some (.lst ((ts.drop 30).map V.int)) := upd_same
  generalize upd H4 a2 (.lst ((ts.drop 30).map V.int)) = H5 at u5 f5 ⊢
  refine ⟨(by show 2 ≤ sizeLine; decide), fun b2 hb2 => ?_⟩
  have u6 := same_new hb2 (.tup [.str "row", .ref a2])
  have f6 : upd H5 b2 (.tup [.str "row", .ref a2]) b2 = some (.tup [.str "row", .ref a2]) := upd_same
  generalize upd H5 b2 (.tup [.str "row", .ref a2]) = H6 at u6 f6 ⊢
  have v26 := v24.trans (u5.trans u6)
  refine ⟨_, rfl, _, rfl, D2, _, rfl, SqL.of (v26 _ _ hD2'), fun a3 ha3 => ?_⟩
  rw [cut_t30, ← List.map_take]
  have u7 := same_new ha3 (.lst ((us.take 30).map V.ref))
  have f7 : upd H6 a3 (.lst ((us.take 30).map V.ref)) a3 = some (.lst ((us.take 30).map V.ref)) := upd_same
  generalize upd H6 a3 (.lst ((us.take 30).map V.ref)) = H7 at u7 f7 ⊢
  refine ⟨(by show 2 ≤ sizeLine; decide), fun b3 hb3 => ?_⟩
  have u8 := same_new hb3 (.tup [.str "book", .ref a3])
  have f8 : upd H7 b3 (.tup [.str "book", .ref a3]) b3 = some (.tup [.str "book", .ref a3]) := upd_same
  generalize upd H7 b3 (.tup [.str "book", .ref a3]) = H8 at u8 f8 ⊢
  have v28 := v26.trans (u7.trans u8)
  refine ⟨_, rfl, _, rfl, D2, _, rfl, SqL.of (v28 _ _ hD2'), fun a4 ha4 => ?_⟩
  rw [cut_d30, ← List.map_drop]
  have u9 := same_new ha4 (.lst ((us.drop 30).map V.ref))
  have f9 : upd H8 a4 (.lst ((us.drop 30).map V.ref)) a4 = some (.lst ((us.drop 30).map V.ref)) := upd_same
  generalize upd H8 a4 (.lst ((us.drop 30).map V.ref)) = H9 at u9 f9 ⊢
  refine ⟨(by show 2 ≤ sizeLine; decide), fun b4 hb4 => ?_⟩
  have u10 := same_new hb4 (.tup [.str "book", .ref a4])
  have f10 : upd H9 b4 (.tup [.str "book", .ref a4]) b4 = some (.tup [.str "book", .ref a4]) := upd_same
  generalize upd H9 b4 (.tup [.str "book", .ref a4]) = H10 at u10 f10 ⊢
  refine ⟨(by show 4 ≤ sizeLine; decide), fun l hl => ?_⟩
  have u11 := same_new hl (.lst [.ref b1, .ref b2, .ref b3, .ref b4])
  have w10 := u10.trans u11
  have w9 := u9.trans w10
  have w8 := u8.trans w9
  have w7 := u7.trans w8
  have w6 := u6.trans w7
  have w5 := u5.trans w6
  have w4 := u4.trans w5
  have w3 := u3.trans w4
  refine q l _ (s2.trans w3) ((s2.trans (v28.trans (u9.trans u10))).free hl) ⟨⟨[.ref b1, .ref b2, .ref b3, .ref b4], SqL.of upd_same, ?_⟩, by rw [packT]; exact lt, by rw [packP]; exact lp⟩
  refine .cons (Says.tup (SqT.of (w5 _ _ f4)) (.cons Says.str (.cons (Says.lst True.intro (w4 _ _ f3) (ints_says _)) .nil))) (.cons (Says.tup (SqT.of (w7 _ _ f6)) (.cons Says.str (.cons (Says.lst True.intro (w6 _ _ f5) (ints_says _)) .nil))) (.cons (Says.tup (SqT.of (w9 _ _ f8)) (.cons Says.str (.cons (Says.lst True.intro (w8 _ _ f7) (p2_says (p2_same (pairedTake hm 30) w3))) .nil))) (.cons (Says.tup (SqT.of (u11 _ _ f10)) (.cons Says.str (.cons (Says.lst True.intro (w10 _ _ f9) (p2_says (p2_same (pairedDrop hm 30) w3))) .nil))) .nil)))
end
end K65

set_option Elab.async false
set_option linter.all false
set_option maxRecDepth 100000
set_option maxHeartbeats 4000000
namespace K65
open PySem L2 PyProof.Rows
theorem miss_pack (rows : List Rw) (bars : List Str) (ts : List Int) (ps : List (Str × Int)) : missC rows bars (packI ts ps) = missF rows bars ts.length (ps.map (·.1)) := by
  unfold missC namesOf
  rw [packT, packP]
theorem miss_call (rows : List Rw) (bars : List Str) (n : Nat) (names : List Str) : missC rows bars (callI n names) = missF rows bars n names := by
  unfold missC namesOf
  have e1 : laidT (callI n names) = intsTo n := by unfold callI laidT; simp [itT]
  have e2 : laidP (callI n names) = rngP names := by unfold callI laidP; simp [itP]
  rw [e1, e2, rngP_names]
  congr 1
  unfold intsTo
  rw [List.length_map, List.length_range]
def spFW (K : PySem.W.Frag) (c : C5) (CF CP : Addr) : Sp := fun vs H Q _ => ∃ (f p f' a : Addr) (rows : List Rw) (bars : List Str) (ts : List Int) (ps : List (Str × Int)) (n : Nat) (names : List Str), vs = [.ref f, .ref p, .ref a] ∧ FormOk c CF H f rows bars ∧ PtAt K CP H p f' ts ps ∧ CallOk K H a (callI n names) ∧ ts.length + n ≤ 400 ∧ ps.length + names.length ≤ 400 ∧ ∀ H', Same H H' → Q (.bl (missF rows bars (ts.length + n) (ps.map (·.1) ++ names)).isEmpty) H'
theorem callT (n : Nat) (names : List Str) : laidT (callI n names) = intsTo n := by unfold callI laidT; simp [itT]
theorem callP (n : Nat) (names : List Str) : laidP (callI n names) = rngP names := by unfold callI laidP; simp [itP]
theorem intsTo_len (n : Nat) : (intsTo n).length = n := by unfold intsTo; rw [List.length_map, List.length_range]
section
variable {P : Program} {w : World} {K : PySem.W.Frag} {mg : Str → Option Value} {base : Heap} {f CF CP N : Addr} {fd : FuncData} {c : C5} {m : MA}
theorem scFW : FnScope ["_law_form", "_law_part", "_law_call_here"] ["_law_form", "_law_part", "_law_call_here"] (defScope sFitsW) := ⟨rfl, rfl, rfl, by decide +kernel, rfl, by decide +kernel, by decide +kernel⟩
theorem ok_fw {g1 g2 gW : Addr} {d1 d2 eW : FuncData} (F : Fun K "_law_fits_whole" "_law_fits_whole" sFitsW f fd) (PC' : PtC K CP) (c1 : Callee P w K mg base 6 "fits" g1 d1 ["form", "call"] (spFits K c CF)) (c2 : Callee P w K mg base 1 "_law_packed" g2 d2 ["_law_call_here"] (spPack K)) (mW : Meth K CP "whole" gW) (GW : FnOk P w K mg base CX0 2 gW eW ["self", "call"] (spWhole K CP)) (bW : Binds K eW ["self", "call"] []) :
    FnOk P w K mg base CX0 7 f fd ["_law_form", "_law_part", "_law_call_here"] (spFW K c CF CP) := by
  refine F.ok scFW (fun vs H Q E h => ?_) (fun cdv A outer s H vs Q E hr h => ?_)
  · obtain ⟨f, p, f', a, rows, bars, ts, ps, n, names, rfl, _⟩ := h
    rfl
  obtain ⟨f, p, f', a, rows, bars, ts, ps, n, names, rfl, hF, hP, hC, l1, l2, q⟩ := h
  have hr1 : Room 1 _ := hr.mono (by decide)
  have hr2 : Room 2 _ := hr.mono (by decide)
  refine ⟨_, pss_one (ps_ret (cF c1 hr (ac (pv 0) (ac (cF c2 hr1 (ac (pe_meth (pv 1) PC'.cl mW GW hr2 bW .nil pass0 (ac (pv 2) pa_nil)) pa_nil)) pa_nil)))), ?_⟩
  obtain ⟨dx, k1, k2, yk, hp, e1, e2, gp⟩ := id hP
  refine ⟨_, rfl, _, rfl, p, dx, _, rfl, hp, pt_no (by decide +kernel) (by decide +kernel) (by decide +kernel), _, rfl, p, f', a, ts, ps, callI n names, rfl, hP, hC, by rw [callT, intsTo_len]; exact l1, by rw [callP, rngP_len]; exact l2, fun l H1 s1 nl hl => ?_⟩
  refine ⟨l, _, _, rfl, hl, fun l2' H2 s2 nl2 hl2 => ?_⟩
  have s12 := s1.trans s2
  refine ⟨f, l2', rows, bars, _, rfl, hF.same s12, hl2, fun H3 s3 => ?_⟩
  have := q H3 (s12.trans s3)
  rw [miss_pack, callT, callP, List.length_append, intsTo_len, List.map_append, rngP_names]
  exact this
end
/-! ### the mathematics of the law -/
theorem dbl_nil : ∀ (zs : List Str) (i : Nat) (fk : List (Key × V)), (∀ (j : Nat) (z : Str), zs[j]? = some z → valV fk (.inr z) = some (.int ((i + j : Nat) : Int))) → dblF fk i zs = []
  | [], _, _, _ => rfl
  | z :: zs, i, fk, h => by
    show (if valV fk (.inr z) = some (.int (i : Nat)) then [] else _) ++ dblF fk (i + 1) zs = []
    have h0 : valV fk (.inr z) = some (.int (i : Nat)) := h 0 z rfl
    rw [if_pos h0, List.nil_append]
    exact dbl_nil zs (i + 1) fk fun j y e => by
      have := h (j + 1) y e
      rw [show i + (j + 1) = i + 1 + j by omega] at this
      exact this
end K65

set_option Elab.async false
set_option linter.all false
set_option maxRecDepth 100000
set_option maxHeartbeats 4000000
namespace L2
open PySem PySem.Spec PyProof.Rows
/-- != of two lists that are not of one length -/
def rNLen : R2 := fun x y H Q => ∃ (a c : Addr) (xs ys : List V), x = .ref a ∧ y = .ref c ∧ H a = some (.lst xs) ∧ H c = some (.lst ys) ∧ xs.length ≠ ys.length ∧ Q (.bl true) H
theorem op_neLen {X : Cx} (hu : X.A.units < cLine) : OpR X (compareOp .NotEq) rNLen := by
  intro pins s σ H x y v u Q I rx ry h
  obtain ⟨a, c, xs, ys, rfl, rfl, ha, hc, hn, q⟩ := h
  cases rx
  cases ry
  obtain ⟨its, r, pl, _⟩ := I.list (SqL.of ha)
  obtain ⟨its2, r2, pl2, _⟩ := I.list (SqL.of hc)
  have e1 := r.length
  have e2 := r2.length
  exact SeqAt.RcNeAt.lists_lengths pl.isList pl2.isList (by simp only [List.size_toArray, bne_iff_ne]; omega) hu X.prog X.w X.xe _ ⟨.bl true, H, I, rfl, q⟩
end L2
namespace K65
open PySem L2 PyProof.Rows
theorem val_put {κ : Type} [DecidableEq κ] {kvs : List (κ × V)} {k k' : κ} {v : V} : valV (putK kvs k v) k' = if k' = k then some v else valV kvs k' := valV_put kvs k k' v
/-! ### rows put in order: the mathematics -/
def names (rs : Nat → List Rw) : List Str := nms (rs 0) ++ nms (rs 2)
theorem nms_app (a b : List Rw) : nms (a ++ b) = nms a ++ nms b := by unfold nms; rw [List.filter_append, List.map_append]
theorem nms_one (r : Rw) : nms [r] = if byNm r.k = true then [r.z] else [] := by
  unfold nms
  cases h : byNm r.k <;> simp [h]
/-! ### in order -/
theorem ord_cons {l g : Nat} {r : Rw} {rs : List Rw} (hg : grp r.k = g) (hb : badAt l g = false) (h : ordOk g rs = true) : ordOk l (r :: rs) = true := by
  show (!badAt l (grp r.k) && ordOk (grp r.k) rs) = true
  rw [hg, hb, h]
  rfl
theorem ord_even {g : Nat} (he : badAt g g = false) : ∀ (xs ys : List Rw) (l : Nat), badAt l g = false → (∀ r ∈ xs, grp r.k = g) → ordOk l ys = true → ordOk g ys = true → ordOk l (xs ++ ys) = true
  | [], _, _, _, _, h1, _ => h1
  | r :: rs, ys, l, hb, hg, _, h2 => ord_cons (hg r List.mem_cons_self) hb (ord_even he rs ys g he (fun x hx => hg x (List.mem_cons_of_mem _ hx)) h2 h2)
theorem ord_odd {g l : Nat} {xs ys : List Rw} (hl : xs.length ≤ 1) (hb : badAt l g = false) (hg : ∀ r ∈ xs, grp r.k = g) (h1 : ordOk l ys = true) (h2 : ordOk g ys = true) : ordOk l (xs ++ ys) = true := by
  match xs, hl with
  | [], _ => exact h1
  | [r], _ => exact ord_cons (hg r List.mem_cons_self) hb h2
theorem ord_all {xs0 xs1 xs2 xs3 : List Rw} (g0 : ∀ r ∈ xs0, grp r.k = 0) (g1 : ∀ r ∈ xs1, grp r.k = 1) (l1 : xs1.length ≤ 1) (g2 : ∀ r ∈ xs2, grp r.k = 2) (g3 : ∀ r ∈ xs3, grp r.k = 3) (l3 : xs3.length ≤ 1) : ordOk 0 (xs0 ++ (xs1 ++ (xs2 ++ xs3))) = true := by
  have h3 : ∀ l, l ≤ 2 → ordOk l xs3 = true := fun l hl => by
    have := ord_odd (g := 3) (l := l) (ys := []) l3 (by match l, hl with | 0, _ => rfl | 1, _ => rfl | 2, _ => rfl) g3 rfl rfl
    rwa [List.append_nil] at this
  have h2 : ∀ l, l ≤ 1 → ordOk l (xs2 ++ xs3) = true := fun l hl => ord_even (g := 2) rfl xs2 xs3 l (by match l, hl with | 0, _ => rfl | 1, _ => rfl) g2 (h3 l (by omega)) (h3 2 (by omega))
  have h1 : ordOk 0 (xs1 ++ (xs2 ++ xs3)) = true := ord_odd (g := 1) l1 rfl g1 (h2 0 (by omega)) (h2 1 (by omega))
  exact ord_even (g := 0) rfl xs0 _ 0 rfl g0 h1 h1
end K65

set_option Elab.async false
set_option linter.all false
set_option maxRecDepth 100000
set_option maxHeartbeats 4000000
namespace K65
open PySem L2 PyProof.Rows
/-- the law's row -/
structure Shape (rows A B Bh E : List Rw) (td : Rw) (t g gb b : Bool) : Prop where
  eq : rows = A ++ B ++ [td] ++ Bh ++ E
  pa : PlOk 0 A
  pb : PlOk A.length B
  ph : PlOk (A.length + B.length) Bh
  tk : td.k = 1
  tz : td.z = "told"
  en : E = endsR t g gb b
  la : A.length ≤ 6
  lb : B.length ≤ 5
  lh : Bh.length ≤ 9
theorem PlOk.mem {bg : Nat} {rs : List Rw} (h : PlOk bg rs) {r : Rw} (hr : r ∈ rs) : r.k ≤ 1 ∧ r.ok ∧ ∃ j, j < rs.length ∧ r.z = letS (bg + j) := by
  obtain ⟨j, hj, e⟩ := List.mem_iff_getElem.mp hr
  obtain ⟨h1, h2, h3⟩ := h j r (by rw [List.getElem?_eq_getElem hj, e])
  exact ⟨h2, h3, j, hj, h1⟩
theorem pl_byPl {k : Nat} (h : k ≤ 1) : byPl k = true := by
  rcases Nat.le_one_iff_eq_zero_or_eq_one.mp h with rfl | rfl <;> rfl
theorem PlOk.pl {bg : Nat} {rs : List Rw} (h : PlOk bg rs) : rs.filter (fun r => byPl r.k) = rs := List.filter_eq_self.mpr fun r hr => pl_byPl (h.mem hr).1
theorem ends_pl (t g gb b : Bool) : (endsR t g gb b).filter (fun r => byPl r.k) = [] := by
  cases t <;> cases g <;> cases b <;> rfl
section
variable {rows A B Bh E : List Rw} {td : Rw} {t g gb b : Bool}
theorem Shape.places (h : Shape rows A B Bh E td t g gb b) : rows.filter (fun r => byPl r.k) = A ++ B ++ [td] ++ Bh := by
  rw [h.eq, List.filter_append, List.filter_append, List.filter_append, List.filter_append, h.pa.pl, h.pb.pl, h.ph.pl, h.en, ends_pl, List.append_nil]
  congr 1
  congr 1
  rw [List.filter_cons, h.tk]
  rfl
theorem Shape.plN (h : Shape rows A B Bh E td t g gb b) : plN rows = A.length + B.length + 1 + Bh.length := by
  unfold K65.plN
  rw [h.places]
  simp only [List.length_append, List.length_singleton]
theorem Shape.plR (h : Shape rows A B Bh E td t g gb b) : plR rows = A ++ B ++ [td] ++ Bh := by
  unfold K65.plR
  rw [h.plN, h.eq]
  have : A.length + B.length + 1 + Bh.length = (A ++ B ++ [td] ++ Bh).length := by simp only [List.length_append, List.length_singleton]
  rw [this, List.take_left]
theorem Shape.rest (h : Shape rows A B Bh E td t g gb b) : rows.drop (K65.plN rows) = E := by
  rw [h.plN, h.eq]
  have : A.length + B.length + 1 + Bh.length = (A ++ B ++ [td] ++ Bh).length := by simp only [List.length_append, List.length_singleton]
  rw [this, List.drop_left]
theorem fb_skip {names : List Str} : ∀ (xs ys : List Rw) (i : Nat), (∀ r ∈ xs, isBoth names r = false) → fbF names i (xs ++ ys) = fbF names (i + xs.length) ys
  | [], ys, i, _ => rfl
  | x :: xs, ys, i, h => by
    show (if isBoth names x = true then some i else fbF names (i + 1) (xs ++ ys)) = _
    rw [h x List.mem_cons_self, if_neg Bool.false_ne_true, fb_skip xs ys (i + 1) fun r hr => h r (List.mem_cons_of_mem _ hr), List.length_cons]
    congr 1
    omega
theorem Shape.stop (h : Shape rows A B Bh E td t g gb b) : fbF ["told"] 0 (K65.plR rows) = some (A.length + B.length) := by
  have no : ∀ {bg : Nat} {rs : List Rw}, PlOk bg rs → bg + rs.length ≤ 26 → ∀ r ∈ rs, isBoth ["told"] r = false := fun hp hl r hr => by
    obtain ⟨_, _, j, hj, ez⟩ := hp.mem hr
    unfold isBoth
    have : ¬ r.z ∈ (["told"] : List Str) := fun z => by
      rw [ez] at z
      exact let_ne _ (by omega) "told" (by decide +kernel) (List.mem_singleton.mp z)
    rw [decide_eq_false this, Bool.and_false]
  have la := h.la
  have lb := h.lb
  rw [h.plR, List.append_assoc, List.append_assoc, fb_skip A _ 0 (no h.pa (by omega)), fb_skip B _ _ (no h.pb (by omega))]
  show (if isBoth ["told"] td = true then some _ else _) = _
  have : isBoth ["told"] td = true := by
    unfold isBoth
    rw [h.tk, h.tz]
    decide +kernel
  rw [if_pos this, Nat.zero_add]
end
end K65

set_option Elab.async false
set_option linter.all false
set_option maxRecDepth 100000
set_option maxHeartbeats 4000000
namespace K65
open PySem L2 PyProof.Rows
theorem nms_cons (r : Rw) (rs : List Rw) : nms (r :: rs) = (if byNm r.k = true then [r.z] else []) ++ nms rs := by
  have := nms_app [r] rs
  rw [nms_one] at this
  exact this
theorem doors_no {z : Str} : ∀ (rows : List Rw) (i : Nat) (acc : List (Key × V)), z ∉ nms rows → valV (doorsF i acc rows) (.inr z) = valV acc (.inr z)
  | [], _, _, _ => rfl
  | r :: rs, i, acc, h => by
    rw [nms_cons] at h
    have h2 : z ∉ nms rs := fun e => h (List.mem_append_right _ e)
    show valV (doorsF (i + 1) _ rs) (.inr z) = _
    rw [doors_no rs (i + 1) _ h2]
    split
    next e =>
      rw [val_put, if_neg]
      intro e2
      rw [if_pos e] at h
      exact h (by rw [Sum.inr.inj e2]; exact List.mem_append_left _ (List.mem_singleton.mpr rfl))
    · rfl
theorem doors_at {r : Rw} (hb : byNm r.k = true) : ∀ (rows : List Rw) (i j : Nat) (acc : List (Key × V)), rows[j]? = some r → (nms rows).Nodup → valV (doorsF i acc rows) (.inr r.z) = some (.int ((i + j : Nat) : Int))
  | [], _, _, _, h, _ => by simp at h
  | y :: ys, i, 0, acc, h, nd => by
    have e : y = r := by simpa using h
    subst e
    rw [nms_cons, if_pos hb] at nd
    have hz : y.z ∉ nms ys := (List.nodup_cons.mp nd).1
    show valV (doorsF (i + 1) (if byNm y.k = true then putK acc (.inr y.z) (.int i) else acc) ys) (.inr y.z) = _
    rw [doors_no ys (i + 1) _ hz, if_pos hb, val_put, if_pos rfl]
    rfl
  | y :: ys, i, j + 1, acc, h, nd => by
    rw [nms_cons] at nd
    have nd2 := (List.nodup_append.mp nd).2.1
    show valV (doorsF (i + 1) _ ys) (.inr r.z) = _
    rw [doors_at hb ys (i + 1) j _ (by simpa using h) nd2, show i + 1 + j = i + (j + 1) by omega]
theorem fp_sub {p : Str × Nat} : ∀ (zs : List Str) (i : Nat) (acc : List (Str × Nat)), p ∈ fpF i acc zs → p ∈ acc ∨ p.1 ∈ zs
  | [], _, _, h => .inl h
  | z :: zs, i, acc, h => by
    have h' : p ∈ fpF (i + 1) (if (acc.any fun p => decide (p.1 = z)) = true then acc else acc ++ [(z, i)]) zs := h
    rcases fp_sub zs (i + 1) _ h' with h1 | h1
    · split at h1
      · exact .inl h1
      · rcases List.mem_append.mp h1 with h2 | h2
        · exact .inl h2
        · rw [List.mem_singleton.mp h2]
          exact .inr List.mem_cons_self
    · exact .inr (List.mem_cons_of_mem _ h1)
theorem unw_nil {rows : List Rw} {bars : List Str} {many : Nat} {zs : List Str} (h : ∀ z ∈ zs, unwW rows bars many z = none) : unwF rows bars many (fpZ zs) = [] := by
  unfold unwF
  rw [List.filterMap_eq_nil_iff]
  intro p hp
  rcases fp_sub zs 0 [] hp with h1 | h1
  · cases h1
  · rw [h p.1 h1]
    rfl
theorem unw_ne {rows : List Rw} {bars : List Str} {many : Nat} {zs : List Str} {z wd : Str} (hz : z ∈ zs) (h : unwW rows bars many z = some wd) : unwF rows bars many (fpZ zs) ≠ [] := by
  intro e
  unfold unwF at e
  rw [List.filterMap_eq_nil_iff] at e
  have := fp_mem zs 0 [] hz
  rw [List.any_eq_true] at this
  obtain ⟨p, hp, e2⟩ := this
  have := e p hp
  rw [of_decide_eq_true e2, h] at this
  cases this
theorem fp_nodup : ∀ (zs : List Str) (i : Nat) (acc : List (Str × Nat)), zs.Nodup → (∀ z ∈ zs, (acc.any fun p => decide (p.1 = z)) = false) → fpF i acc zs = acc ++ (List.range zs.length).map fun j => (zs.getD j "", i + j)
  | [], _, acc, _, _ => by show acc = acc ++ []; rw [List.append_nil]
  | z :: zs, i, acc, nd, h => by
    have hz := h z List.mem_cons_self
    have nd' := List.nodup_cons.mp nd
    show fpF (i + 1) (if (acc.any fun p => decide (p.1 = z)) = true then acc else acc ++ [(z, i)]) zs = _
    rw [hz, if_neg Bool.false_ne_true, fp_nodup zs (i + 1) _ nd'.2 fun y hy => by
      rw [List.any_append, h y (List.mem_cons_of_mem _ hy), Bool.false_or]
      have : ¬ z = y := fun e => nd'.1 (e ▸ hy)
      simp [this]]
    rw [List.append_assoc]
    congr 1
    rw [List.length_cons, List.range_succ_eq_map, List.map_cons, List.map_map]
    show (z, i) :: _ = _ :: _
    congr 1
    apply List.map_congr_left
    intro j _
    show (zs.getD j "", i + 1 + j) = ((z :: zs).getD (j + 1) "", i + (j + 1))
    rw [show i + 1 + j = i + (j + 1) by omega]
    rfl
theorem kvP_at : ∀ (fp : List (Str × Nat)) (j : Nat) (p : Str × Nat), fp[j]? = some p → (fp.map (·.1)).Nodup → valV (kvP fp) (.inr p.1) = some (.int (p.2 : Nat))
  | [], _, _, h, _ => by simp at h
  | q :: fp, 0, p, h, _ => by
    have e : q = p := by simpa using h
    subst e
    exact valV_pos rfl
  | q :: fp, j + 1, p, h, nd => by
    have nd' := List.nodup_cons.mp (show (q.1 :: fp.map (·.1)).Nodup from nd)
    have hp : fp[j]? = some p := by simpa using h
    have ne : ¬ (Sum.inr q.1 : Key) = Sum.inr p.1 := fun e => nd'.1 (by rw [Sum.inr.inj e]; exact List.mem_map.mpr ⟨p, List.mem_of_getElem? hp, rfl⟩)
    show valV ((Sum.inr q.1, V.int (q.2 : Nat)) :: kvP fp) (.inr p.1) = _
    rw [valV_neg ne]
    exact kvP_at fp j p hp nd'.2
theorem dbl_Z {zs : List Str} (nd : zs.Nodup) : dblF (kvP (fpZ zs)) 0 zs = [] := by
  have ef : fpZ zs = (List.range zs.length).map fun j => (zs.getD j "", 0 + j) := by
    have := fp_nodup zs 0 [] nd fun _ _ => rfl
    rw [List.nil_append] at this
    exact this
  have en : (fpZ zs).map (·.1) = zs := by
    rw [ef, List.map_map]
    have := rngP_names zs
    unfold rngP at this
    rw [List.map_map] at this
    exact this
  refine dbl_nil zs 0 _ fun j z hz => ?_
  have hj : j < zs.length := (List.getElem?_eq_some_iff.mp hz).1
  have hp : (fpZ zs)[j]? = some (z, 0 + j) := by
    rw [ef, List.getElem?_map, List.getElem?_range hj]
    show some (zs.getD j "", 0 + j) = _
    rw [List.getD_eq_getElem?_getD, hz]
    rfl
  exact kvP_at (fpZ zs) j (z, 0 + j) hp (by rw [en]; exact nd)
end K65

set_option Elab.async false
set_option linter.all false
set_option maxRecDepth 100000
set_option maxHeartbeats 4000000
namespace K65
open PySem L2 PyProof.Rows
theorem PlOk.app {bg : Nat} {X Y : List Rw} (hx : PlOk bg X) (hy : PlOk (bg + X.length) Y) : PlOk bg (X ++ Y) := fun j r e => by
  by_cases h : j < X.length
  · rw [List.getElem?_append_left h] at e
    exact hx j r e
  · rw [List.getElem?_append_right (by omega)] at e
    have := hy (j - X.length) r e
    rw [show bg + X.length + (j - X.length) = bg + j by omega] at this
    exact this
theorem PlOk.nd {bg : Nat} {rs : List Rw} (h : PlOk bg rs) : (rs.map (·.z)).Nodup := by
  rw [List.Nodup, List.pairwise_iff_getElem]
  intro i j hi hj hij e
  rw [List.getElem_map, List.getElem_map] at e
  rw [List.length_map] at hi hj
  have h1 := (h i rs[i] (List.getElem?_eq_getElem hi)).1
  have h2 := (h j rs[j] (List.getElem?_eq_getElem hj)).1
  rw [h1, h2] at e
  have := let_inj e
  omega
theorem nms_sub' (rs : List Rw) : List.Sublist (nms rs) (rs.map (·.z)) := (List.filter_sublist).map _
theorem ends_nms (t g gb b : Bool) : nms (endsR t g gb b) = if g = true then [("tag" : Str)] else [] := by
  cases t <;> cases g <;> cases b <;> rfl
section
variable {rows A B Bh E : List Rw} {td : Rw} {t g gb b : Bool}
theorem Shape.all (h : Shape rows A B Bh E td t g gb b) : PlOk 0 (A ++ B ++ Bh) := (h.pa.app (by rw [Nat.zero_add]; exact h.pb)).app (by rw [List.length_append, Nat.zero_add]; exact h.ph)
theorem Shape.letter (h : Shape rows A B Bh E td t g gb b) {r : Rw} (hr : r ∈ A ++ B ++ Bh) : ∃ j, j < 20 ∧ r.z = letS j := by
  obtain ⟨_, _, j, hj, e⟩ := h.all.mem hr
  refine ⟨j, ?_, by rw [Nat.zero_add] at e; exact e⟩
  have := h.la
  have := h.lb
  have := h.lh
  simp only [List.length_append] at hj
  omega
theorem Shape.nms (h : Shape rows A B Bh E td t g gb b) : nms rows = nms A ++ nms B ++ [("told" : Str)] ++ nms Bh ++ (if g = true then [("tag" : Str)] else []) := by
  rw [h.eq, nms_app, nms_app, nms_app, nms_app, h.en, ends_nms]
  congr 3
  rw [nms_one, h.tk, h.tz]
  rfl
theorem mem_nms {z : Str} {rs : List Rw} (h : z ∈ K65.nms rs) : ∃ r ∈ rs, byNm r.k = true ∧ r.z = z := by
  unfold K65.nms at h
  obtain ⟨r, hr, e⟩ := List.mem_map.mp h
  obtain ⟨h1, h2⟩ := List.mem_filter.mp hr
  exact ⟨r, h1, h2, e⟩
theorem Shape.nodup (h : Shape rows A B Bh E td t g gb b) {bars : List Str} (hb : bars.Nodup) (hb2 : ∀ z ∈ bars, z = "shut" ∨ z = "shuts") : (K65.nms rows ++ bars).Nodup := by
  have hl : (K65.nms A ++ K65.nms B ++ K65.nms Bh).Nodup := by
    have s : List.Sublist (K65.nms A ++ K65.nms B ++ K65.nms Bh) ((A ++ B ++ Bh).map (·.z)) := by
      rw [List.map_append, List.map_append]
      exact ((nms_sub' A).append (nms_sub' B)).append (nms_sub' Bh)
    exact h.all.nd.sublist s
  have hlet : ∀ z ∈ K65.nms A ++ K65.nms B ++ K65.nms Bh, ∃ j, j < 20 ∧ z = letS j := fun z hz => by
    have : ∃ r ∈ A ++ B ++ Bh, r.z = z := by
      rcases List.mem_append.mp hz with hz | hz
      · rcases List.mem_append.mp hz with hz | hz
        · obtain ⟨r, h1, _, e⟩ := mem_nms hz
          exact ⟨r, List.mem_append_left _ (List.mem_append_left _ h1), e⟩
        · obtain ⟨r, h1, _, e⟩ := mem_nms hz
          exact ⟨r, List.mem_append_left _ (List.mem_append_right _ h1), e⟩
      · obtain ⟨r, h1, _, e⟩ := mem_nms hz
        exact ⟨r, List.mem_append_right _ h1, e⟩
    obtain ⟨r, hr, e⟩ := this
    obtain ⟨j, hj, ej⟩ := h.letter hr
    exact ⟨j, hj, e ▸ ej⟩
  -- the others, in one row
  have ho : ((["told"] : List Str) ++ (if g = true then [("tag" : Str)] else []) ++ bars).Nodup := by
    refine List.nodup_append.mpr ⟨by cases g <;> decide +kernel, hb, fun x hx y hy e => ?_⟩
    have hx' : x = "told" ∨ x = "tag" := by
      rcases List.mem_append.mp hx with hx | hx
      · exact .inl (List.mem_singleton.mp hx)
      · split at hx
        · exact .inr (List.mem_singleton.mp hx)
        · cases hx
    rcases hx' with rfl | rfl <;> rcases hb2 y hy with rfl | rfl <;> exact absurd e (by decide +kernel)
  have pm : (K65.nms rows ++ bars).Perm ((K65.nms A ++ K65.nms B ++ K65.nms Bh) ++ ([("told" : Str)] ++ (if g = true then [("tag" : Str)] else []) ++ bars)) := by
    rw [h.nms]
    simp only [List.append_assoc]
    refine List.Perm.append_left _ (List.Perm.append_left _ ?_)
    have := List.perm_append_comm (l₁ := (["told"] : List Str)) (l₂ := K65.nms Bh)
    have := this.append_right ((if g = true then [("tag" : Str)] else []) ++ bars)
    simpa only [List.append_assoc] using this
  refine pm.nodup_iff.mpr (List.nodup_append.mpr ⟨hl, ho, fun x hx y hy e => ?_⟩)
  obtain ⟨j, hj, ej⟩ := hlet x hx
  have hy' : y ∈ (["told", "rest", "tag", "shut", "shuts"] : List Str) := by
    rcases List.mem_append.mp hy with hy | hy
    · rcases List.mem_append.mp hy with hy | hy
      · rw [List.mem_singleton.mp hy]; decide +kernel
      · split at hy
        · rw [List.mem_singleton.mp hy]; decide +kernel
        · cases hy
    · rcases hb2 y hy with rfl | rfl <;> decide +kernel
  exact let_ne j (by omega) y hy' (by rw [← ej, e])
theorem Shape.valid (h : Shape rows A B Bh E td t g gb b) {bars : List Str} (hb : bars.Nodup) (hb2 : ∀ z ∈ bars, z = "shut" ∨ z = "shuts") (l2 : bars.length ≤ 2) (tok : td.ok) : Valid rows bars := by
  have la := h.la
  have lb := h.lb
  have lh := h.lh
  have le : E.length ≤ 3 := by rw [h.en]; cases t <;> cases g <;> cases b <;> cases gb <;> decide
  refine ⟨fun r hr => ?_, ?_, by omega, ?_, fun z hz => ?_, h.nodup hb hb2⟩
  · rw [h.eq] at hr
    rcases List.mem_append.mp hr with hr | hr
    · rcases List.mem_append.mp hr with hr | hr
      · rcases List.mem_append.mp hr with hr | hr
        · rcases List.mem_append.mp hr with hr | hr
          · exact (h.pa.mem hr).2.1
          · exact (h.pb.mem hr).2.1
        · rw [List.mem_singleton.mp hr]; exact tok
      · exact (h.ph.mem hr).2.1
    · rw [h.en] at hr
      unfold endsR at hr
      rcases List.mem_append.mp hr with hr | hr
      · rcases List.mem_append.mp hr with hr | hr
        · split at hr
          · rw [List.mem_singleton.mp hr]; exact ⟨by show 2 < 5; decide, by decide +kernel⟩
          · cases hr
        · split at hr
          · rw [List.mem_singleton.mp hr]; exact ⟨by show 3 < 5; decide, (by decide +kernel : nameB "tag" = true)⟩
          · cases hr
      · split at hr
        · rw [List.mem_singleton.mp hr]; exact ⟨by show 4 < 5; decide, by decide +kernel⟩
        · cases hr
  · rw [h.eq]
    simp only [List.length_append, List.length_singleton]
    omega
  · rw [h.eq, h.en]
    unfold endsR
    have g0 : ∀ r ∈ A ++ B ++ [td] ++ Bh, grp r.k = 0 := fun r hr => by
      have : r.k ≤ 1 := by
        rcases List.mem_append.mp hr with hr | hr
        · rcases List.mem_append.mp hr with hr | hr
          · rcases List.mem_append.mp hr with hr | hr
            · exact (h.pa.mem hr).1
            · exact (h.pb.mem hr).1
          · rw [List.mem_singleton.mp hr, h.tk]; exact Nat.le_refl _
        · exact (h.ph.mem hr).1
      rcases Nat.le_one_iff_eq_zero_or_eq_one.mp this with e | e <;> rw [e] <;> rfl
    rw [List.append_assoc (if t = true then _ else _)]
    refine ord_all g0 (fun r hr => ?_) (by split <;> simp) (fun r hr => ?_) (fun r hr => ?_) (by split <;> simp)
    · split at hr
      · rw [List.mem_singleton.mp hr]; rfl
      · cases hr
    · split at hr
      · rw [List.mem_singleton.mp hr]; rfl
      · cases hr
    · split at hr
      · rw [List.mem_singleton.mp hr]; rfl
      · cases hr
  · rcases hb2 z hz with rfl | rfl <;> decide +kernel
end
end K65

set_option Elab.async false
set_option linter.all false
set_option maxRecDepth 100000
set_option maxHeartbeats 4000000
namespace K65
open PySem L2 PyProof.Rows
theorem lack_app {many : Nat} {fk : List (Key × V)} : ∀ (X Y : List Rw) (i : Nat), lackF many fk i (X ++ Y) = lackF many fk i X ++ lackF many fk (i + X.length) Y
  | [], _, _ => rfl
  | x :: X, Y, i => by
    show _ ++ lackF many fk (i + 1) (X ++ Y) = (_ ++ lackF many fk (i + 1) X) ++ _
    rw [lack_app X Y (i + 1), List.append_assoc, List.length_cons, show i + 1 + X.length = i + (X.length + 1) by omega]
theorem lack_nil {many : Nat} {fk : List (Key × V)} : ∀ (X : List Rw) (i : Nat), (∀ (j : Nat) (r : Rw), X[j]? = some r → isLack r (i + j) many fk = false) → lackF many fk i X = []
  | [], _, _ => rfl
  | x :: X, i, h => by
    show (if isLack x i many fk = true then _ else []) ++ lackF many fk (i + 1) X = []
    have h0 : isLack x i many fk = false := h 0 x rfl
    rw [h0, if_neg Bool.false_ne_true, List.nil_append]
    exact lack_nil X (i + 1) fun j r e => by
      have := h (j + 1) r e
      rw [show i + (j + 1) = i + 1 + j by omega] at this
      exact this
theorem not_lack_free {r : Rw} {i many : Nat} {fk : List (Key × V)} (h : fr r.k r.b = true) : isLack r i many fk = false := by
  unfold isLack
  rw [h]
  rfl
theorem eqT_two {x y : V} : L2.eqT [x, y] [.str "free"] = false := by
  unfold L2.eqT
  rw [Bool.and_eq_false_iff]
  exact .inr rfl
theorem not_lack_place {r : Rw} {i many : Nat} {fk : List (Key × V)} (h : byPl r.k = true) (hi : i < many) : isLack r i many fk = false := by
  unfold isLack oneE
  rw [if_pos ⟨h, hi⟩, eqT_two, Bool.and_false]
theorem not_lack_name {r : Rw} {i many : Nat} {fk : List (Key × V)} (h : byNm r.k = true) (hs : (valV fk (.inr r.z)).isSome = true) : isLack r i many fk = false := by
  unfold isLack oneE
  split
  · rw [eqT_two, Bool.and_false]
  · rw [if_pos ⟨h, hs⟩, eqT_two, Bool.and_false]
theorem lack_seat {r : Rw} {i many : Nat} {fk : List (Key × V)} (hk : byNm r.k = false) (hi : ¬ i < many) : isLack r i many fk = !fr r.k r.b := by
  unfold isLack oneE
  rw [if_neg (fun z => hi z.2), if_neg (fun z => by rw [hk] at z; cases z.1)]
  have : L2.eqT [.str "free"] [.str "free"] = true := by decide +kernel
  rw [this, Bool.and_true]
/-- the numbers of the seats that are stuck -/
def stuckN : Nat → List Rw → List Nat
  | _, [] => []
  | i, r :: rs => (if stuck r = true then [i] else []) ++ stuckN (i + 1) rs
theorem lack_stuck {many : Nat} {fk : List (Key × V)} : ∀ (X : List Rw) (i : Nat), many ≤ i → (∀ r ∈ X, byNm r.k = true → (valV fk (.inr r.z)).isSome = true) → lackF many fk i X = (stuckN i X).map fun n => (("lacking" : Str), n)
  | [], _, _, _ => rfl
  | x :: X, i, hi, h => by
    show (if isLack x i many fk = true then [(("lacking" : Str), i)] else []) ++ lackF many fk (i + 1) X = ((if stuck x = true then [i] else []) ++ stuckN (i + 1) X).map _
    rw [lack_stuck X (i + 1) (by omega) fun r hr => h r (List.mem_cons_of_mem _ hr), List.map_append]
    congr 1
    cases eb : byNm x.k with
    | true =>
      have e1 : isLack x i many fk = false := not_lack_name eb (h x List.mem_cons_self eb)
      have e2 : stuck x = false := by unfold stuck; rw [eb]; rfl
      rw [e1, e2]
      rfl
    | false =>
      have e1 := lack_seat (fk := fk) eb (show ¬ i < many by omega)
      have e2 : stuck x = !fr x.k x.b := by unfold stuck; rw [eb]; rfl
      rw [e1, e2]
      cases fr x.k x.b <;> rfl
theorem stuckN_nil : ∀ (X : List Rw) (i : Nat), (stuckN i X = [] ↔ X.any stuck = false)
  | [], _ => ⟨fun _ => rfl, fun _ => rfl⟩
  | x :: X, i => by
    show (if stuck x = true then [i] else []) ++ stuckN (i + 1) X = [] ↔ (stuck x || X.any stuck) = false
    rw [List.append_eq_nil_iff, Bool.or_eq_false_iff, stuckN_nil X (i + 1)]
    cases stuck x <;> simp
theorem over_nil {rows : List Rw} {many : Nat} (h : many ≤ plN rows) : overF rows many = [] := by
  unfold overF
  split
  · rfl
  · rw [show many - plN rows = 0 by omega]
    rfl
theorem over_ne {rows : List Rw} {many : Nat} (ht : firstK 2 0 rows = none) (h : plN rows < many) : overF rows many ≠ [] := by
  unfold overF
  rw [ht]
  intro e
  rw [if_neg (by decide)] at e
  have := congrArg List.length e
  rw [List.length_map, List.length_range] at this
  simp at this
  omega
theorem unw_fine {rows : List Rw} {bars : List Str} {many j : Nat} {z : Str} (hz : z ∉ bars) (hv : valV (doorsF 0 [] rows) (.inr z) = some (.int (j : Nat))) (h : ¬ (j < plN rows ∧ j < many)) : unwW rows bars many z = none := by
  unfold unwW
  have e : unwW.lastD' z rows = some j := by unfold unwW.lastD'; rw [hv]; rfl
  rw [if_neg hz, e]
  exact if_neg h
theorem unw_again {rows : List Rw} {bars : List Str} {many j : Nat} {z : Str} (hz : z ∉ bars) (hv : valV (doorsF 0 [] rows) (.inr z) = some (.int (j : Nat))) (h : j < plN rows ∧ j < many) : unwW rows bars many z = some "again" := by
  unfold unwW
  have e : unwW.lastD' z rows = some j := by unfold unwW.lastD'; rw [hv]; rfl
  rw [if_neg hz, e]
  exact if_pos h
end K65

set_option Elab.async false
set_option linter.all false
set_option maxRecDepth 100000
set_option maxHeartbeats 4000000
namespace K65
open PySem L2 PyProof.Rows
def goodN (Bh : List Rw) (g : Bool) : List Str := nms Bh ++ (if g = true then [("tag" : Str)] else [])
section
variable {rows A B Bh E : List Rw} {td : Rw} {t g gb b : Bool} {bars : List Str}
theorem Shape.ndN (h : Shape rows A B Bh E td t g gb b) : (K65.nms rows).Nodup := by
  have := h.nodup (bars := []) List.nodup_nil (fun z hz => by cases hz)
  rwa [List.append_nil] at this
theorem Shape.at_td (h : Shape rows A B Bh E td t g gb b) : rows[A.length + B.length]? = some td := by
  rw [h.eq, List.append_assoc, List.append_assoc, List.getElem?_append_right (by rw [List.length_append]; exact Nat.le_refl _), List.length_append, Nat.sub_self]
  rfl
theorem Shape.at_bh (h : Shape rows A B Bh E td t g gb b) {j : Nat} {r : Rw} (hr : Bh[j]? = some r) : rows[A.length + B.length + 1 + j]? = some r := by
  have hj : j < Bh.length := (List.getElem?_eq_some_iff.mp hr).1
  rw [h.eq, List.getElem?_append_left (by simp only [List.length_append, List.length_singleton]; omega), List.getElem?_append_right (by simp only [List.length_append, List.length_singleton]; omega)]
  simp only [List.length_append, List.length_singleton]
  rw [show A.length + B.length + 1 + j - (A.length + B.length + 1) = j by omega]
  exact hr
theorem Shape.at_e (h : Shape rows A B Bh E td t g gb b) {j : Nat} {r : Rw} (hr : E[j]? = some r) : rows[K65.plN rows + j]? = some r := by
  rw [h.plN, h.eq, List.getElem?_append_right (by simp only [List.length_append, List.length_singleton]; omega)]
  simp only [List.length_append, List.length_singleton]
  rw [show A.length + B.length + 1 + Bh.length + j - (A.length + B.length + 1 + Bh.length) = j by omega]
  exact hr
theorem Shape.told_at (h : Shape rows A B Bh E td t g gb b) : valV (doorsF 0 [] rows) (.inr ("told" : Str)) = some (.int ((A.length + B.length : Nat) : Int)) := by
  have := doors_at (r := td) (by rw [h.tk]; rfl) rows 0 _ [] h.at_td h.ndN
  rw [Nat.zero_add, h.tz] at this
  exact this
/-- a good name leads behind the told both -/
theorem Shape.good_at (h : Shape rows A B Bh E td t g gb b) {z : Str} (hz : z ∈ goodN Bh g) : ∃ j, A.length + B.length < j ∧ valV (doorsF 0 [] rows) (.inr z) = some (.int (j : Nat)) := by
  rcases List.mem_append.mp hz with hz | hz
  · obtain ⟨r, hr, hb, ez⟩ := mem_nms hz
    obtain ⟨j, hj, e⟩ := List.mem_iff_getElem.mp hr
    have := doors_at hb rows 0 _ [] (h.at_bh (j := j) (r := r) (by rw [List.getElem?_eq_getElem hj, e])) h.ndN
    rw [Nat.zero_add, ez] at this
    exact ⟨_, by omega, this⟩
  · split at hz
    next hg =>
      have ez := List.mem_singleton.mp hz
      subst ez
      have hm : (⟨3, "tag", gb⟩ : Rw) ∈ E := by
        rw [h.en]
        unfold endsR
        rw [if_pos hg]
        exact List.mem_append_left _ (List.mem_append_right _ (List.mem_singleton.mpr rfl))
      obtain ⟨j, hj, e⟩ := List.mem_iff_getElem.mp hm
      have := doors_at (r := ⟨3, "tag", gb⟩) rfl rows 0 _ [] (h.at_e (j := j) (by rw [List.getElem?_eq_getElem hj, e])) h.ndN
      rw [Nat.zero_add] at this
      exact ⟨_, by rw [h.plN]; omega, this⟩
    · cases hz
theorem Shape.good_nd (h : Shape rows A B Bh E td t g gb b) : (("told" : Str) :: goodN Bh g).Nodup := by
  have := h.ndN
  rw [h.nms] at this
  have s : List.Sublist (("told" : Str) :: goodN Bh g) (K65.nms A ++ K65.nms B ++ [("told" : Str)] ++ K65.nms Bh ++ (if g = true then [("tag" : Str)] else [])) := by
    unfold goodN
    simp only [List.append_assoc]
    refine List.Sublist.trans ?_ (List.sublist_append_right _ _)
    exact List.Sublist.trans (List.Sublist.refl _) (List.sublist_append_right _ _)
  exact this.sublist s
theorem Shape.good_bar (h : Shape rows A B Bh E td t g gb b) (hb : bars.Nodup) (hb2 : ∀ z ∈ bars, z = "shut" ∨ z = "shuts") {z : Str} (hz : z ∈ K65.nms rows) : z ∉ bars := fun hz2 => (List.nodup_append.mp (h.nodup hb hb2)).2.2 z hz z hz2 rfl
theorem Shape.good_mem (h : Shape rows A B Bh E td t g gb b) {z : Str} (hz : z ∈ ("told" : Str) :: goodN Bh g) : z ∈ K65.nms rows := by
  rw [h.nms]
  rcases List.mem_cons.mp hz with rfl | hz
  · simp
  · unfold goodN at hz
    rcases List.mem_append.mp hz with hz | hz
    · simp [hz]
    · exact List.mem_append_right _ hz
theorem some_of {zs : List Str} {z : Str} (h : z ∈ zs) : (valV (kvP (fpZ zs)) (.inr z)).isSome = true := by
  rw [kvP_any]
  exact fp_mem zs 0 [] h
theorem Shape.whole (h : Shape rows A B Bh E td t g gb b) (hb : bars.Nodup) (hb2 : ∀ z ∈ bars, z = "shut" ∨ z = "shuts") :
    missF rows bars (A.length + B.length) (("told" : Str) :: goodN Bh g) = (stuckN (A.length + B.length + 1) Bh).map fun n => (("lacking" : Str), n) := by
  unfold missF
  rw [dbl_Z h.good_nd, over_nil (by rw [h.plN]; omega), unw_nil (fun z hz => ?_)]
  · rw [List.nil_append, List.nil_append, List.nil_append]
    have hs : ∀ z ∈ ("told" : Str) :: goodN Bh g, (valV (kvP (fpZ (("told" : Str) :: goodN Bh g))) (.inr z)).isSome = true := fun z hz => some_of hz
    generalize kvP (fpZ (("told" : Str) :: goodN Bh g)) = fk at hs
    conv => lhs; rw [h.eq]
    rw [lack_app, lack_app, lack_app]
    have e1 : lackF (A.length + B.length) fk 0 (A ++ B) = [] := lack_nil _ _ fun j r e => by
      have hj : j < (A ++ B).length := (List.getElem?_eq_some_iff.mp e).1
      rw [List.length_append] at hj
      have hk : r.k ≤ 1 := by
        rcases List.mem_append.mp (List.mem_of_getElem? e) with hr | hr
        · exact (h.pa.mem hr).1
        · exact (h.pb.mem hr).1
      exact not_lack_place (pl_byPl hk) (by omega)
    have e2 : lackF (A.length + B.length) fk (0 + (A ++ B).length) [td] = [] := lack_nil _ _ fun j r e => by
      have er : td = r := by
        cases j with
        | zero => simpa using e
        | succ j => simp at e
      subst er
      exact not_lack_name (by rw [h.tk]; rfl) (by rw [h.tz]; exact hs _ List.mem_cons_self)
    have e3 : lackF (A.length + B.length) fk (0 + (A ++ B ++ [td]).length) Bh = (stuckN (A.length + B.length + 1) Bh).map fun n => (("lacking" : Str), n) := by
      have el : 0 + (A ++ B ++ [td]).length = A.length + B.length + 1 := by simp only [List.length_append, List.length_singleton]; omega
      rw [el]
      refine lack_stuck Bh _ (by omega) fun r hr hbr => hs _ (List.mem_cons_of_mem _ (List.mem_append_left _ ?_))
      unfold K65.nms
      exact List.mem_map.mpr ⟨r, List.mem_filter.mpr ⟨hr, hbr⟩, rfl⟩
    have e4 : lackF (A.length + B.length) fk (0 + (A ++ B ++ [td] ++ Bh).length) E = [] := lack_nil _ _ fun j r e => by
      have hm := List.mem_of_getElem? e
      rw [h.en] at hm
      unfold endsR at hm
      rcases List.mem_append.mp hm with hm | hm
      · rcases List.mem_append.mp hm with hm | hm
        · split at hm
          · rw [List.mem_singleton.mp hm]; exact not_lack_free rfl
          · cases hm
        · split at hm
          next hg =>
            rw [List.mem_singleton.mp hm]
            exact not_lack_name rfl (hs _ (List.mem_cons_of_mem _ (List.mem_append_right _ (by rw [if_pos hg]; exact List.mem_singleton.mpr rfl))))
          · cases hm
      · split at hm
        · rw [List.mem_singleton.mp hm]; exact not_lack_free rfl
        · cases hm
    rw [e1, e2, e3, e4, List.append_nil, List.append_nil, List.nil_append]
  · have hn := h.good_bar hb hb2 (h.good_mem hz)
    rcases List.mem_cons.mp hz with rfl | hz
    · exact unw_fine hn h.told_at (fun z => absurd z.2 (Nat.lt_irrefl _))
    · obtain ⟨j, hj, hv⟩ := h.good_at hz
      exact unw_fine hn hv (fun z => absurd z.2 (by omega))
end
end K65

set_option Elab.async false
set_option linter.all false
set_option maxRecDepth 100000
set_option maxHeartbeats 4000000
namespace K65
open PySem L2 PyProof.Rows
theorem lack_word {many : Nat} {fk : List (Key × V)} : ∀ (X : List Rw) (i : Nat) (m : Str × Nat), m ∈ lackF many fk i X → m.1 = "lacking"
  | [], _, _, h => by cases h
  | x :: X, i, m, h => by
    have h' : m ∈ (if isLack x i many fk = true then [(("lacking" : Str), i)] else []) ++ lackF many fk (i + 1) X := h
    rcases List.mem_append.mp h' with h1 | h1
    · split at h1
      · rw [List.mem_singleton.mp h1]
      · cases h1
    · exact lack_word X (i + 1) m h1
section
variable {rows A B Bh E : List Rw} {td : Rw} {t g gb b : Bool} {bars : List Str}
theorem Shape.first (h : Shape rows A B Bh E td t g gb b) (hb : bars.Nodup) (hb2 : ∀ z ∈ bars, z = "shut" ∨ z = "shuts") : ∀ m ∈ missF rows bars A.length ["told"], m.1 = "lacking" := by
  unfold missF
  rw [dbl_Z (by decide +kernel), over_nil (by rw [h.plN]; omega), unw_nil (fun z hz => ?_), List.nil_append, List.nil_append, List.nil_append]
  · exact fun m hm => lack_word _ _ m hm
  · have ez := List.mem_singleton.mp hz
    subst ez
    exact unw_fine (h.good_bar hb hb2 (h.good_mem List.mem_cons_self)) h.told_at (fun z => absurd z.2 (by omega))
theorem Shape.more (h : Shape rows A B Bh E td t g gb b) (hb : bars.Nodup) (hb2 : ∀ z ∈ bars, z = "shut" ∨ z = "shuts") {n : Nat} {zs : List Str} (hn : B.length < n) : missF rows bars (A.length + n) (("told" : Str) :: zs) ≠ [] := by
  intro e
  unfold missF at e
  simp only [List.append_eq_nil_iff] at e
  exact unw_ne List.mem_cons_self (unw_again (h.good_bar hb hb2 (h.good_mem List.mem_cons_self)) h.told_at ⟨by rw [h.plN]; omega, by omega⟩) e.1.2
/-! ### the form that is left -/
def asTags (rs : List Rw) : List Rw := (rs.filter fun r => byNm r.k).map fun r => ⟨3, r.z, fr r.k r.b⟩
theorem tags_as {names : List Str} {rs : List Rw} (h : ∀ r ∈ rs, r.z ∉ names) : tagsR names rs = asTags rs := by
  unfold tagsR asTags
  congr 1
  apply List.filter_congr
  intro r hr
  rw [decide_eq_false (h r hr)]
  simp
theorem tags_app (names : List Str) (X Y : List Rw) : tagsR names (X ++ Y) = tagsR names X ++ tagsR names Y := by
  unfold tagsR
  rw [List.filter_append, List.map_append]
theorem first_skip {kk : Nat} : ∀ (X Y : List Rw) (i : Nat), (∀ r ∈ X, ¬ r.k = kk) → firstK kk i (X ++ Y) = firstK kk (i + X.length) Y
  | [], _, _, _ => rfl
  | x :: X, Y, i, h => by
    show (if x.k = kk then some i else firstK kk (i + 1) (X ++ Y)) = _
    rw [if_neg (h x List.mem_cons_self), first_skip X Y (i + 1) fun r hr => h r (List.mem_cons_of_mem _ hr), List.length_cons]
    congr 1
    omega
theorem Shape.kinds (h : Shape rows A B Bh E td t g gb b) {r : Rw} (hr : r ∈ A ++ B ++ [td] ++ Bh) : r.k ≤ 1 := by
  rcases List.mem_append.mp hr with hr | hr
  · rcases List.mem_append.mp hr with hr | hr
    · rcases List.mem_append.mp hr with hr | hr
      · exact (h.pa.mem hr).1
      · exact (h.pb.mem hr).1
    · rw [List.mem_singleton.mp hr, h.tk]; exact Nat.le_refl _
  · exact (h.ph.mem hr).1
theorem Shape.bag (h : Shape rows A B Bh E td t g gb b) : bagR rows = if b = true then [⟨4, "rest", true⟩] else [] := by
  have e : firstK 4 0 rows = firstK 4 (A ++ B ++ [td] ++ Bh).length E := by
    conv => lhs; rw [h.eq]
    rw [first_skip _ _ 0 (fun r hr => by have := h.kinds hr; omega), Nat.zero_add]
  have ed : ∀ n, rows.drop ((A ++ B ++ [td] ++ Bh).length + n) = E.drop n := fun n => by
    conv => lhs; rw [h.eq]
    rw [List.drop_append, List.drop_of_length_le (Nat.le_add_right _ _), Nat.add_sub_cancel_left, List.nil_append]
  unfold bagR
  rw [e, h.en]
  rw [h.en] at ed
  have d0 := congrArg (List.take 1) (ed 0)
  have d1 := congrArg (List.take 1) (ed 1)
  have d2 := congrArg (List.take 1) (ed 2)
  cases t <;> cases g <;> cases b <;> first | rfl | exact d0 | exact d1 | exact d2
end
end K65

set_option Elab.async false
set_option linter.all false
set_option maxRecDepth 100000
set_option maxHeartbeats 4000000
namespace K65
open PySem L2 PyProof.Rows
def tagE (g gb : Bool) : List Rw := if g = true then [⟨3, "tag", gb⟩] else []
def bagE (b : Bool) : List Rw := if b = true then [⟨4, "rest", true⟩] else []
section
variable {rows A B Bh E : List Rw} {td : Rw} {t g gb b : Bool} {bars : List Str}
theorem Shape.left (h : Shape rows A B Bh E td t g gb b) : leftR rows ["told"] A.length (A.length + B.length) = B ++ (asTags Bh ++ tagE g gb) ++ bagE b := by
  unfold leftR
  rw [h.plR, h.rest, h.bag]
  have e1 : ((A ++ B ++ [td] ++ Bh).drop A.length).take (A.length + B.length - A.length) = B := by
    rw [List.append_assoc, List.append_assoc, List.drop_left, Nat.add_sub_cancel_left, List.take_left]
  have e2 : (A ++ B ++ [td] ++ Bh).drop (A.length + B.length) = [td] ++ Bh := by
    rw [List.append_assoc, ← List.length_append, List.drop_left]
  rw [e1, e2, List.append_nil, tags_app, tags_app]
  have e3 : tagsR ["told"] [td] = [] := by
    unfold tagsR
    rw [List.filter_cons, h.tz]
    rw [if_neg (by simp)]
    rfl
  have la := h.la
  have lb := h.lb
  have lh := h.lh
  have e4 : tagsR ["told"] Bh = asTags Bh := tags_as fun r hr z => by
    obtain ⟨_, _, j, hj, ez⟩ := h.ph.mem hr
    rw [ez] at z
    exact let_ne _ (by omega) "told" (by decide +kernel) (List.mem_singleton.mp z)
  have e5 : tagsR ["told"] E = tagE g gb := by
    rw [h.en]
    cases t <;> cases g <;> cases b <;> rfl
  rw [e3, e4, e5, List.nil_append]
  rfl
theorem Shape.leftBars (h : Shape rows A B Bh E td t g gb b) : leftB rows bars ["told"] A.length = bars ++ K65.nms A ++ [("told" : Str)] := by
  unfold leftB
  have e : (A ++ B ++ [td] ++ Bh).take A.length = A := by rw [List.append_assoc, List.append_assoc, List.take_left]
  rw [h.plR, e]
  rfl
theorem as_nms (rs : List Rw) : K65.nms (asTags rs) = K65.nms rs := by
  unfold asTags K65.nms
  rw [List.filter_map, List.map_map]
  have : (List.filter (fun r => byNm r.k) rs).filter ((fun r => byNm r.k) ∘ fun r => (⟨3, r.z, fr r.k r.b⟩ : Rw)) = List.filter (fun r => byNm r.k) rs := List.filter_eq_self.mpr fun _ _ => rfl
  rw [this]
  rfl
theorem Shape.left_nms (h : Shape rows A B Bh E td t g gb b) : K65.nms (leftR rows ["told"] A.length (A.length + B.length)) = K65.nms B ++ goodN Bh g := by
  rw [h.left, nms_app, nms_app, nms_app, as_nms]
  have e1 : K65.nms (tagE g gb) = if g = true then [("tag" : Str)] else [] := by cases g <;> rfl
  have e2 : K65.nms (bagE b) = [] := by cases b <;> rfl
  rw [e1, e2, List.append_nil]
  rfl
theorem Shape.left_pl (h : Shape rows A B Bh E td t g gb b) : K65.plN (leftR rows ["told"] A.length (A.length + B.length)) = B.length := by
  unfold K65.plN
  rw [h.left, List.filter_append, List.filter_append, List.filter_append, h.pb.pl]
  have e1 : (asTags Bh).filter (fun r => byPl r.k) = [] := List.filter_eq_nil_iff.mpr fun r hr => by
    unfold asTags at hr
    obtain ⟨r', _, rfl⟩ := List.mem_map.mp hr
    exact Bool.false_ne_true
  have e2 : (tagE g gb).filter (fun r => byPl r.k) = [] := by cases g <;> rfl
  have e3 : (bagE b).filter (fun r => byPl r.k) = [] := by cases b <;> rfl
  rw [e1, e2, e3, List.append_nil, List.append_nil, List.append_nil]
theorem Shape.left_nd (h : Shape rows A B Bh E td t g gb b) : (K65.nms (leftR rows ["told"] A.length (A.length + B.length))).Nodup := by
  rw [h.left_nms]
  have := h.ndN
  rw [h.nms] at this
  refine this.sublist ?_
  unfold goodN
  simp only [List.append_assoc]
  refine List.Sublist.trans ?_ (List.sublist_append_right _ _)
  exact (List.Sublist.refl _).append (List.sublist_append_right _ _)
theorem Shape.left_more (h : Shape rows A B Bh E td t g gb b) {bs : List Str} {n : Nat} {zs : List Str} (hn : B.length < n) : missF (leftR rows ["told"] A.length (A.length + B.length)) bs n zs ≠ [] := by
  intro e
  unfold missF at e
  simp only [List.append_eq_nil_iff] at e
  refine over_ne ?_ (by rw [h.left_pl]; exact hn) e.1.1.2
  rw [h.left, List.append_assoc, first_skip B _ 0 (fun r hr => by have := (h.pb.mem hr).1; omega), List.append_assoc, first_skip (asTags Bh) _ _ (fun r hr => by
    unfold asTags at hr
    obtain ⟨r', _, rfl⟩ := List.mem_map.mp hr
    exact (by decide : ¬ (3 : Nat) = 2))]
  cases g <;> cases b <;> rfl
end
end K65

set_option Elab.async false
set_option linter.all false
set_option maxRecDepth 100000
set_option maxHeartbeats 4000000
namespace K65
open PySem L2 PyProof.Rows
section
variable {rows A B Bh E : List Rw} {td : Rw} {t g gb b : Bool} {bars : List Str}
theorem Shape.left_good (h : Shape rows A B Bh E td t g gb b) (hb : bars.Nodup) (hb2 : ∀ z ∈ bars, z = "shut" ∨ z = "shuts") : missF (leftR rows ["told"] A.length (A.length + B.length)) (leftB rows bars ["told"] A.length) B.length (goodN Bh g) = [] := by
  have gnd := (List.nodup_cons.mp h.good_nd)
  have ndN := h.ndN
  unfold missF
  rw [dbl_Z gnd.2, over_nil (by rw [h.left_pl]; exact Nat.le_refl _), unw_nil (fun z hz => ?_), List.nil_append, List.nil_append, List.nil_append]
  · have hs : ∀ z ∈ goodN Bh g, (valV (kvP (fpZ (goodN Bh g))) (.inr z)).isSome = true := fun z hz => some_of hz
    generalize kvP (fpZ (goodN Bh g)) = fk at hs
    rw [h.left, lack_app, lack_app, lack_app]
    have e1 : lackF B.length fk 0 B = [] := lack_nil _ _ fun j r e => by
      have hj : j < B.length := (List.getElem?_eq_some_iff.mp e).1
      exact not_lack_place (pl_byPl (h.pb.mem (List.mem_of_getElem? e)).1) (by omega)
    have e2 : ∀ i, lackF B.length fk i (asTags Bh) = [] := fun i => lack_nil _ _ fun j r e => by
      have hm := List.mem_of_getElem? e
      unfold asTags at hm
      obtain ⟨r', hr', rfl⟩ := List.mem_map.mp hm
      refine not_lack_name rfl (hs _ (List.mem_append_left _ ?_))
      unfold K65.nms
      exact List.mem_map.mpr ⟨r', hr', rfl⟩
    have e3 : ∀ i, lackF B.length fk i (tagE g gb) = [] := fun i => lack_nil _ _ fun j r e => by
      have hm := List.mem_of_getElem? e
      unfold tagE at hm
      split at hm
      next hg =>
        rw [List.mem_singleton.mp hm]
        exact not_lack_name rfl (hs _ (List.mem_append_right _ (by rw [if_pos hg]; exact List.mem_singleton.mpr rfl)))
      · cases hm
    have e4 : ∀ i, lackF B.length fk i (bagE b) = [] := fun i => lack_nil _ _ fun j r e => by
      have hm := List.mem_of_getElem? e
      unfold bagE at hm
      split at hm
      · rw [List.mem_singleton.mp hm]; exact not_lack_free rfl
      · cases hm
    rw [e1, e2, e3, e4]
    rfl
  · have hz0 := h.good_mem (List.mem_cons_of_mem _ hz)
    have n1 := h.good_bar hb hb2 hz0
    have n2 : z ∉ K65.nms A := fun hA => by
      rw [h.nms] at ndN
      have d := (List.nodup_append.mp (show (K65.nms A ++ (K65.nms B ++ [("told" : Str)] ++ K65.nms Bh ++ (if g = true then [("tag" : Str)] else []))).Nodup by simpa only [List.append_assoc] using ndN)).2.2
      refine d z hA z ?_ rfl
      unfold goodN at hz
      simp only [List.append_assoc]
      exact List.mem_append_right _ (List.mem_append_right _ hz)
    have n3 : ¬ z = "told" := fun e => gnd.1 (e ▸ hz)
    have n4 : z ∉ leftB rows bars ["told"] A.length := fun hl => by
      rw [h.leftBars] at hl
      rcases List.mem_append.mp hl with hl | hl
      · rcases List.mem_append.mp hl with hl | hl
        · exact n1 hl
        · exact n2 hl
      · exact n3 (List.mem_singleton.mp hl)
    have hzL : z ∈ K65.nms (leftR rows ["told"] A.length (A.length + B.length)) := by rw [h.left_nms]; exact List.mem_append_right _ hz
    obtain ⟨r, hr, hbr, ez⟩ := mem_nms hzL
    obtain ⟨j, hj, e⟩ := List.mem_iff_getElem.mp hr
    have ej : (leftR rows ["told"] A.length (A.length + B.length))[j]? = some r := by rw [List.getElem?_eq_getElem hj, e]
    have hv := doors_at hbr _ 0 j [] ej h.left_nd
    rw [Nat.zero_add, ez] at hv
    refine unw_fine n4 hv fun hjj => ?_
    have hjB := hjj.2
    rw [h.left, List.append_assoc, List.getElem?_append_left hjB] at ej
    have hzB : z ∈ K65.nms B := by
      unfold K65.nms
      exact List.mem_map.mpr ⟨r, List.mem_filter.mpr ⟨List.mem_of_getElem? ej, hbr⟩, ez⟩
    have d := h.left_nd
    rw [h.left_nms] at d
    exact (List.nodup_append.mp d).2.2 z hzB z hz rfl
end
end K65

set_option Elab.async false
set_option linter.all false
set_option maxRecDepth 100000
set_option maxHeartbeats 4000000
namespace K65
open PySem L2 PyProof.Rows
/-! ### blocks that choose -/
theorem filt_snoc {α : Type} {ys : List α} {i : Nat} {y : α} (keep : α → Bool) (hy : ys[i]? = some y) : (ys.take (i + 1)).filter keep = (ys.take i).filter keep ++ (if keep y = true then [y] else []) := by
  have hi : i < ys.length := (List.getElem?_eq_some_iff.mp hy).1
  have e : ys[i] = y := (List.getElem?_eq_some_iff.mp hy).2
  rw [List.take_succ_eq_append_getElem hi, List.filter_append, e, List.filter_cons]
  rfl
theorem filt_le {α : Type} {ys : List α} {i : Nat} (keep : α → Bool) : ((ys.take i).filter keep).length ≤ i := by
  have := List.length_filter_le keep (ys.take i)
  rw [List.length_take] at this
  omega
theorem lc_sel {α : Type} {K : PySem.W.Frag} {a : Addr} {xs : List V} {caps : List (Option Nat)} {g : TG} {tt : TT} {te : TE} {σ : L2.St} {H1 : Hp} {Q : VK} {D : Addr} (ys : List α) (keep : α → Bool) (out : α → V) (hD : H1 D = none) (ha : SqL K H1 a xs) (hl : xs.length = ys.length) (hn : xs.length ≤ 1000)
    (hs : ∀ (i : Nat) (x : V) (y : α) (H : Hp) (N : VK) (S : Hp → Prop), xs[i]? = some x → ys[i]? = some y → Same H1 H → (∀ H', Same H H' → keep y = true → N (out y) H') → (∀ H', Same H H' → keep y = false → S H') → g x (capS caps σ) H fun σ2 H2 => tt σ2 H2 fun ok H3 => (ok = true → te σ2 H3 N) ∧ (ok = false → S H3))
    (hd : ∀ H, Same H1 H → H D = some (.lst ((ys.filter keep).map out)) → Q (.ref D) H) : LCr (Itl K a) caps g tt te σ H1 Q D := by
  refine lc_list (K := K) (xs := xs) (fun i zs H' => Same H1 H' ∧ H' D = some (.lst zs) ∧ zs = ((ys.take i).filter keep).map out) ⟨same_new hD _, upd_same, rfl⟩ (fun i zs H' h => h.1.seq ha) ?_ ?_
  · rintro i x zs H' hlt hx ⟨sH, hDy, ez⟩
    obtain ⟨y, hy⟩ : ∃ y, ys[i]? = some y := ⟨_, List.getElem?_eq_getElem (by omega)⟩
    refine hs i x y H' _ _ hx hy sH (fun H2 s2 hk => ?_) (fun H2 s2 hk => ?_)
    · refine lcN.mk hlt (le1000 hn) (s2 _ _ hDy) (by rw [ez, List.length_map]; exact filt_le _) ⟨fun b' u e => ?_, upd_same, ?_⟩
      · rw [upd_ne (ne_of_none e hD)]
        exact s2 _ _ (sH b' u e)
      · rw [ez, filt_snoc keep hy, if_pos hk, List.map_append]
        rfl
    · refine lcS.mk hlt ⟨sH.trans s2, s2 _ _ hDy, ?_⟩
      rw [ez, filt_snoc keep hy, if_neg (by rw [hk]; exact Bool.false_ne_true), List.append_nil]
  · rintro zs H2 ⟨s2, hDy, ez⟩
    rw [List.take_of_length_le (by omega)] at ez
    rw [ez] at hDy
    exact hd H2 s2 hDy
theorem lc_sele {α : Type} {K : PySem.W.Frag} {a : Addr} {xs : List V} {caps : List (Option Nat)} {g : TG} {tt : TT} {te : TE} {σ : L2.St} {H1 : Hp} {Q : VK} {D : Addr} (ys : List α) (keep : α → Bool) (out : α → V) (hD : H1 D = none) (ha : SqL K H1 a xs) (hl : xs.length = ys.length) (hn : xs.length ≤ 1000)
    (hs : ∀ (i : Nat) (x : V) (y : α) (p : Addr) (H : Hp) (N : VK) (S : Hp → Prop), xs[i]? = some x → ys[i]? = some y → H p = none → Same H1 H → (∀ H', Same H H' → keep y = true → N (out y) H') → (∀ H', Same H H' → keep y = false → S H') → g (.ref p) (capS caps σ) (upd H p (.tup [.int i, x])) fun σ2 H2 => tt σ2 H2 fun ok H3 => (ok = true → te σ2 H3 N) ∧ (ok = false → S H3))
    (hd : ∀ H, Same H1 H → H D = some (.lst ((ys.filter keep).map out)) → Q (.ref D) H) : LCr (Ite K a) caps g tt te σ H1 Q D := by
  refine lc_enum (K := K) (xs := xs) (fun i zs H' => Same H1 H' ∧ H' D = some (.lst zs) ∧ zs = ((ys.take i).filter keep).map out) ⟨same_new hD _, upd_same, rfl⟩ (fun i zs H' h => h.1.seq ha) ?_ ?_
  · rintro i x p zs H' hlt hx ⟨sH, hDy, ez⟩ hp
    obtain ⟨y, hy⟩ : ∃ y, ys[i]? = some y := ⟨_, List.getElem?_eq_getElem (by omega)⟩
    refine hs i x y p H' _ _ hx hy hp sH (fun H2 s2 hk => ?_) (fun H2 s2 hk => ?_)
    · refine lcN.mk hlt (le1000 hn) (s2 _ _ hDy) (by rw [ez, List.length_map]; exact filt_le _) ⟨fun b' u e => ?_, upd_same, ?_⟩
      · rw [upd_ne (ne_of_none e hD)]
        exact s2 _ _ (sH b' u e)
      · rw [ez, filt_snoc keep hy, if_pos hk, List.map_append]
        rfl
    · refine lcS.mk hlt ⟨sH.trans s2, s2 _ _ hDy, ?_⟩
      rw [ez, filt_snoc keep hy, if_neg (by rw [hk]; exact Bool.false_ne_true), List.append_nil]
  · rintro zs H2 ⟨s2, hDy, ez⟩
    rw [List.take_of_length_le (by omega)] at ez
    rw [ez] at hDy
    exact hd H2 s2 hDy
/-! ### the seats and the names that the law reads -/
def isSeat (r : Rw) : Bool := byPl r.k && (!byNm r.k && !fr r.k r.b)
def seatN (i : Nat) (rs : List Rw) : List Nat := ((rs.zipIdx i).filter fun p => isSeat p.1).map (·.2)
theorem seat_app (i : Nat) (X Y : List Rw) : seatN i (X ++ Y) = seatN i X ++ seatN (i + X.length) Y := by
  unfold seatN
  rw [List.zipIdx_append, List.filter_append, List.map_append]
theorem seat_stuck : ∀ (X : List Rw) (i : Nat), (∀ r ∈ X, byPl r.k = true) → seatN i X = stuckN i X
  | [], _, _ => rfl
  | x :: X, i, h => by
    have ih := seat_stuck X (i + 1) fun r hr => h r (List.mem_cons_of_mem _ hr)
    show (((x, i) :: X.zipIdx (i + 1)).filter fun p => isSeat p.1).map (·.2) = (if stuck x = true then [i] else []) ++ stuckN (i + 1) X
    rw [List.filter_cons, ← ih]
    have e : isSeat x = stuck x := by unfold isSeat stuck; rw [h x List.mem_cons_self]; rfl
    show (if isSeat x = true then _ else _ : List (Rw × Nat)).map (·.2) = _
    rw [e]
    cases stuck x <;> rfl
theorem seat_nil : ∀ (X : List Rw) (i : Nat), (∀ r ∈ X, isSeat r = false) → seatN i X = [] := fun X i h => by
  unfold seatN
  rw [List.filter_eq_nil_iff.mpr, List.map_nil]
  intro p hp
  rw [h p.1 (List.fst_mem_of_mem_zipIdx hp)]
  exact Bool.false_ne_true
theorem stuck_rng : ∀ (X : List Rw) (i n : Nat), n ∈ stuckN i X → i ≤ n ∧ n < i + X.length
  | [], _, _, h => by cases h
  | x :: X, i, n, h => by
    have h' : n ∈ (if stuck x = true then [i] else []) ++ stuckN (i + 1) X := h
    rw [List.length_cons]
    rcases List.mem_append.mp h' with h1 | h1
    · split at h1
      · have := List.mem_singleton.mp h1
        omega
      · cases h1
    · have := stuck_rng X (i + 1) n h1
      omega
section
variable {rows A B Bh E : List Rw} {td : Rw} {t g gb b : Bool} {bars : List Str}
theorem Shape.seats (h : Shape rows A B Bh E td t g gb b) : (seatN 0 rows).filter (fun k => decide (k > A.length + B.length)) = stuckN (A.length + B.length + 1) Bh := by
  have hb : ∀ r ∈ A ++ B, byPl r.k = true := fun r hr => pl_byPl (h.kinds (by simp only [List.mem_append] at hr ⊢; exact .inl (.inl hr)))
  have hh : ∀ r ∈ Bh, byPl r.k = true := fun r hr => pl_byPl (h.ph.mem hr).1
  have he : ∀ r ∈ E, isSeat r = false := fun r hr => by
    rw [h.en] at hr
    have := List.filter_eq_nil_iff.mp (ends_pl t g gb b) r hr
    unfold isSeat
    cases e : byPl r.k
    · rfl
    · exact absurd e this
  have e1 : seatN 0 (A ++ B) = stuckN 0 (A ++ B) := seat_stuck _ _ hb
  have ht : ∀ r ∈ [td], isSeat r = false := fun r hr => by
    rw [List.mem_singleton.mp hr]
    unfold isSeat
    rw [h.tk]
    rfl
  rw [h.eq, seat_app, seat_app, seat_app, seat_nil E _ he, seat_nil [td] _ ht, e1, seat_stuck Bh _ hh, List.append_nil, List.append_nil, List.filter_append]
  have l1 : (stuckN 0 (A ++ B)).filter (fun k => decide (k > A.length + B.length)) = [] := List.filter_eq_nil_iff.mpr fun n hn => by
    have := stuck_rng _ _ _ hn
    rw [List.length_append] at this
    rw [decide_eq_true_eq]
    omega
  rw [l1, List.nil_append]
  have l2 : 0 + (A ++ B ++ [td]).length = A.length + B.length + 1 := by simp only [List.length_append, List.length_singleton]; omega
  rw [l2]
  exact List.filter_eq_self.mpr fun n hn => by
    have := stuck_rng _ _ _ hn
    rw [decide_eq_true_eq]
    omega
theorem Shape.namesL (h : Shape rows A B Bh E td t g gb b) : ((rows.drop A.length).filter fun r => byNm r.k && decide (r.z ≠ ("told" : Str))).map (·.z) = K65.nms B ++ goodN Bh g := by
  have nd := h.ndN
  have e0 : rows.drop A.length = B ++ [td] ++ Bh ++ E := by
    rw [h.eq, List.append_assoc, List.append_assoc, List.append_assoc, List.drop_left, List.append_assoc, List.append_assoc]
  have e1 : ∀ X : List Rw, ("told" : Str) ∉ K65.nms X → (X.filter fun r => byNm r.k && decide (r.z ≠ ("told" : Str))).map (·.z) = K65.nms X := fun X hX => by
    unfold K65.nms
    congr 1
    apply List.filter_congr
    intro r hr
    cases hb : byNm r.k
    · rfl
    · have : r.z ≠ "told" := fun z => hX (List.mem_map.mpr ⟨r, List.mem_filter.mpr ⟨hr, hb⟩, z⟩)
      rw [decide_eq_true this]
      rfl
  rw [h.nms] at nd
  have nB : ("told" : Str) ∉ K65.nms B := fun hz => by
    have s : List.Sublist (K65.nms B ++ [("told" : Str)]) (K65.nms A ++ K65.nms B ++ [("told" : Str)] ++ K65.nms Bh ++ (if g = true then [("tag" : Str)] else [])) := by
      rw [List.append_assoc (K65.nms A), List.append_assoc, List.append_assoc]
      exact (List.sublist_append_left _ _).trans (List.sublist_append_right _ _)
    exact (List.nodup_append.mp (nd.sublist s)).2.2 _ hz _ (List.mem_singleton.mpr rfl) rfl
  have gn := (List.nodup_cons.mp h.good_nd).1
  have nH : ("told" : Str) ∉ K65.nms Bh := fun hz => gn (List.mem_append_left _ hz)
  have nE : ("told" : Str) ∉ K65.nms E := fun hz => gn (by
    rw [h.en, ends_nms] at hz
    exact List.mem_append_right _ hz)
  rw [e0, List.filter_append, List.filter_append, List.filter_append, List.map_append, List.map_append, List.map_append, e1 B nB, e1 Bh nH, e1 E nE]
  have e2 : ([td].filter fun r => byNm r.k && decide (r.z ≠ ("told" : Str))).map (·.z) = [] := by
    rw [List.filter_cons, h.tz]
    rw [if_neg (by rw [Bool.and_eq_true, not_and, decide_eq_true_eq]; exact fun _ z => z rfl)]
    rfl
  rw [e2, List.append_nil, h.en, ends_nms, List.append_assoc]
  rfl
theorem Shape.middle (h : Shape rows A B Bh E td t g gb b) : (((rows.drop A.length).take B.length).filter fun r => byNm r.k).map (·.z) = K65.nms B := by
  have e0 : (rows.drop A.length).take B.length = B := by
    rw [h.eq, List.append_assoc, List.append_assoc, List.append_assoc, List.drop_left, List.take_left]
  rw [e0]
  rfl
theorem Shape.goodF (h : Shape rows A B Bh E td t g gb b) : (K65.nms B ++ goodN Bh g).filter (fun z => !decide (z ∈ K65.nms B)) = goodN Bh g := by
  have nd := h.left_nd
  rw [h.left_nms] at nd
  rw [List.filter_append]
  have e1 : (K65.nms B).filter (fun z => !decide (z ∈ K65.nms B)) = [] := List.filter_eq_nil_iff.mpr fun z hz => by
    rw [decide_eq_true hz]
    exact Bool.false_ne_true
  rw [e1, List.nil_append]
  exact List.filter_eq_self.mpr fun z hz => by
    have : z ∉ K65.nms B := fun hb => (List.nodup_append.mp nd).2.2 _ hb _ hz rfl
    rw [decide_eq_false this]
    rfl
theorem Shape.none (h : Shape rows A B Bh E td t g gb b) : ((K65.plR rows).drop (A.length + B.length)).any stuck = Bh.any stuck := by
  rw [h.plR, List.append_assoc, ← List.length_append, List.drop_left, List.any_append]
  have : [td].any stuck = false := by
    show (stuck td || false) = false
    unfold stuck
    rw [h.tk]
    rfl
  rw [this, Bool.false_or]
end
end K65

set_option Elab.async false
set_option linter.all false
set_option maxRecDepth 100000
set_option maxHeartbeats 4000000
namespace K65
open PySem L2 PyProof.Rows
section
variable {P : Program} {w : World} {K : PySem.W.Frag} {mg : Str → Option Value} {base : Heap} {f CF CP N i0 i1 i2 i3 i4 : Addr} {fd d0 d1 d2 d3 d4 : FuncData} {c : C5} {m : MA}
theorem ndOn : ([Str.ofString "_law_one"] : List Str).Nodup := by decide +kernel
theorem ndNm : ([Str.ofString "_law_name_here", Str.ofString "_law_middle"] : List Str).Nodup := by decide +kernel
theorem ndWN : ([Str.ofString "_law_word", Str.ofString "_law_number"] : List Str).Nodup := by decide +kernel
theorem ndKO : ([Str.ofString "_law_k", Str.ofString "_law_one"] : List Str).Nodup := by decide +kernel
theorem ndKF : ([Str.ofString "_law_k", Str.ofString "_law_amid", Str.ofString "_law_first"] : List Str).Nodup := by decide +kernel
theorem scLaw : FnScope ["_law_script", "_law_first", "_law_amid", "_law_late", "_law_ends_here", "_law_row", "_law_behind", "_law_form", "_law_part", "_law_left", "_law_nothing", "_law_names", "_law_middle", "_law_good", "_law_more", "_law_some", "_law_lacking", "_law_seats"] ["_law_script"] (defScope sLaw) := ⟨rfl, rfl, rfl, by decide +kernel, rfl, by decide +kernel, by decide +kernel⟩
/-- what the part's left may be -/
def LeftV (c : C5) (CF : Addr) (H : Hp) (vl : V) (rows : List Rw) (bars : List Str) (A B Bh : List Rw) : Prop :=
  (vl = .non ∧ Bh.any stuck = true) ∨ ∃ g' : Addr, vl = .ref g' ∧ Bh.any stuck = false ∧ FormOk c CF H g' (leftR rows ["told"] A.length (A.length + B.length)) (leftB rows bars ["told"] A.length)
theorem LeftV.same {c : C5} {CF : Addr} {H H' : Hp} {vl : V} {rows : List Rw} {bars : List Str} {A B Bh : List Rw} (h : LeftV c CF H vl rows bars A B Bh) (s : Same H H') : LeftV c CF H' vl rows bars A B Bh := by
  rcases h with h | ⟨g, h1, h2, h3⟩
  · exact .inl h
  · exact .inr ⟨g, h1, h2, h3.same s⟩
theorem PtAt.same {K : PySem.W.Frag} {CP p f : Addr} {H H' : Hp} {ts : List Int} {ps : List (Str × Int)} (h : PtAt K CP H p f ts ps) (s : Same H H') : PtAt K CP H' p f ts ps := by
  obtain ⟨dx, l1, l2, ys, h1, h2, h3, h4⟩ := h
  exact ⟨dx, l1, l2, ys, s _ _ h1, s _ _ h2, s _ _ h3, Paired.imp' (fun _ _ z => z.same s) h4⟩
theorem spPtLeft_of {rows A B Bh En : List Rw} {td : Rw} {t g gb b : Bool} {bars : List Str} {fa fm : Nat} {H : Hp} {xp xf : Addr} {Q : VK} {E : XK} (sh : Shape rows A B Bh En td t g gb b) (lA : A.length = fa) (lB : B.length = fm) (lb2 : bars.length ≤ 2) (VD : Valid rows bars)
    (P : PtAt K CP H xp xf (intsTo fa) [(("told" : Str), (3 : Int))]) (hF : FormOk c CF H xf rows bars) (q : ∀ vl H', Same H H' → LeftV c CF H' vl rows bars A B Bh → Q vl H') : spPtLeft K c CF CP [.ref xp] H Q E := by
  subst lA lB
  have l24 := VD.l24
  have ok : ∀ r ∈ leftR rows ["told"] A.length (A.length + B.length), r.ok := fun r hr => by
    rw [sh.left] at hr
    rcases List.mem_append.mp hr with hr | hr
    · rcases List.mem_append.mp hr with hr | hr
      · exact (sh.pb.mem hr).2.1
      · rcases List.mem_append.mp hr with hr | hr
        · unfold asTags at hr
          obtain ⟨r0, h0, rfl⟩ := List.mem_map.mp hr
          exact ⟨by show 3 < 5; decide, (sh.ph.mem (List.mem_filter.mp h0).1).2.1.2⟩
        · unfold tagE at hr
          split at hr
          · rw [List.mem_singleton.mp hr]
            exact ⟨by show 3 < 5; decide, (by decide +kernel : nameB "tag" = true)⟩
          · cases hr
    · unfold bagE at hr
      split at hr
      · rw [List.mem_singleton.mp hr]
        exact ⟨by show 4 < 5; decide, (by decide +kernel : nameB "rest" = true)⟩
      · cases hr
  have lr : (leftR rows ["told"] A.length (A.length + B.length)).length ≤ 500 := by
    rw [sh.left]
    have h1 := sh.lb
    have h2 := sh.lh
    have h3 : (asTags Bh).length ≤ Bh.length := by unfold asTags; rw [List.length_map]; exact List.length_filter_le _ _
    have h4 : (tagE g gb).length ≤ 1 := by cases g <;> exact Nat.le_of_ble_eq_true rfl
    have h5 : (bagE b).length ≤ 1 := by cases b <;> decide
    simp only [List.length_append]
    omega
  have lb : (leftB rows bars ["told"] A.length).length ≤ 500 := by
    rw [sh.leftBars]
    have h1 := sh.la
    have h3 : (nms A).length ≤ A.length := by unfold nms; rw [List.length_map]; exact List.length_filter_le _ _
    simp only [List.length_append, List.length_singleton]
    omega
  refine ⟨xp, xf, A.length + B.length, intsTo A.length, _, rows, bars, rfl, P, hF, by show 1 ≤ 100; decide, sh.stop, by rw [intsTo_len]; omega, by omega, ?_⟩
  rw [intsTo_len, sh.none]
  exact ⟨fun e H' s' => q _ _ s' (.inl ⟨rfl, e⟩), fun e g' H' s' _ hg => q _ _ s' (.inr ⟨g', rfl, e, hg, lr, lb, ok⟩)⟩
theorem ne_empty {H : Hp} {D l : Addr} {zs : List V} {Q : VK} (hD : H D = some (.lst zs)) (hl : H l = some (.lst [])) (q : Q (.bl (!zs.isEmpty)) H) : rSame K false (.ref D) (.ref l) H Q ∨ rNLen (.ref D) (.ref l) H Q := by
  cases zs with
  | nil => exact .inl ⟨D, l, 1, .lst [], fun _ => True, fun _ => True, rfl, rfl, by decide, Says.lst True.intro hD .nil, Says.lst True.intro hl .nil, q⟩
  | cons z zs => exact .inr ⟨D, l, _, _, rfl, rfl, hD, hl, (by rw [List.length_cons, List.length_nil]; omega), q⟩
theorem zip_at {α β : Type} {xs : List α} {ys : List β} {i : Nat} {p : α × β} (h : (xs.zip ys)[i]? = some p) : xs[i]? = some p.1 ∧ ys[i]? = some p.2 := by
  rw [List.getElem?_zip_eq_some] at h
  exact h
theorem zip_stuck : ∀ (pH : List Addr) (Bh : List Rw), pH.length = Bh.length → (((pH.zip Bh).filter fun p => stuck p.2).map fun p => V.ref p.1).isEmpty = !Bh.any stuck
  | [], [], _ => rfl
  | p :: pH, r :: Bh, h => by
    rw [List.zip_cons_cons, List.filter_cons, List.any_cons]
    have ih := zip_stuck pH Bh (by rw [List.length_cons, List.length_cons] at h; omega)
    show List.isEmpty (List.map _ (if stuck r = true then _ else _)) = _
    cases e : stuck r
    · rw [if_neg Bool.false_ne_true, ih]
      rfl
    · rfl
  | [], _ :: _, h => by cases h
  | _ :: _, [], h => by cases h
theorem lc_notin {σ : L2.St} {H1 : Hp} {Q : VK} {D D1 D2 : Addr} {zs ms : List Str} (hσ : capS [none, some 12] σ = [none, some (.ref D2)]) (hD : H1 D = none) (h1 : H1 D1 = some (.lst (zs.map V.str))) (h2 : H1 D2 = some (.lst (ms.map V.str))) (hn : zs.length ≤ 100)
    (hd : ∀ H, Same H1 H → H D = some (.lst ((zs.filter fun z => !decide (z ∈ ms)).map V.str)) → Q (.ref D) H) : LCr (Itl K D1) [none, some 12] (gName 0) (tTest (tOp (rIn K true) (tVar 0) (tVar 1))) (tVar 0) σ H1 Q D := by
  refine lc_sel (K := K) (xs := zs.map V.str) zs (fun z => !decide (z ∈ ms)) V.str hD (SqL.of h1) (by rw [List.length_map]) (by rw [List.length_map]; omega) ?_ hd
  intro i x y H' N S hx hy sH qy qn
  obtain ⟨z, hz, rfl⟩ := strs_at hx
  have er : y = z := Option.some.inj (hy.symm.trans hz)
  subst er
  rw [hσ]
  refine ⟨_, rfl, _, rfl, D2, _, rfl, .inl (SqL.of (sH _ _ h2)), rfl, flatStrs, _, rfl, ?_⟩
  rw [show (if true = true then !inV (V.str y) (ms.map V.str) else inV (V.str y) (ms.map V.str)) = !decide (y ∈ ms) from by rw [if_pos rfl, inStrs]]
  exact ⟨fun e => ⟨_, rfl, qy _ (Same.refl _) e⟩, fun e => qn _ (Same.refl _) e⟩
theorem names_le {B Bh : List Rw} {g : Bool} (h1 : B.length ≤ 5) (h2 : Bh.length ≤ 9) : (nms B).length ≤ 5 ∧ (goodN Bh g).length ≤ 10 := by
  have n1 : ∀ X : List Rw, (nms X).length ≤ X.length := fun X => by unfold nms; rw [List.length_map]; exact List.length_filter_le _ _
  have := n1 B
  have := n1 Bh
  refine ⟨by omega, ?_⟩
  unfold goodN
  rw [List.length_append]
  split <;> simp <;> omega
theorem gName_go {i : Nat} {v : V} {σ : L2.St} {H : Hp} {Q : L2.St → Hp → Prop} (h : Q (σ.set i (some v)) H) : gName i v σ H Q := h
theorem dvN {A B : Prop} (h : B) : if (!decide ((V.non : V) = .non)) = true then A else B := by rw [decide_eq_true rfl]; exact iteF h
theorem dvY {A B : Prop} {a : Addr} (h : A) : if (!decide ((V.ref a : V) = .non)) = true then A else B := by rw [decide_eq_false (by intro z; cases z)]; exact iteT h
theorem ok_law {gF gP gLf gWh g1 g2 g3 g4 g5 g6 g7 g8 : Addr} {eF eP eLf eWh e1 e2 e3 e4 e5 e6 e7 e8 gp gb gf : FuncData} (F : Fun K "law" "law" sLaw f fd) (hlst : mg "list" = none) (hran : mg "range" = none) (hen : mg "enumerate" = none) (U : Ctors P w K mg base c N i0 i1 i2 i3 i4 d0 d1 d2 d3 d4) (PP : Pcs K m c) (PC' : PtC K CP)
    (kF : Ctor P w K mg base CX0 3 "Form" CF gF eF ["self", "parameters", "bars"] [] (spFI c CF)) (kP : Ctor P w K mg base CX0 7 "Part" CP gP eP ["self", "form", "call"] [] (spPtI K c CF CP)) (mLf : Meth K CP "left" gLf) (GLf : FnOk P w K mg base CX0 7 gLf eLf ["self"] (spPtLeft K c CF CP)) (bLf : Binds K eLf ["self"] []) (mWh : Meth K CP "whole" gWh) (GWh : FnOk P w K mg base CX0 2 gWh eWh ["self", "call"] (spWhole K CP)) (bWh : Binds K eWh ["self", "call"] [])
    (GP : FnOk P w K mg base CX0 1 m.fP gp ["self"] (spIn K m bpL)) (bP : Binds K gp ["self"] []) (GN : FnOk P w K mg base CX0 1 m.fB gb ["self"] (spIn K m bnL)) (bN : Binds K gb ["self"] []) (GF : FnOk P w K mg base CX0 1 m.fF gf ["self"] (spFree K m)) (bF : Binds K gf ["self"] [])
    (cN : Callee P w K mg base 1 "_law_nth" g1 e1 ["_law_script", "_law_k"] (spNthA K)) (cPl : Callee P w K mg base 5 "_law_places" g2 e2 ["_law_number", "_law_begin", "_law_many", "_law_no_seats"] (spPls c)) (cEn : Callee P w K mg base 5 "_law_ends" g3 e3 ["_law_number"] (spEnds c)) (cCa : Callee P w K mg base 1 "_law_call" g4 e4 ["_law_more", "_law_names"] (spCallL K)) (cPk : Callee P w K mg base 1 "_law_packed" g5 e5 ["_law_call_here"] (spPack K))
    (cFW : Callee P w K mg base 7 "_law_fits_whole" g6 e6 ["_law_form", "_law_part", "_law_call_here"] (spFW K c CF CP)) (cFi : Callee P w K mg base 6 "fits" g7 e7 ["form", "call"] (spFits K c CF)) (cMi : Callee P w K mg base 5 "misfits" g8 e8 ["form", "call"] (spMis K c CF)) : FnOk P w K mg base CX0 9 f fd ["_law_script"] (spLaw K) := by
  refine F.ok scLaw (fun vs H Q E h => ?_) (fun cdv A outer s H vs Q E hr8 h => ?_)
  · obtain ⟨a, ns, rfl, _⟩ := h
    rfl
  obtain ⟨sa, ns, rfl, hS, h63, q⟩ := h
  have hr1 : Room 1 _ := hr8.mono (by decide)
  have hr2 : Room 2 _ := hr8.mono (by decide)
  have hr4 : Room 4 _ := hr8.mono (by decide)
  have hr5 : Room 5 _ := hr8.mono (by decide)
  have hr6 : Room 6 _ := hr8.mono (by decide)
  have hr7 : Room 7 _ := hr8.mono (by decide)
  have hU := hr8.units
  have hU0 := hr8.units0
  have hPl : ∀ C, Cs5 c C → Cls K C ∧ Meth K C "by_place" m.fP := fun C ⟨k, hk, e⟩ => by rw [e]; exact ⟨(PP k hk).cl, (PP k hk).mP⟩
  have hB : ∀ C, Cs5 c C → Cls K C ∧ Meth K C "by_name" m.fB := fun C ⟨k, hk, e⟩ => by rw [e]; exact ⟨(PP k hk).cl, (PP k hk).mB⟩
  have hFr : ∀ C, Cs5 c C → Cls K C ∧ Meth K C "free" m.fF := fun C ⟨k, hk, e⟩ => by rw [e]; exact ⟨(PP k hk).cl, (PP k hk).mF⟩
  refine ⟨_, pss_cons (ps_set (i := 1) scLaw.nd rfl (Or.inr rfl) (pe_op op_mod (cF cN hr1 (ac (pv 0) (ac pe_int pa_nil))) pe_int))
    (pss_cons (ps_set (i := 2) scLaw.nd rfl (Or.inr rfl) (pe_op op_mod (cF cN hr1 (ac (pv 0) (ac pe_int pa_nil))) pe_int))
    (pss_cons (ps_set (i := 3) scLaw.nd rfl (Or.inl rfl) (pe_op op_mod (cF cN hr1 (ac (pv 0) (ac pe_int pa_nil))) pe_int))
    (pss_cons (ps_set (i := 4) scLaw.nd rfl (Or.inl rfl) (cF cN hr1 (ac (pv 0) (ac pe_int pa_nil))))
    (pss_cons (ps_set (i := 5) scLaw.nd rfl (Or.inl rfl) (pe_op op_cat (cF cPl hr5 (ac (cF cN hr1 (ac (pv 0) (ac pe_int pa_nil))) (ac pe_int (ac (pv 1) (ac pe_bl pa_nil))))) (cF cPl hr5 (ac (cF cN hr1 (ac (pv 0) (ac pe_int pa_nil))) (ac (pv 1) (ac (pv 2) (ac pe_bl pa_nil)))))))
    (pss_cons (ps_expr (pe_bm PySem.F.plainAttrs_list PySem.F.slot_list_append PySem.F.type_list_append mt_append (pv 5) (ac (cMk (E := fun _ _ _ => False) U.k1 .nil passF hr4 (ac pe_str (ac (pe_cmpR op_eq (pe_op op_mod (pv 4) pe_int) pe_int (nomark _)) pa_nil))) pa_nil)))
    (pss_cons (ps_set (i := 6) scLaw.nd rfl (Or.inl rfl) (cF cPl hr5 (ac (cF cN hr1 (ac (pv 0) (ac pe_int pa_nil))) (ac (pe_op op_add (pv 1) (pv 2)) (ac (pv 3) (ac (pe_cmpR op_eq (pe_op op_mod (pe_op op_fdiv (pv 4) pe_int) pe_int) pe_int (nomark _)) pa_nil))))))
    (pss_cons (ps_set (i := 5) scLaw.nd rfl (Or.inl rfl) (pe_op op_cat (pe_op op_cat (pv 5) (pv 6)) (cF cEn hr5 (ac (pe_op op_fdiv (pv 4) pe_int) pa_nil))))
    (pss_cons (ps_set (i := 7) scLaw.nd rfl (Or.inl rfl) (cMk kF .nil pass0 hr4 (ac (pv 5) (ac (pe_slice sl_list (pe_lst (ac pe_str (ac pe_str pa_nil))) po_none (po_some (pe_op op_mod (pe_op op_fdiv (pv 4) pe_int) pe_int))) pa_nil))))
    (pss_cons (ps_set (i := 8) scLaw.nd rfl (Or.inl rfl) (cMk kP .nil pass0 hr8 (ac (pv 7) (ac (pe_lst (ac (pe_tup (ac pe_str (ac (cTy (call_listR rfl) hlst PyProof.Rows.boot_list (ac (cTy call_rng hran boot_range (ac (pv 1) pa_nil)) pa_nil)) pa_nil))) (ac (pe_tup (ac pe_str (ac pe_str (ac pe_int pa_nil)))) pa_nil))) pa_nil))))
    (pss_cons (ps_set (i := 9) scLaw.nd rfl (Or.inl rfl) (pe_meth0 (pv 8) PC'.cl mLf GLf hr7 bLf .nil pass0))
    (pss_cons (ps_set (i := 10) scLaw.nd rfl (Or.inl rfl) (pe_cmpR (OpR.or (op_neS hU) (op_neLen hU0)) (pe_lc [] ["_law_one"] [none] rfl ⟨rfl, rfl, rfl, rfl⟩ (pi_list (pv 6)) (gown_name 0) rfl rfl rfl (fun pins fp s H C => ⟨pg_name (i := 0) ndOn rfl (Or.inl rfl) (.inr rfl), pif_one (PW.pt (pw_and (pt_not (pt_val (pe_methP (pv 0) hB GN hr1 bN pass0))) (pw_and1 (pt_not (pt_val (pe_methP (pv 0) hFr GF hr1 bF pass0)))))), pv 0⟩)) (pe_lst pa_nil) (nomark _)))
    (pss_cons (ps_if (pt_cmpR op_ne (pe_cmp (pc_isN (pv 9))) (pv 10) (nomark _)) (pss_one (ps_ret pe_bl)) pss_nil)
    (pss_cons (ps_lc (i := 11) [] ["_law_one"] [none] scLaw.nd rfl (Or.inl rfl) rfl ⟨rfl, rfl, rfl, rfl⟩ (pi_list (pe_slice sl_list (pv 5) (po_some (pv 1)) po_none)) (gown_name 0) rfl rfl rfl (fun pins fp s H C => ⟨pg_name (i := 0) ndOn rfl (Or.inl rfl) (.inr rfl), pif_one (PW.pt (pw_and (pt_val (pe_methP (pv 0) hB GN hr1 bN pass0)) (pw_and1 (pt_cmpR op_ne (pe_fldK (K := K) rfl (pv 0) rfl) pe_str (nomark _))))), pe_fldK (K := K) rfl (pv 0) rfl⟩))
    (pss_cons (ps_set (i := 12) scLaw.nd rfl (Or.inr rfl) (pe_lc [] ["_law_one"] [none] rfl ⟨rfl, rfl, rfl, rfl⟩ (pi_list (pe_slice sl_list (pv 5) (po_some (pv 1)) (po_some (pe_op op_add (pv 1) (pv 2))))) (gown_name 0) rfl rfl rfl (fun pins fp s H C => ⟨pg_name (i := 0) ndOn rfl (Or.inl rfl) (.inr rfl), pif_one (pt_val (pe_methP (pv 0) hB GN hr1 bN pass0)), pe_fldK (K := K) rfl (pv 0) rfl⟩)))
    (pss_cons (ps_set (i := 13) scLaw.nd rfl (Or.inl rfl) (cF cCa hr1 (ac (pv 2) (ac (pe_lc ["_law_middle"] ["_law_name_here", "_law_middle"] [none, some 12] rfl ⟨rfl, rfl, rfl, rfl⟩ (pi_list (pv 11)) (gown_name 0) rfl rfl rfl (fun pins fp s H C => ⟨pg_name (i := 0) ndNm rfl (Or.inl rfl) (.inr rfl), pif_one (pt_cmpR (r := rIn K true) op_notIn_seq (pv 0) (pv 1) (by with_unfolding_all rfl)), pv 0⟩)) pa_nil))))
    (pss_cons (ps_if (PW.pt (pw_or (pt_cmpR op_eq (cF cFW hr7 (ac (pv 7) (ac (pv 8) (ac (pv 13) pa_nil)))) (pv 10) (nomark _)) (pw_or1 (PW.pt (pw_and (pt_not (pt_val (pv 10))) (pw_and1 (pt_not (pt_val (cF cFi hr6 (ac (pv 9) (ac (pv 13) pa_nil)))))))))) ) (pss_one (ps_ret pe_bl)) pss_nil)
    (pss_cons (ps_for PassesOwn.never rfl (pi_list (pe_lst (ac (pe_op op_add (pv 2) pe_int) (ac (pe_op op_add (pe_op op_add (pv 2) (pv 3)) pe_int) pa_nil)))) (pg_name (i := 14) scLaw.nd rfl (Or.inl rfl)) (pss_one (ps_for PassesOwn.never rfl (pi_list (pe_lst (ac (pe_lst pa_nil) (ac (pv 11) (ac (pe_lc ["_law_middle"] ["_law_name_here", "_law_middle"] [none, some 12] rfl ⟨rfl, rfl, rfl, rfl⟩ (pi_list (pv 11)) (gown_name 0) rfl rfl rfl (fun pins fp s H C => ⟨pg_name (i := 0) ndNm rfl (Or.inl rfl) (.inr rfl), pif_one (pt_cmpR (r := rIn K true) op_notIn_seq (pv 0) (pv 1) (by with_unfolding_all rfl)), pv 0⟩)) pa_nil))))) (pg_name (i := 15) scLaw.nd rfl (Or.inl rfl)) (pss_cons (ps_if (pt_val (cF cFW hr7 (ac (pv 7) (ac (pv 8) (ac (cF cCa hr1 (ac (pv 14) (ac (pv 15) pa_nil))) pa_nil))))) (pss_one (ps_ret pe_bl)) pss_nil) (pss_one (ps_if (PW.pt (pw_and (pt_cmp (pc_notN (pv 9))) (pw_and1 (pt_val (cF cFi hr6 (ac (pv 9) (ac (cF cCa hr1 (ac (pv 14) (ac (pv 15) pa_nil))) pa_nil))))))) (pss_one (ps_ret pe_bl)) pss_nil))))))
    (pss_cons (ps_lc (i := 16) [] ["_law_word", "_law_number"] [none, none] scLaw.nd rfl (Or.inl rfl) rfl ⟨rfl, rfl, rfl, rfl⟩ (pi_list (cF cMi hr5 (ac (pv 7) (ac (cF cPk hr1 (ac (pe_meth (pv 8) PC'.cl mWh GWh hr2 bWh .nil pass0 (ac (pv 13) pa_nil)) pa_nil)) pa_nil)))) (gown_tup2 (K := K) (n := 2) 0 1) rfl rfl rfl (fun pins fp s H C => ⟨pg_tup rfl (pgs_cons (pg_name (i := 0) ndWN rfl (Or.inl rfl) (.inr rfl)) (pgs_cons (pg_name (i := 1) ndWN rfl (Or.inl rfl) (.inr rfl)) pgs_nil)), pif_one (pt_cmpR op_eq (pv 0) pe_str (nomark _)), pv 1⟩))
    (pss_cons (ps_lc (i := 17) [] ["_law_k", "_law_one"] [none, none] scLaw.nd rfl (Or.inl rfl) rfl ⟨rfl, rfl, rfl, rfl⟩ (pi_enum rfl hen (ac (pv 5) pa_nil)) (gown_tup2 (K := K) (n := 2) 0 1) rfl rfl rfl (fun pins fp s H C => ⟨pg_tup rfl (pgs_cons (pg_name (i := 0) ndKO rfl (Or.inl rfl) (.inr rfl)) (pgs_cons (pg_name (i := 1) ndKO rfl (Or.inl rfl) (.inr rfl)) pgs_nil)), pif_one (PW.pt (pw_and (pt_val (pe_methP (pv 1) hPl GP hr1 bP pass0)) (pw_and (pt_not (pt_val (pe_methP (pv 1) hB GN hr1 bN pass0))) (pw_and1 (pt_not (pt_val (pe_methP (pv 1) hFr GF hr1 bF pass0))))))), pv 0⟩))
    (pss_one (ps_ret (pe_cmpR (op_eqS hU) (pv 16) (pe_lc ["_law_first", "_law_amid"] ["_law_k", "_law_amid", "_law_first"] [none, some 2, some 1] rfl ⟨rfl, rfl, rfl, rfl⟩ (pi_list (pv 17)) (gown_name 0) rfl rfl rfl (fun pins fp s H C => ⟨pg_name (i := 0) ndKF rfl (Or.inl rfl) (.inr rfl), pif_one (pt_cmpR op_gt (pv 0) (pe_op op_add (pv 2) (pv 1)) (nomark _)), pv 0⟩)) (nomark _))))))))))))))))))))))), ?_⟩
  refine ⟨_, rfl, sa, ns, 0, rfl, hS, h63, fun n0 H0 u0 => ?_⟩
  refine ⟨_, _, rfl, rfl, (by show (0 : Int) < 7; decide), ?_⟩
  refine ⟨_, rfl, sa, ns, 1, rfl, u0.seq hS, h63, fun n1 H1 u1 => ?_⟩
  have s1 := u0.trans u1
  refine ⟨_, _, rfl, rfl, (by show (0 : Int) < 6; decide), ?_⟩
  refine ⟨_, rfl, sa, ns, 2, rfl, s1.seq hS, h63, fun n2 H2 u2 => ?_⟩
  have s2 := s1.trans u2
  refine ⟨_, _, rfl, rfl, (by show (0 : Int) < 10; decide), ?_⟩
  refine ⟨_, rfl, sa, ns, 3, rfl, s2.seq hS, h63, fun n3 H3 u3 => ?_⟩
  have s3 := s2.trans u3
  obtain ⟨fa, ef, lfa⟩ : ∃ fa : Nat, n0 % 7 = (fa : Int) ∧ fa ≤ 6 := ⟨(n0 % 7).toNat, by omega, by omega⟩
  obtain ⟨fm, em, lfm⟩ : ∃ fm : Nat, n1 % 6 = (fm : Int) ∧ fm ≤ 5 := ⟨(n1 % 6).toNat, by omega, by omega⟩
  obtain ⟨fl, el, lfl⟩ : ∃ fl : Nat, n2 % 10 = (fl : Int) ∧ fl ≤ 9 := ⟨(n2 % 10).toNat, by omega, by omega⟩
  show tSeq _ _ _ [some (.ref sa), some (.int (n0 % 7)), some (.int (n1 % 6)), some (.int (n2 % 10)), some (.int n3), none, none, none, none, none, none, none, none, none, none, none, none, none] H3
  rw [ef, em, el]
  -- the row
  refine ⟨_, rfl, sa, ns, 4, rfl, s3.seq hS, h63, fun n4 H4 u4 => ?_⟩
  have s4 := s3.trans u4
  refine ⟨_, rfl, n4, 0, fa, false, rfl, by omega, fun lA A H5 u5 ⟨pA, nA, eA, qA⟩ lA' hA => ?_⟩
  have s5 := s4.trans u5
  refine ⟨_, rfl, sa, ns, 5, rfl, s5.seq hS, h63, fun n5 H6 u6 => ?_⟩
  have s6 := s5.trans u6
  refine ⟨_, rfl, _, rfl, n5, fa, fm, false, rfl, by omega, fun lB B H7 u7 ⟨pB, nB, eB, qB⟩ lB' hBk => ?_⟩
  have s7 := s6.trans u7
  have big : 4000 ≤ sizeLine := by decide
  have lpA : pA.length = fa := by rw [qA.length]; exact lA'
  have lpB : pB.length = fm := by rw [qB.length]; exact lB'
  refine ⟨lA, lB, _, _, rfl, rfl, u7 _ _ (u6 _ _ eA), eB, (by simp only [List.length_map]; omega), fun lR hlR => ?_⟩
  rw [← List.map_append]
  have u8 := same_new hlR (.lst ((pA ++ pB).map V.ref))
  have e8 : upd H7 lR (.lst ((pA ++ pB).map V.ref)) lR = some (.lst ((pA ++ pB).map V.ref)) := upd_same
  have q8 : Paired (PAt c (upd H7 lR (.lst ((pA ++ pB).map V.ref)))) (pA ++ pB) (A ++ B) := pats_same u8 (paired_app (pats_same (u6.trans u7) qA) qB)
  have s8 := s7.trans u8
  have nR : H lR = none := s7.free hlR
  show tSeq _ _ _ _ (upd H7 lR (.lst ((pA ++ pB).map V.ref)))
  generalize upd H7 lR (.lst ((pA ++ pB).map V.ref)) = H8 at u8 e8 q8 s8 ⊢
  -- the told both
  refine ⟨_, rfl, .inl ⟨rfl, _, SqL.of e8⟩, _, rfl, _, _, rfl, rfl, (by show (0 : Int) < 2; decide), rfl, ?_⟩
  intro xt dxt hxt hdt hnt
  refine ⟨xt, dxt, .str "told", decide (V.int (n3 % 2) = V.int 1), rfl, upd_same, .inl ⟨"told", rfl, nameB_ok (by decide +kernel)⟩, fun _ H9 u9 => ⟨rfl, ?_⟩, fun e => absurd e (by decide +kernel)⟩
  have tdk : PAt c (upd H9 xt (.ins c.c1 dxt (pf "both" (.str "told") (decide (V.int (n3 % 2) = V.int 1))))) xt ⟨1, "told", decide (V.int (n3 % 2) = V.int 1)⟩ := ⟨dxt, upd_same⟩
  have v9 : Same H8 (upd H9 xt (.ins c.c1 dxt (pf "both" (.str "told") (decide (V.int (n3 % 2) = V.int 1))))) := same_after hxt hdt u9
  obtain ⟨td, etd⟩ : ∃ td : Rw, td = ⟨1, "told", decide (V.int (n3 % 2) = V.int 1)⟩ := ⟨_, rfl⟩
  rw [← etd] at tdk
  generalize upd H9 xt (.ins c.c1 dxt (pf "both" (.str "told") (decide (V.int (n3 % 2) = V.int 1)))) = H10 at tdk v9 ⊢
  have e10 := v9 _ _ e8
  refine ⟨lR, _, .ref xt, rfl, rfl, e10, small1000 (by rw [List.length_map, List.length_append]; omega), ?_⟩
  have s11 : Same H (upd H10 lR (.lst ((pA ++ pB).map V.ref ++ [.ref xt]))) := fun b' u' e' => by
    rw [upd_ne (ne_of_none e' nR)]
    exact v9 _ _ (s8 _ _ e')
  have e11 : upd H10 lR (.lst ((pA ++ pB).map V.ref ++ [.ref xt])) lR = some (.lst ((pA ++ pB ++ [xt]).map V.ref)) := by rw [upd_same, List.map_append (l₂ := [xt])]; rfl
  have q11 : Paired (PAt c (upd H10 lR (.lst ((pA ++ pB).map V.ref ++ [.ref xt])))) (pA ++ pB ++ [xt]) (A ++ B ++ [td]) := Paired.snoc (Paired.imp' (fun _ _ z => pat_upd (z.same v9) e10) q8) (pat_upd tdk e10)
  show tSeq _ _ _ _ (upd H10 lR (.lst ((pA ++ pB).map V.ref ++ [.ref xt])))
  generalize upd H10 lR (.lst ((pA ++ pB).map V.ref ++ [.ref xt])) = H11 at s11 e11 q11 ⊢
  -- behind
  refine ⟨_, rfl, sa, ns, 6, rfl, s11.seq hS, h63, fun n6 H12 u12 => ?_⟩
  have s12 := s11.trans u12
  refine ⟨_, rfl, _, rfl, _, _, rfl, rfl, _, rfl, _, rfl, _, _, rfl, rfl, ⟨by decide, by decide⟩, _, _, rfl, rfl, (by show (0 : Int) < 2; decide), rfl, n6, fa + fm, fl, _, rfl, by omega, fun lH Bh H13 u13 ⟨pH, nH, eH, qH⟩ lH' hHk => ?_⟩
  have s13 := s12.trans u13
  have w13 : Same H11 H13 := u12.trans u13
  have lpH : pH.length = fl := by rw [qH.length]; exact lH'
  refine ⟨_, rfl, _, rfl, lR, lH, _, _, rfl, rfl, w13 _ _ e11, eH, (by simp only [List.length_map, List.length_append, List.length_singleton]; omega), fun lS hlS => ?_⟩
  rw [← List.map_append]
  have u14 := same_new hlS (.lst ((pA ++ pB ++ [xt] ++ pH).map V.ref))
  have e14 : upd H13 lS (.lst ((pA ++ pB ++ [xt] ++ pH).map V.ref)) lS = some (.lst ((pA ++ pB ++ [xt] ++ pH).map V.ref)) := upd_same
  have q14 : Paired (PAt c (upd H13 lS (.lst ((pA ++ pB ++ [xt] ++ pH).map V.ref)))) (pA ++ pB ++ [xt] ++ pH) (A ++ B ++ [td] ++ Bh) := pats_same u14 (paired_app (pats_same w13 q11) qH)
  have s14 := s13.trans u14
  generalize upd H13 lS (.lst ((pA ++ pB ++ [xt] ++ pH).map V.ref)) = H14 at u14 e14 q14 s14 ⊢
  refine ⟨_, rfl, _, _, rfl, rfl, ⟨by decide, by decide⟩, _, rfl, fun lE t g gb b H15 u15 ⟨pE, nE, eE, qE⟩ => ?_⟩
  have s15 := s14.trans u15
  have lpE : pE.length ≤ 3 := by rw [qE.length]; cases t <;> cases g <;> cases b <;> cases gb <;> decide
  refine ⟨lS, lE, _, _, rfl, rfl, u15 _ _ e14, eE, (by simp only [List.length_map, List.length_append, List.length_singleton]; omega), fun lW hlW => ?_⟩
  rw [← List.map_append]
  obtain ⟨rows, erow⟩ : ∃ rows, rows = A ++ B ++ [td] ++ Bh ++ endsR t g gb b := ⟨_, rfl⟩
  have sh : Shape rows A B Bh (endsR t g gb b) td t g gb b := ⟨erow, hA, by rw [lA']; exact hBk, by rw [lA', lB']; exact hHk, by rw [etd], by rw [etd], rfl, by omega, by omega, by omega⟩
  have u16 := same_new hlW (.lst ((pA ++ pB ++ [xt] ++ pH ++ pE).map V.ref))
  have e16 : upd H15 lW (.lst ((pA ++ pB ++ [xt] ++ pH ++ pE).map V.ref)) lW = some (.lst ((pA ++ pB ++ [xt] ++ pH ++ pE).map V.ref)) := upd_same
  have q16 : Paired (PAt c (upd H15 lW (.lst ((pA ++ pB ++ [xt] ++ pH ++ pE).map V.ref)))) (pA ++ pB ++ [xt] ++ pH ++ pE) rows := by
    rw [erow]
    exact pats_same u16 (paired_app (pats_same u15 q14) qE)
  have s16 := s15.trans u16
  show tSeq _ _ _ _ (upd H15 lW (.lst ((pA ++ pB ++ [xt] ++ pH ++ pE).map V.ref)))
  generalize upd H15 lW (.lst ((pA ++ pB ++ [xt] ++ pH ++ pE).map V.ref)) = H16 at u16 e16 q16 s16 ⊢
  have w16 : Same H13 H16 := u14.trans (u15.trans u16)
  -- the form
  obtain ⟨bars, ebars, hbn, hb2, lb2⟩ : ∃ bars : List Str, cutV [V.str "shut", V.str "shuts"] none (some (n3 / 64 % 3)) = bars.map V.str ∧ bars.Nodup ∧ (∀ z ∈ bars, z = "shut" ∨ z = "shuts") ∧ bars.length ≤ 2 := by
    have h3 : n3 / 64 % 3 = 0 ∨ n3 / 64 % 3 = 1 ∨ n3 / 64 % 3 = 2 := by omega
    rcases h3 with e | e | e <;> rw [e]
    · exact ⟨[], rfl, List.nodup_nil, (fun z hz => by cases hz), by decide⟩
    · exact ⟨["shut"], rfl, by decide +kernel, (fun z hz => .inl (List.mem_singleton.mp hz)), by decide⟩
    · exact ⟨["shut", "shuts"], rfl, by decide +kernel, (fun z hz => by simpa using hz), by decide⟩
  have tok : td.ok := by rw [etd]; exact ⟨by show 1 < 5; decide, (by decide +kernel : nameB "told" = true)⟩
  have VD := sh.valid hbn hb2 lb2 tok
  refine ⟨_, rfl, (by show 2 ≤ sizeLine; decide), fun l17 hl17 => ?_⟩
  have u17 := same_new hl17 (.lst [.str "shut", .str "shuts"])
  refine ⟨_, rfl, _, _, rfl, rfl, ⟨by decide, by decide⟩, _, _, rfl, rfl, (by show (0 : Int) < 3; decide), _, rfl, l17, _, rfl, SqL.of upd_same, fun l18 hl18 => ?_⟩
  rw [ebars]
  have u18 := same_new hl18 (.lst (bars.map V.str))
  have e18 : upd (upd H16 l17 (.lst [.str "shut", .str "shuts"])) l18 (.lst (bars.map V.str)) l18 = some (.lst (bars.map V.str)) := upd_same
  have w18 := u17.trans u18
  generalize upd (upd H16 l17 (.lst [.str "shut", .str "shuts"])) l18 (.lst (bars.map V.str)) = H18 at u18 e18 w18 ⊢
  intro xf dxf hxf hdf hnf
  have sm : Same H18 (upd (upd H18 dxf (.own xf)) xf (.ins CF dxf [])) := same_make0 hxf hdf
  refine ⟨xf, lW, dxf, .ref l18, pA ++ pB ++ [xt] ++ pH ++ pE, rows, bars, rfl, upd_same, sm _ _ (w18 _ _ e16), pats_same (w18.trans sm) q16, .inr ⟨l18, rfl, sm _ _ e18⟩, VD, fun H19 x19 F19 _ => ⟨rfl, ?_⟩⟩
  have u19 : Same H18 H19 := fun b' u' e' => x19 b' u' (sm _ _ e') (ne_of_none e' hxf)
  have w19 : Same H16 H19 := w18.trans u19
  have s19 := s16.trans w19
  have hF : FormOk c CF H19 xf rows bars := ⟨F19.at, Nat.le_trans VD.l24 (by decide), by omega, VD.ok⟩
  -- the part
  refine ⟨_, rfl, _, rfl, fa, rfl, fun p20 hp20 => ?_⟩
  have u20 := same_new hp20 (.rng 0 (fa : Nat))
  refine ⟨p20, fa, rfl, upd_same, by omega, fun l21 hl21 => ?_⟩
  have u21 := u20.trans (same_new hl21 (.lst ((intsTo fa).map V.int)))
  have e21 : upd (upd H19 p20 (.rng 0 (fa : Nat))) l21 (.lst ((intsTo fa).map V.int)) l21 = some (.lst ((intsTo fa).map V.int)) := upd_same
  generalize upd (upd H19 p20 (.rng 0 (fa : Nat))) l21 (.lst ((intsTo fa).map V.int)) = H21 at u21 e21 ⊢
  refine ⟨(by show 2 ≤ sizeLine; decide), fun t22 ht22 => ?_⟩
  have u22 := same_new ht22 (.tup [.str "row", .ref l21])
  have e22 : upd H21 t22 (.tup [.str "row", .ref l21]) t22 = some (.tup [.str "row", .ref l21]) := upd_same
  generalize upd H21 t22 (.tup [.str "row", .ref l21]) = H22 at u22 e22 ⊢
  refine ⟨(by show 3 ≤ sizeLine; decide), fun t23 ht23 => ?_⟩
  have u23 := same_new ht23 (.tup [.str "named", .str "told", .int 3])
  have e23 : upd H22 t23 (.tup [.str "named", .str "told", .int 3]) t23 = some (.tup [.str "named", .str "told", .int 3]) := upd_same
  generalize upd H22 t23 (.tup [.str "named", .str "told", .int 3]) = H23 at u23 e23 ⊢
  refine ⟨(by show 2 ≤ sizeLine; decide), fun l24 hl24 => ?_⟩
  have u24 := same_new hl24 (.lst [.ref t22, .ref t23])
  have e24 : upd H23 l24 (.lst [.ref t22, .ref t23]) l24 = some (.lst [.ref t22, .ref t23]) := upd_same
  generalize upd H23 l24 (.lst [.ref t22, .ref t23]) = H24 at u24 e24 ⊢
  have w24 : Same H19 H24 := u21.trans (u22.trans (u23.trans u24))
  have hC24 : CallOk K H24 l24 [.row (intsTo fa), .named "told" 3] := ⟨⟨_, SqL.of e24, .cons (Says.tup (SqT.of (u24 _ _ (u23 _ _ e22))) (.cons Says.str (.cons (Says.lst True.intro (u24 _ _ (u23 _ _ (u22 _ _ e21))) (ints_says _)) .nil))) (.cons (Says.tup (SqT.of (u24 _ _ e23)) (.cons Says.str (.cons Says.str (.cons Says.int .nil)))) .nil)⟩, (by show (intsTo fa ++ ([] ++ [])).length ≤ 900; rw [List.append_nil, List.append_nil, intsTo_len]; omega), (by show 1 ≤ 900; decide)⟩
  intro xp dxp hxp hdp hnp
  have smp : Same H24 (upd (upd H24 dxp (.own xp)) xp (.ins CP dxp [])) := same_make0 hxp hdp
  have eTf : laidT [.row (intsTo fa), .named "told" 3] = intsTo fa := by show intsTo fa ++ ([] ++ []) = _; rw [List.append_nil, List.append_nil]
  have ePf : laidP [.row (intsTo fa), .named "told" 3] = [(("told" : Str), (3 : Int))] := rfl
  refine ⟨xp, xf, l24, dxp, rows, bars, _, rfl, upd_same, hF.same (w24.trans smp), hC24.same smp, ?_, fun H25 x25 P25 => ⟨rfl, ?_⟩⟩
  · have : missC rows bars [.row (intsTo fa), .named "told" 3] = missF rows bars A.length ["told"] := by
      unfold missC namesOf
      rw [eTf, ePf, intsTo_len, lA']
      rfl
    rw [this]
    exact sh.first hbn hb2
  rw [eTf, ePf] at P25
  have u25 : Same H24 H25 := fun b' u' e' => x25 b' u' (smp _ _ e') (ne_of_none e' hxp)
  have w25 : Same H19 H25 := w24.trans u25
  have hF25 := hF.same w25
  have s25 := s19.trans w25
  -- what is left of it
  obtain ⟨dxq, k1, k2, yk, hpq, -, -, -⟩ := id P25
  have tokA : ∀ r ∈ rows, r.ok := VD.ok
  refine ⟨_, rfl, xp, dxq, _, rfl, hpq, pt_no (by decide +kernel) (by decide +kernel) (by decide +kernel), ?_⟩
  unfold tNil
  refine spPtLeft_of sh lA' lB' lb2 VD P25 hF25 fun vl H26 u26 hL => ?_
  have w26 : Same H16 H26 := w19.trans (w25.trans u26)
  have s26 := s25.trans u26
  have P26 : PtAt K CP H26 xp xf (intsTo fa) [(("told" : Str), (3 : Int))] := P25.same u26
  have hF26 := hF25.same u26
  show tSeq _ _ _ _ H26
  -- nothing?
  refine ⟨_, rfl, lH, rfl, ⟨_, SqL.of (w16.trans w26 _ _ eH)⟩, fun D hD => ?_⟩
  have qH26 : Paired (PAt c H26) pH Bh := pats_same (w16.trans w26) qH
  have hHok : ∀ r ∈ Bh, r.ok := fun r hr => (sh.ph.mem hr).2.1
  refine lc_sel (K := K) (xs := pH.map V.ref) (pH.zip Bh) (fun p => stuck p.2) (fun p => .ref p.1) hD (SqL.of (w16.trans w26 _ _ eH)) (by rw [List.length_map, List.length_zip, lpH, lH', Nat.min_self]) (by rw [List.length_map]; omega) ?_ fun H27 u27 eD => ?_
  · intro i x y H' N S hx hy sH qy qn
    obtain ⟨pa, hpa, rfl⟩ := refs_at hx
    obtain ⟨e1, e2⟩ := zip_at hy
    obtain ⟨r, hr', dx', hdx⟩ := paired_at qH26 hpa
    have er : y.2 = r := Option.some.inj (e2.symm.trans hr')
    have ep : y.1 = pa := Option.some.inj (e1.symm.trans hpa)
    have rok := hHok r (List.mem_of_getElem? hr')
    have C := PP r.k rok.1
    have hd3 := sH _ _ hdx
    rw [er, ep] at qy
    rw [er] at qn
    refine ⟨_, rfl, pa, _, dx', _, rfl, ⟨r.k, rok.1, rfl⟩, hd3, pf_no (by decide +kernel) (by decide +kernel) (by decide +kernel), pa, dx', _, _, _, _, rfl, C, hd3, _, rfl, ?_⟩
    rw [in_nm r.k rok.1]
    unfold stuck at qy qn
    cases eb : byNm r.k with
    | true =>
      rw [eb] at qn
      exact iteF ⟨(fun e => Bool.noConfusion e), fun _ => qn _ (Same.refl _) rfl⟩
    | false =>
      rw [eb] at qn qy
      refine iteT ?_
      refine ⟨_, rfl, pa, _, dx', _, rfl, ⟨r.k, rok.1, rfl⟩, hd3, pf_no (by decide +kernel) (by decide +kernel) (by decide +kernel), pa, dx', _, _, _, _, rfl, C, hd3, _, rfl, ?_⟩
      exact ⟨fun e => ⟨_, rfl, qy _ (Same.refl _) e⟩, fun e => qn _ (Same.refl _) e⟩
  refine ⟨(by show 0 ≤ sizeLine; decide), fun l28 hl28 => ?_⟩
  have u28 := same_new hl28 (.lst [])
  refine ne_empty (u28 _ _ eD) upd_same ?_
  rw [zip_stuck pH Bh (by rw [lpH, lH']), Bool.not_not]
  have w28 : Same H26 (upd H27 l28 (.lst [])) := u27.trans u28
  show tSeq _ _ _ _ (upd H27 l28 (.lst []))
  generalize upd H27 l28 (.lst []) = H28 at u28 w28 ⊢
  obtain ⟨nt, ent⟩ : ∃ nt, Bh.any stuck = nt := ⟨_, rfl⟩
  have hL28 := hL.same w28
  have dv : decide (vl = V.non) = Bh.any stuck := by
    rcases hL28 with ⟨rfl, e⟩ | ⟨g', rfl, e, -⟩ <;> rw [e] <;> rfl
  refine ⟨_, rfl, _, rfl, rfl, _, rfl, ?_⟩
  rw [dv, decide_eq_true rfl]
  refine iteF ?_
  -- the names
  have w28' : Same H16 H28 := w26.trans w28
  have e28 := w28' _ _ e16
  have q28 := pats_same w28' q16
  obtain ⟨pW, epW⟩ : ∃ pW, pA ++ pB ++ [xt] ++ pH ++ pE = pW := ⟨_, rfl⟩
  rw [epW] at e28 q28
  have lpW : pW.length = rows.length := q28.length
  have l24 := VD.l24
  refine ⟨_, rfl, _, rfl, _, rfl, lW, _, rfl, SqL.of e28, fun p29 hp29 => ?_⟩
  rw [cut_dropN, ← List.map_drop]
  have u29 := same_new hp29 (.lst ((pW.drop fa).map V.ref))
  have e29 : upd H28 p29 (.lst ((pW.drop fa).map V.ref)) p29 = some (.lst ((pW.drop fa).map V.ref)) := upd_same
  generalize upd H28 p29 (.lst ((pW.drop fa).map V.ref)) = H29 at u29 e29 ⊢
  have q29 : Paired (PAt c H29) (pW.drop fa) (rows.drop fa) := pats_same u29 (pairedDrop q28 fa)
  refine ⟨p29, rfl, ⟨_, SqL.of e29⟩, fun D1 hD1 => ?_⟩
  refine lc_sel (K := K) (xs := (pW.drop fa).map V.ref) (rows.drop fa) (fun r => byNm r.k && decide (r.z ≠ ("told" : Str))) (fun r => .str r.z) hD1 (SqL.of e29) (by rw [List.length_map, List.length_drop, List.length_drop, lpW]) (by rw [List.length_map, List.length_drop]; omega) ?_ fun H30 u30 eD1 => ?_
  · intro i x y H' N S hx hy sH qy qn
    obtain ⟨pa, hpa, rfl⟩ := refs_at hx
    obtain ⟨r, hr', dx', hdx⟩ := paired_at q29 hpa
    have er : y = r := Option.some.inj (hy.symm.trans hr')
    subst er
    have rok := VD.ok y (List.mem_of_mem_drop (List.mem_of_getElem? hr'))
    have C := PP y.k rok.1
    have hd3 := sH _ _ hdx
    refine ⟨_, rfl, pa, _, dx', _, rfl, ⟨y.k, rok.1, rfl⟩, hd3, pf_no (by decide +kernel) (by decide +kernel) (by decide +kernel), pa, dx', _, _, _, _, rfl, C, hd3, _, rfl, ?_⟩
    rw [in_nm y.k rok.1]
    cases eb : byNm y.k with
    | false =>
      rw [eb] at qn
      exact iteF ⟨(fun e => Bool.noConfusion e), fun _ => qn _ (Same.refl _) rfl⟩
    | true =>
      rw [eb] at qn qy
      refine iteT ?_
      have ek : (true && decide (y.z ≠ ("told" : Str))) = !decide (V.str y.z = V.str "told") := by
        rw [Bool.true_and]
        by_cases z : y.z = "told"
        · rw [z, decide_eq_true rfl]
          exact decide_eq_false (fun h => h rfl)
        · rw [decide_eq_true z, decide_eq_false (fun h => z (V.str.inj h))]
          rfl
      rw [ek] at qy qn
      refine ⟨_, rfl, pa, _, dx', _, _, rfl, hd3, C.cl, C.nN, pf_name, rfl, _, rfl, ?_⟩
      exact ⟨fun e => ⟨_, rfl, pa, _, dx', _, _, rfl, hd3, C.cl, C.nN, pf_name, qy _ (Same.refl _) e⟩, fun e => qn _ (Same.refl _) e⟩
  have eNl : ((rows.drop fa).filter fun r => byNm r.k && decide (r.z ≠ ("told" : Str))).map (fun r => V.str r.z) = (nms B ++ goodN Bh g).map V.str := by
    rw [← sh.namesL, List.map_map, lA']
    rfl
  rw [eNl] at eD1
  have v30 := u29.trans u30
  -- the names amid
  have e30 := v30 _ _ e28
  have q30 := pats_same v30 q28
  have lrw : fa + fm ≤ rows.length := by rw [erow]; simp only [List.length_append, List.length_singleton]; omega
  have hcut : cutV (pW.map V.ref) (some (fa : Int)) (some ((fa : Int) + (fm : Int))) = ((pW.drop fa).take fm).map V.ref := by
    rw [show (fa : Int) + (fm : Int) = ((fa + fm : Nat) : Int) by omega, cut_mid (by omega) (by rw [List.length_map, lpW]; exact lrw), ← List.map_drop, ← List.map_take, Nat.add_sub_cancel_left]
  refine ⟨_, rfl, _, rfl, _, rfl, _, rfl, _, rfl, _, _, rfl, rfl, _, rfl, lW, _, rfl, SqL.of e30, fun p31 hp31 => ?_⟩
  rw [hcut]
  have u31 := same_new hp31 (.lst (((pW.drop fa).take fm).map V.ref))
  have e31 : upd H30 p31 (.lst (((pW.drop fa).take fm).map V.ref)) p31 = some (.lst (((pW.drop fa).take fm).map V.ref)) := upd_same
  generalize upd H30 p31 (.lst (((pW.drop fa).take fm).map V.ref)) = H31 at u31 e31 ⊢
  have q31 : Paired (PAt c H31) ((pW.drop fa).take fm) ((rows.drop fa).take fm) := pats_same u31 (pairedTake (pairedDrop q30 fa) fm)
  refine ⟨p31, rfl, ⟨_, SqL.of e31⟩, fun D2 hD2 => ?_⟩
  refine lc_sel (K := K) (xs := ((pW.drop fa).take fm).map V.ref) ((rows.drop fa).take fm) (fun r => byNm r.k) (fun r => .str r.z) hD2 (SqL.of e31) (by rw [List.length_map, List.length_take, List.length_take, List.length_drop, List.length_drop, lpW]) (by rw [List.length_map, List.length_take, List.length_drop]; omega) ?_ fun H32 u32 eD2 => ?_
  · intro i x y H' N S hx hy sH qy qn
    obtain ⟨pa, hpa, rfl⟩ := refs_at hx
    obtain ⟨r, hr', dx', hdx⟩ := paired_at q31 hpa
    have er : y = r := Option.some.inj (hy.symm.trans hr')
    subst er
    have rok := VD.ok y (List.mem_of_mem_drop (List.mem_of_mem_take (List.mem_of_getElem? hr')))
    have C := PP y.k rok.1
    have hd3 := sH _ _ hdx
    refine ⟨_, rfl, pa, _, dx', _, rfl, ⟨y.k, rok.1, rfl⟩, hd3, pf_no (by decide +kernel) (by decide +kernel) (by decide +kernel), pa, dx', _, _, _, _, rfl, C, hd3, _, rfl, ?_⟩
    rw [in_nm y.k rok.1]
    exact ⟨fun e => ⟨_, rfl, pa, _, dx', _, _, rfl, hd3, C.cl, C.nN, pf_name, qy _ (Same.refl _) e⟩, fun e => qn _ (Same.refl _) e⟩
  have eMl : (((rows.drop fa).take fm).filter fun r => byNm r.k).map (fun r => V.str r.z) = (nms B).map V.str := by
    rw [← sh.middle, List.map_map, lA', lB']
    rfl
  rw [eMl] at eD2
  have v32 := u31.trans u32
  have eD1' := v32 _ _ eD1
  -- the good call
  obtain ⟨lnB, lgN⟩ := names_le (g := g) (B := B) (Bh := Bh) (by omega) (by omega)
  have lAll : (nms B ++ goodN Bh g).length ≤ 100 := by rw [List.length_append]; omega
  refine ⟨_, rfl, _, rfl, D1, rfl, ⟨_, SqL.of eD1'⟩, fun D3 hD3 => ?_⟩
  refine lc_notin (D2 := D2) rfl hD3 eD1' eD2 lAll fun H33 u33 eD3 => ?_
  rw [sh.goodF] at eD3
  refine ⟨fm, D3, goodN Bh g, rfl, by omega, eD3, by omega, fun lg H34 u34 nlg hg => ?_⟩
  have v34 : Same H28 H34 := v30.trans (v32.trans (u33.trans u34))
  have hL34 := hL28.same v34
  have P34 := P26.same (w28.trans v34)
  have hF34 := hF26.same (w28.trans v34)
  have eD1a := u34 _ _ (u33 _ _ eD1')
  have eD2a := u34 _ _ (u33 _ _ eD2)
  have e34 := v34 _ _ e28
  have q34 := pats_same v34 q28
  have s34 := s26.trans (w28.trans v34)
  refine gName_go ?_
  dsimp only
  clear hcut
  have eW : (missF rows bars ((intsTo fa).length + fm) ([(("told" : Str), (3 : Int))].map (·.1) ++ goodN Bh g)).isEmpty = !Bh.any stuck := by
    have : missF rows bars ((intsTo fa).length + fm) ([(("told" : Str), (3 : Int))].map (·.1) ++ goodN Bh g) = (stuckN (A.length + B.length + 1) Bh).map fun n => (("lacking" : Str), n) := by
      rw [intsTo_len, ← sh.whole hbn hb2, lA', lB']
      rfl
    rw [this]
    cases e : Bh.any stuck with
    | false => rw [(stuckN_nil Bh (A.length + B.length + 1)).mpr e]; rfl
    | true =>
      cases z : stuckN (A.length + B.length + 1) Bh with
      | nil => rw [(stuckN_nil Bh _).mp z] at e; cases e
      | cons _ _ => rfl
  have efg : missC (leftR rows ["told"] A.length (A.length + B.length)) (leftB rows bars ["told"] A.length) (callI fm (goodN Bh g)) = [] := by rw [miss_call, ← lB', sh.left_good hbn hb2]
  refine seq_via (fun σ H' => σ = [some (V.ref sa), some (V.int (fa : Nat)), some (V.int (fm : Nat)), some (V.int (fl : Nat)), some (V.int n3), some (V.ref lW), some (V.ref lH), some (V.ref xf), some (V.ref xp), some vl, some (V.bl (Bh.any stuck)), some (V.ref D1), some (V.ref D2), some (V.ref lg), none, none, none, none] ∧ Same H34 H') ?_ fun go => ?_
  rotate_left 1
  · refine ⟨_, rfl, _, rfl, _, rfl, xf, xp, xf, lg, rows, bars, intsTo fa, _, fm, goodN Bh g, rfl, hF34, P34, hg, by rw [intsTo_len]; omega, (by rw [List.length_singleton]; omega), fun H35 u35 => ?_⟩
    rw [eW]
    refine ⟨_, rfl, rfl, _, rfl, ?_⟩
    rcases hL34 with ⟨rfl, e⟩ | ⟨g', rfl, e, hFl⟩
    · rw [e] at go ⊢
      refine iteF ⟨_, rfl, _, rfl, iteF (iteF (go _ _ ⟨rfl, u35⟩))⟩
    · rw [e] at go ⊢
      refine iteF ⟨_, rfl, _, rfl, iteT ?_⟩
      refine ⟨_, rfl, _, rfl, g', lg, _, _, _, rfl, hFl.same u35, hg.same u35, fun H36 u36 => ?_⟩
      rw [efg]
      exact ⟨_, rfl, iteF (go _ _ ⟨rfl, u35.trans u36⟩)⟩
  rintro _ H37 ⟨rfl, u37⟩
  -- one thing more
  have ie : ∀ (ms : List (Str × Nat)), ms ≠ [] → ms.isEmpty = false := fun ms h => by
    cases ms with
    | nil => exact absurd rfl h
    | cons _ _ => rfl
  refine ⟨_, rfl, _, _, rfl, rfl, _, rfl, _, rfl, _, _, rfl, rfl, _, _, rfl, rfl, (by show 2 ≤ sizeLine; decide), fun l38 hl38 => ?_⟩
  have u38 := same_new hl38 (.lst [.int ((fm : Int) + 1), .int ((fm : Int) + (fl : Int) + 1)])
  have e38 : upd H37 l38 (.lst [.int ((fm : Int) + 1), .int ((fm : Int) + (fl : Int) + 1)]) l38 = some (.lst [.int ((fm : Int) + 1), .int ((fm : Int) + (fl : Int) + 1)]) := upd_same
  generalize upd H37 l38 (.lst [.int ((fm : Int) + 1), .int ((fm : Int) + (fl : Int) + 1)]) = H38 at u38 e38 ⊢
  refine ⟨l38, rfl, ⟨_, SqL.of e38⟩, for_list (K := K) (a := l38) (xs := [.int ((fm : Int) + 1), .int ((fm : Int) + (fl : Int) + 1)]) (fun i σ H' => ∃ v14 v15, σ = [some (V.ref sa), some (V.int (fa : Nat)), some (V.int (fm : Nat)), some (V.int (fl : Nat)), some (V.int n3), some (V.ref lW), some (V.ref lH), some (V.ref xf), some (V.ref xp), some vl, some (V.bl (Bh.any stuck)), some (V.ref D1), some (V.ref D2), some (V.ref lg), v14, v15, none, none] ∧ Same H38 H') ⟨_, _, rfl, Same.refl _⟩ (fun i σ H' _ ⟨_, _, _, sH⟩ => SqL.of (sH _ _ e38)) ?_ ?_⟩
  · rintro i x σ H39 hx ⟨v14, v15, rfl, u39⟩
    obtain ⟨n, rfl, hn1, hn2⟩ : ∃ n : Nat, x = .int (n : Nat) ∧ fm < n ∧ n ≤ 100 := by
      have := List.mem_of_getElem? hx
      rcases List.mem_cons.mp this with rfl | h
      · exact ⟨fm + 1, rfl, by omega, by omega⟩
      · rw [List.mem_singleton.mp h]
        exact ⟨fm + fl + 1, rfl, by omega, by omega⟩
    have v39 : Same H34 H39 := u37.trans (u38.trans u39)
    refine ⟨(by show 0 ≤ sizeLine; decide), fun l40 hl40 => ?_⟩
    have u40 := same_new hl40 (.lst [])
    have e40 : upd H39 l40 (.lst []) l40 = some (.lst (([] : List Str).map V.str)) := upd_same
    generalize upd H39 l40 (.lst []) = H40 at u40 e40 ⊢
    have v40 := v39.trans u40
    refine ⟨_, rfl, _, rfl, D1, rfl, ⟨_, SqL.of (v40 _ _ eD1a)⟩, fun D4 hD4 => ?_⟩
    refine lc_notin (D2 := D2) rfl hD4 (v40 _ _ eD1a) (v40 _ _ eD2a) lAll fun H41 u41 eD4 => ?_
    refine ⟨(by show 3 ≤ sizeLine; decide), fun l42 hl42 => ?_⟩
    have u42 := same_new hl42 (.lst [.ref l40, .ref D1, .ref D4])
    have e42 : upd H41 l42 (.lst [.ref l40, .ref D1, .ref D4]) l42 = some (.lst [.ref l40, .ref D1, .ref D4]) := upd_same
    generalize upd H41 l42 (.lst [.ref l40, .ref D1, .ref D4]) = H42 at u42 e42 ⊢
    have v42 := v40.trans (u41.trans u42)
    have u4042 := u41.trans u42
    refine ⟨l42, rfl, ⟨_, SqL.of e42⟩, for_list (K := K) (a := l42) (xs := [.ref l40, .ref D1, .ref D4]) (fun i σ H' => ∃ v15, σ = [some (V.ref sa), some (V.int (fa : Nat)), some (V.int (fm : Nat)), some (V.int (fl : Nat)), some (V.int n3), some (V.ref lW), some (V.ref lH), some (V.ref xf), some (V.ref xp), some vl, some (V.bl (Bh.any stuck)), some (V.ref D1), some (V.ref D2), some (V.ref lg), some (V.int (n : Nat)), v15, none, none] ∧ Same H42 H') ⟨_, rfl, Same.refl _⟩ (fun i σ H' _ ⟨_, _, sH⟩ => SqL.of (sH _ _ e42)) ?_ ?_⟩
    · rintro j y σ H43 hy ⟨v15', rfl, u43⟩
      obtain ⟨ad, zs, rfl, had, lzs⟩ : ∃ (ad : Addr) (zs : List Str), y = .ref ad ∧ H42 ad = some (.lst (zs.map V.str)) ∧ zs.length ≤ 100 := by
        have := List.mem_of_getElem? hy
        rcases List.mem_cons.mp this with rfl | h
        · exact ⟨l40, [], rfl, u4042 _ _ e40, by decide⟩
        · rcases List.mem_cons.mp h with rfl | h
          · exact ⟨D1, _, rfl, v42 _ _ eD1a, lAll⟩
          · rw [List.mem_singleton.mp h]
            exact ⟨D4, _, rfl, u42 _ _ eD4, Nat.le_trans (List.length_filter_le _ _) lAll⟩
      have v43 := v42.trans u43
      have hF43 := hF34.same v43
      have P43 := P34.same v43
      have hL43 := hL34.same v43
      refine ⟨_, rfl, _, rfl, _, rfl, _, rfl, n, ad, zs, rfl, hn2, u43 _ _ had, lzs, fun la H44 u44 _ hla => ?_⟩
      refine ⟨xf, xp, xf, la, rows, bars, intsTo fa, _, n, zs, rfl, hF43.same u44, P43.same u44, hla, by rw [intsTo_len]; omega, (by rw [List.length_singleton]; omega), fun H45 u45 => ?_⟩
      have eM : (missF rows bars ((intsTo fa).length + n) ([(("told" : Str), (3 : Int))].map (·.1) ++ zs)).isEmpty = false := by
        rw [intsTo_len, ← lA']
        exact ie _ (sh.more hbn hb2 (by omega))
      rw [eM]
      refine ⟨_, rfl, iteF ?_⟩
      have v45 := u44.trans u45
      rcases hL43 with ⟨rfl, e⟩ | ⟨g', rfl, e, hFl⟩
      · exact ⟨_, rfl, _, rfl, dvN (iteF ⟨_, rfl, u43.trans v45⟩)⟩
      · refine ⟨_, rfl, _, rfl, dvY ?_⟩
        refine ⟨_, rfl, _, rfl, _, rfl, n, ad, zs, rfl, hn2, v45 _ _ (u43 _ _ had), lzs, fun lc H46 u46 _ hlc => ?_⟩
        refine ⟨g', lc, _, _, _, rfl, hFl.same (v45.trans u46), hlc, fun H47 u47 => ?_⟩
        have efm : (missC (leftR rows ["told"] A.length (A.length + B.length)) (leftB rows bars ["told"] A.length) (callI n zs)).isEmpty = false := by
          rw [miss_call]
          exact ie _ (sh.left_more (by omega))
        rw [efm]
        exact ⟨_, rfl, iteF ⟨_, rfl, u43.trans (v45.trans (u46.trans u47))⟩⟩
    · rintro σ H43 ⟨v15', rfl, u43⟩
      exact ⟨_, _, rfl, u39.trans (u40.trans (u4042.trans u43))⟩
  rintro _ H48 ⟨v14, v15, rfl, u48⟩
  have v48 : Same H34 H48 := u37.trans (u38.trans u48)
  dsimp only
  -- the lacking ones
  have hF48 := hF34.same v48
  have P48 := P34.same v48
  have hg48 := hg.same v48
  obtain ⟨dxq', k1', k2', yk', hpq', -, -, -⟩ := id P48
  refine ⟨_, rfl, _, rfl, xp, dxq', _, rfl, hpq', pt_no (by decide +kernel) (by decide +kernel) (by decide +kernel), _, rfl, xp, xf, lg, intsTo fa, _, callI fm (goodN Bh g), rfl, P48, hg48, by rw [intsTo_len, callT, intsTo_len]; omega, (by rw [callP, rngP_len, List.length_singleton]; omega), fun l49 H49 u49 _ hC49 => ?_⟩
  refine ⟨l49, _, _, rfl, hC49, fun l50 H50 u50 _ hC50 => ?_⟩
  refine ⟨xf, l50, rows, bars, _, rfl, hF48.same (u49.trans u50), hC50, fun l51 H51 u51 ⟨us, nl51, e51, hms⟩ => ?_⟩
  have eMs : missC rows bars (packI (intsTo fa ++ laidT (callI fm (goodN Bh g))) ([(("told" : Str), (3 : Int))] ++ laidP (callI fm (goodN Bh g)))) = (stuckN (A.length + B.length + 1) Bh).map fun n => (("lacking" : Str), n) := by
    rw [miss_pack, callT, callP, List.length_append, intsTo_len, intsTo_len, List.map_append, rngP_names, ← sh.whole hbn hb2, lA', lB']
    rfl
  rw [eMs] at hms
  obtain ⟨sn, esn⟩ : ∃ sn, stuckN (A.length + B.length + 1) Bh = sn := ⟨_, rfl⟩
  rw [esn] at hms
  have lsn : sn.length ≤ 100 := by
    have : ∀ (X : List Rw) (i : Nat), (stuckN i X).length ≤ X.length := fun X => by
      induction X with
      | nil => exact fun _ => Nat.le_refl _
      | cons x X ih =>
        intro i
        show ((if stuck x = true then [i] else []) ++ stuckN (i + 1) X).length ≤ _
        have := ih (i + 1)
        rw [List.length_append, List.length_cons]
        split <;> simp <;> omega
    have := this Bh (A.length + B.length + 1)
    rw [esn] at this
    omega
  have lus : us.length = sn.length := by rw [hms.length, List.length_map]
  refine ⟨l51, rfl, ⟨_, SqL.of e51⟩, fun D5 hD5 => ?_⟩
  refine lc_sel (K := K) (xs := us.map V.ref) (sn.map fun n => (("lacking" : Str), n)) (fun m => decide (V.str m.1 = V.str "lacking")) (fun m => .int (m.2 : Nat)) hD5 (SqL.of e51) (by rw [List.length_map, List.length_map, lus]) (by rw [List.length_map]; omega) ?_ fun H52 u52 eD5 => ?_
  · intro i x y H' N S hx hy sH qy qn
    obtain ⟨pa, hpa, rfl⟩ := refs_at hx
    obtain ⟨r, hr', hdx⟩ := paired_at hms hpa
    have er : y = r := Option.some.inj (hy.symm.trans hr')
    subst er
    refine ⟨pa, _, rfl, SqT.of (sH _ _ hdx), rfl, _, _, rfl, _, _, rfl, rfl, ?_⟩
    refine ⟨_, rfl, rfl, _, rfl, ?_⟩
    exact ⟨fun e => ⟨_, rfl, qy _ (Same.refl _) e⟩, fun e => qn _ (Same.refl _) e⟩
  have eLk : ((sn.map fun n => (("lacking" : Str), n)).filter fun m => decide (V.str m.1 = V.str "lacking")).map (fun m => V.int (m.2 : Nat)) = (sn.map fun (n : Nat) => (n : Int)).map V.int := by
    rw [List.filter_eq_self.mpr, List.map_map, List.map_map]
    · rfl
    · intro m hm
      obtain ⟨n, _, rfl⟩ := List.mem_map.mp hm
      exact decide_eq_true rfl
  rw [eLk] at eD5
  have v52 : Same H34 H52 := v48.trans (u49.trans (u50.trans (u51.trans u52)))
  have e52 := v52 _ _ e34
  have q52 := pats_same v52 q34
  -- the seats
  refine ⟨_, rfl, lW, rfl, ⟨_, SqL.of e52⟩, fun D6 hD6 => ?_⟩
  refine lc_sele (K := K) (xs := pW.map V.ref) rows.zipIdx (fun p => isSeat p.1) (fun p => .int (p.2 : Nat)) hD6 (SqL.of e52) (by rw [List.length_map, List.length_zipIdx, lpW]) (by rw [List.length_map]; omega) ?_ fun H53 u53 eD6 => ?_
  · intro i x y p H' N S hx hy hpn sH qy qn
    obtain ⟨pa, hpa, rfl⟩ := refs_at hx
    obtain ⟨r, hr', dx', hdx⟩ := paired_at q52 hpa
    have ey : y = (r, i) := by
      rw [List.getElem?_zipIdx, hr'] at hy
      have := Option.some.inj hy
      rw [← this, Nat.zero_add]
    subst ey
    have rok := VD.ok r (List.mem_of_getElem? hr')
    have C := PP r.k rok.1
    have sp := same_new hpn (.tup [.int (i : Nat), .ref pa])
    have hd3 := sp _ _ (sH _ _ hdx)
    refine ⟨p, _, rfl, SqT.of upd_same, rfl, _, _, rfl, _, _, rfl, rfl, ?_⟩
    refine ⟨_, rfl, pa, _, dx', _, rfl, ⟨r.k, rok.1, rfl⟩, hd3, pf_no (by decide +kernel) (by decide +kernel) (by decide +kernel), pa, dx', _, _, _, _, rfl, C, hd3, _, rfl, ?_⟩
    rw [in_pl r.k rok.1]
    have qy' : isSeat r = true → N (.int (i : Nat)) _ := qy _ sp
    have qn' : isSeat r = false → S _ := qn _ sp
    unfold isSeat at qy' qn'
    cases ep : byPl r.k with
    | false =>
      rw [ep] at qn'
      exact iteF ⟨(fun e => Bool.noConfusion e), fun _ => qn' rfl⟩
    | true =>
      rw [ep] at qn' qy'
      refine iteT ?_
      refine ⟨_, rfl, pa, _, dx', _, rfl, ⟨r.k, rok.1, rfl⟩, hd3, pf_no (by decide +kernel) (by decide +kernel) (by decide +kernel), pa, dx', _, _, _, _, rfl, C, hd3, _, rfl, ?_⟩
      rw [in_nm r.k rok.1]
      cases eb : byNm r.k with
      | true =>
        rw [eb] at qn'
        exact iteF ⟨(fun e => Bool.noConfusion e), fun _ => qn' rfl⟩
      | false =>
        rw [eb] at qn' qy'
        refine iteT ?_
        refine ⟨_, rfl, pa, _, dx', _, rfl, ⟨r.k, rok.1, rfl⟩, hd3, pf_no (by decide +kernel) (by decide +kernel) (by decide +kernel), pa, dx', _, _, _, _, rfl, C, hd3, _, rfl, ?_⟩
        exact ⟨fun e => ⟨_, rfl, qy' e⟩, fun e => qn' e⟩
  have eSt : (rows.zipIdx.filter fun p => isSeat p.1).map (fun p => V.int (p.2 : Nat)) = (seatN 0 rows).map fun n => V.int (n : Nat) := by
    unfold seatN
    rw [List.map_map]
    rfl
  rw [eSt] at eD6
  have eD5' := u53 _ _ eD5
  have lse : (seatN 0 rows).length ≤ 1000 := by
    unfold seatN
    rw [List.length_map]
    have := List.length_filter_le (fun p : Rw × Nat => isSeat p.1) (rows.zipIdx 0)
    rw [List.length_zipIdx] at this
    omega
  refine ⟨_, rfl, _, rfl, D6, rfl, ⟨_, SqL.of eD6⟩, fun D7 hD7 => ?_⟩
  refine lc_sel (K := K) (xs := (seatN 0 rows).map fun n => V.int (n : Nat)) (seatN 0 rows) (fun k => decide (k > fa + fm)) (fun n => .int (n : Nat)) hD7 (SqL.of eD6) (by rw [List.length_map]) (by rw [List.length_map]; exact lse) ?_ fun H54 u54 eD7 => ?_
  · intro i x y H' N S hx hy sH qy qn
    have ex : x = .int (y : Nat) := by
      rw [List.getElem?_map, hy] at hx
      exact (Option.some.inj hx).symm
    subst ex
    refine ⟨_, rfl, _, rfl, _, rfl, _, _, rfl, rfl, _, _, rfl, rfl, _, rfl, ?_⟩
    have ed : decide ((fa : Int) + (fm : Int) < (y : Int)) = decide (y > fa + fm) := by
      rw [Bool.eq_iff_iff, decide_eq_true_eq, decide_eq_true_eq]
      omega
    rw [ed]
    exact ⟨fun e => ⟨_, rfl, qy _ (Same.refl _) e⟩, fun e => qn _ (Same.refl _) e⟩
  have eSe : ((seatN 0 rows).filter fun k => decide (k > fa + fm)).map (fun n => V.int (n : Nat)) = (sn.map fun (n : Nat) => (n : Int)).map V.int := by
    rw [← esn, ← sh.seats, lA', lB', List.map_map]
    rfl
  rw [eSe] at eD7
  exact ⟨D5, D7, 1, .lst ((sn.map fun (n : Nat) => (n : Int)).map .int), fun _ => True, fun _ => True, rfl, rfl, by decide, Says.lst True.intro (u54 _ _ eD5') (ints_says _), Says.lst True.intro eD7 (ints_says _), q _⟩
end
end K65

set_option Elab.async false
def PySem.W.Fast.tw16388552382914051476 : Unit := ()
def PySem.W.Fast.tw4192231033088966732 : Unit := ()
def PySem.W.Fast.tw8241875611061918598 : Unit := ()
def PySem.W.Fast.tw1246655028015495376 : Unit := ()
def PySem.W.Fast.tw8649698003725866579 : Unit := ()
def PySem.W.Fast.tw11053418818005117674 : Unit := ()
def PySem.W.Fast.tw13029491077305980131 : Unit := ()
def PySem.W.Fast.tw1575860387724295851 : Unit := ()
def PySem.W.Fast.tw770919547377236326 : Unit := ()
def PySem.W.Fast.tw9357406021590270114 : Unit := ()
def PySem.W.Fast.tw15976758659114281735 : Unit := ()
def PySem.W.Fast.tw10479281921009949940 : Unit := ()
def PySem.W.Fast.tw10896767358676482350 : Unit := ()
def PySem.W.Fast.tw3112315309893120464 : Unit := ()
def PySem.W.Fast.tw16047397486885077553 : Unit := ()
def PySem.W.Fast.tw10264756052719676309 : Unit := ()
def PySem.W.Fast.tw17013468646012251294 : Unit := ()
def PySem.W.Fast.tw340467054060235156 : Unit := ()
def PySem.W.Fast.tw1581992696743767896 : Unit := ()
def PySem.W.Fast.tw8144906877853935209 : Unit := ()
def PySem.W.Fast.tw9536046335277140618 : Unit := ()
def PySem.W.Fast.tw2975078793685765124 : Unit := ()
def PySem.W.Fast.tw3564056178543538908 : Unit := ()
def PySem.W.Fast.tw18004047143985811700 : Unit := ()
def PySem.W.Fast.tw15726984351527336475 : Unit := ()
def PySem.W.Fast.tw3007616629205063155 : Unit := ()
def PySem.W.Fast.tw2033692980049341320 : Unit := ()
def PySem.W.Fast.tw2463780036430041625 : Unit := ()
def PySem.W.Fast.tw17017642414344079299 : Unit := ()
set_option linter.all false
set_option maxRecDepth 100000
set_option maxHeartbeats 4000000
namespace K65
open PySem L2 PyProof.Rows
theorem own_in {K : PySem.W.Frag} {h : Heap} {mg : Str → Option Value} {x : Str} {C : Addr} {bm : List Value} {nid : String} (X : K.In h) (G : h.Ns mainGlobals mg) (e : PySem.W.nsIn K mainGlobals x = some (some (.ref C))) (q : PySem.W.excIn K C bm nid = true) : OwnCls x C bm nid mg h := by
  have b : mg x = some (.ref C) := PySem.W.mg_of X G e
  refine ⟨b, ?_⟩
  simp only [PySem.W.excIn] at q
  split at q
  case h_2 => cases q
  rename_i dd cd sl ho
  obtain ⟨nm, bs, mro, ns, qn, hd, sn, sub, ab, col, del⟩ := cd
  obtain ⟨l⟩ := sl
  dsimp only at q
  split at q
  case h_2 => cases q
  rename_i C' m k0 k1 k2 k3 n k5
  simp only [Bool.and_eq_true, beq_iff_eq, Bool.not_eq_true'] at q
  obtain ⟨⟨⟨⟨⟨rfl, rfl⟩, rfl⟩, ht⟩, hok⟩, hni⟩ := q
  exact ⟨m, ns, nm, qn, bs, hd, sn, sub, ab, col, dd, k0, k1, k2, k3, k5, _, X _ _ ho, .of_isNs (PySem.W.isNs_of_in X hok), PySem.W.nsMap_none_of_in X hok hni, PySem.W.tail_of_in X ht⟩
theorem ktab_of {w : World} {K : PySem.W.Frag} {Gr : Addr} {es : Array DictEntry} {n : Nat} {t0 t1 t2 t3 t4 : Tok} (hl : K.lookup Gr = some ⟨.type "dict", none, .dict es n, #[]⟩) (hk : PySem.W.KeysLit w.params es.toList) (h0 : PySem.W.nsIn K Gr "seat" = some (some (.int 0 t0))) (h1 : PySem.W.nsIn K Gr "both" = some (some (.int 0 t1))) (h2 : PySem.W.nsIn K Gr "tail" = some (some (.int 1 t2)))
    (h3 : PySem.W.nsIn K Gr "tag" = some (some (.int 2 t3))) (h4 : PySem.W.nsIn K Gr "bag" = some (some (.int 3 t4))) : KTab w K Gr grpV := by
  refine ⟨⟨es, n, hl, hk⟩, fun x v h => ?_⟩
  unfold grpV at h
  by_cases e0 : x = "seat"
  · subst e0; rw [List.lookup_cons_self] at h; cases h; exact ⟨_, h0, _, rfl⟩
  rw [List.lookup_cons, beq_eq_false_iff_ne.mpr e0] at h
  by_cases e1 : x = "both"
  · subst e1; rw [List.lookup_cons_self] at h; cases h; exact ⟨_, h1, _, rfl⟩
  rw [List.lookup_cons, beq_eq_false_iff_ne.mpr e1] at h
  by_cases e2 : x = "tail"
  · subst e2; rw [List.lookup_cons_self] at h; cases h; exact ⟨_, h2, _, rfl⟩
  rw [List.lookup_cons, beq_eq_false_iff_ne.mpr e2] at h
  by_cases e3 : x = "tag"
  · subst e3; rw [List.lookup_cons_self] at h; cases h; exact ⟨_, h3, _, rfl⟩
  rw [List.lookup_cons, beq_eq_false_iff_ne.mpr e3] at h
  by_cases e4 : x = "bag"
  · subst e4; rw [List.lookup_cons_self] at h; cases h; exact ⟨_, h4, _, rfl⟩
  rw [List.lookup_cons, beq_eq_false_iff_ne.mpr e4] at h
  cases h
theorem all_mk {l : PySem.W.OpenLaw} {w : World} {K : PySem.W.Frag} {h : Heap} {mg : Str → Option Value} {fa D C0 C1 C2 C3 C4 FM PT f1 f2 f3 f4 f5 f6 f7 f8 f9 f10 f11 f12 f13 f14 f15 f16 f17 f18 f19 f20 f21 f22 f23 f24 f25 f26 f27 f28 f29 f30 f31 f32 f33 f34 f35 f36 f37 f38 f39 f40 f41 f42 f43 f44 f45 f46 f47 f48 f49 f50 f51 f52 f53 f54 T8 T9 T11 T13 : Addr} (X : K.In h) (G : h.Ns mainGlobals mg) (hfa : mg "law" = some (.ref fa))
    {od1 an1 od2 an2 od3 an3 od4 an4 od5 an5 od6 an6 od7 an7 od8 an8 od9 an9 od10 an10 od11 an11 od12 an12 od13 an13 od14 an14 od15 an15 od16 an16 od17 an17 od18 an18 od19 an19 od20 an20 od21 an21 od22 an22 od23 an23 od24 an24 od25 an25 od26 an26 od27 an27 od28 an28 od29 an29 od30 an30 od31 an31 od32 an32 od33 an33 od34 an34 od35 an35 od36 an36 od37 an37 od38 an38 od39 an39 od40 an40 od41 an41 od42 an42 od43 an43 od44 an44 od45 an45 od46 an46 od47 an47 od48 an48 od49 an49 od50 an50 od51 an51 od52 an52 od53 an53 od54 an54 odT8 odT9 odT11 odT13 : Option Addr} {sl1 sl2 sl3 sl4 sl5 sl6 sl7 sl8 sl9 sl10 sl11 sl12 sl13 sl14 sl15 sl16 sl17 sl18 sl19 sl20 sl21 sl22 sl23 sl24 sl25 sl26 sl27 sl28 sl29 sl30 sl31 sl32 sl33 sl34 sl35 sl36 sl37 sl38 sl39 sl40 sl41 sl42 sl43 sl44 sl45 sl46 sl47 sl48 sl49 sl50 sl51 sl52 sl53 sl54 slT8 slT9 slT11 slT13 : Array (Option Value)} {oc1 kV1 dc1 pm1 cd1 ct1 oc2 kV2 dc2 pm2 cd2 ct2 oc3 kV3 dc3 pm3 cd3 ct3 oc4 kV4 dc4 pm4 cd4 ct4 oc5 kV5 dc5 pm5 cd5 ct5 oc6 kV6 dc6 pm6 cd6 ct6 oc7 kV7 dc7 pm7 cd7 ct7 oc8 kV8 dc8 pm8 cd8 ct8 oc9 kV9 dc9 pm9 cd9 ct9 oc10 kV10 dc10 pm10 cd10 ct10 oc11 kV11 dc11 pm11 cd11 ct11 oc12 kV12 dc12 pm12 cd12 ct12 oc13 kV13 dc13 pm13 cd13 ct13 oc14 kV14 dc14 pm14 cd14 ct14 oc15 kV15 dc15 pm15 cd15 ct15 oc16 kV16 dc16 pm16 cd16 ct16 oc17 kV17 dc17 pm17 cd17 ct17 oc18 kV18 dc18 pm18 cd18 ct18 oc19 kV19 dc19 pm19 cd19 ct19 oc20 kV20 dc20 pm20 cd20 ct20 oc21 kV21 dc21 pm21 cd21 ct21 oc22 kV22 dc22 pm22 cd22 ct22 oc23 kV23 dc23 pm23 cd23 ct23 oc24 kV24 dc24 pm24 cd24 ct24 oc25 kV25 dc25 pm25 cd25 ct25 oc26 kV26 dc26 pm26 cd26 ct26 oc27 kV27 dc27 pm27 cd27 ct27 oc28 kV28 dc28 pm28 cd28 ct28 oc29 kV29 dc29 pm29 cd29 ct29 oc30 kV30 dc30 pm30 cd30 ct30 oc31 kV31 dc31 pm31 cd31 ct31 oc32 kV32 dc32 pm32 cd32 ct32 oc33 kV33 dc33 pm33 cd33 ct33 oc34 kV34 dc34 pm34 cd34 ct34 oc35 kV35 dc35 pm35 cd35 ct35 oc36 kV36 dc36 pm36 cd36 ct36 oc37 kV37 dc37 pm37 cd37 ct37 oc38 kV38 dc38 pm38 cd38 ct38 oc39 kV39 dc39 pm39 cd39 ct39 oc40 kV40 dc40 pm40 cd40 ct40 oc41 kV41 dc41 pm41 cd41 ct41 oc42 kV42 dc42 pm42 cd42 ct42 oc43 kV43 dc43 pm43 cd43 ct43 oc44 kV44 dc44 pm44 cd44 ct44 oc45 kV45 dc45 pm45 cd45 ct45 oc46 kV46 dc46 pm46 cd46 ct46 oc47 kV47 dc47 pm47 cd47 ct47 oc48 kV48 dc48 pm48 cd48 ct48 oc49 kV49 dc49 pm49 cd49 ct49 oc50 kV50 dc50 pm50 cd50 ct50 oc51 kV51 dc51 pm51 cd51 ct51 oc52 kV52 dc52 pm52 cd52 ct52 oc53 kV53 dc53 pm53 cd53 ct53 oc54 kV54 dc54 pm54 cd54 ct54 ocT8 ocT9 ocT11 ocT13 : Value}
    {nT8 nT9 nT11 nT13 : Nat}
    {N tP tB tO sg Gr : Addr} {tL tN tMP tMB ktP0 ktP1 ktB0 ktB1 ktO0 ktO1 ktO2 ksg0 ksg1 kG0 kG1 kG2 kG3 kG4 : Tok} {odtP odtB odtO odsg : Option Addr} {ntP ntB ntO nsg nG : Nat} {sltP sltB sltO slsg : Array (Option Value)} {esG : Array DictEntry}
    (aD : PySem.W.nsIn K mainGlobals "Parameter" = some (some (.ref D))) (pgD : PySem.W.plainGet K D Str.empty = true) (hdD : PySem.W.hasDictIn K D = true) (poD : PySem.W.plainOver K D = true) (saD : PySem.W.findIn K (.ref D) "__setattr__" = some (some (.builtin "object.__setattr__"))) (mkD : PySem.W.makesIn K D = true) (kcD : PySem.W.keepIn K (.ref D) = true)
    (aC0 : PySem.W.nsIn K mainGlobals "Seat" = some (some (.ref C0))) (pgC0 : PySem.W.plainGet K C0 Str.empty = true) (hdC0 : PySem.W.hasDictIn K C0 = true) (poC0 : PySem.W.plainOver K C0 = true) (saC0 : PySem.W.findIn K (.ref C0) "__setattr__" = some (some (.builtin "object.__setattr__"))) (mkC0 : PySem.W.makesIn K C0 = true) (kcC0 : PySem.W.keepIn K (.ref C0) = true)
    (nC0_word : PySem.W.findIn K (.ref C0) "word" = some none)
    (nC0_name : PySem.W.findIn K (.ref C0) "name" = some none)
    (nC0_may_lack : PySem.W.findIn K (.ref C0) "may_lack" = some none)
    (aC1 : PySem.W.nsIn K mainGlobals "Both" = some (some (.ref C1))) (pgC1 : PySem.W.plainGet K C1 Str.empty = true) (hdC1 : PySem.W.hasDictIn K C1 = true) (poC1 : PySem.W.plainOver K C1 = true) (saC1 : PySem.W.findIn K (.ref C1) "__setattr__" = some (some (.builtin "object.__setattr__"))) (mkC1 : PySem.W.makesIn K C1 = true) (kcC1 : PySem.W.keepIn K (.ref C1) = true)
    (nC1_word : PySem.W.findIn K (.ref C1) "word" = some none)
    (nC1_name : PySem.W.findIn K (.ref C1) "name" = some none)
    (nC1_may_lack : PySem.W.findIn K (.ref C1) "may_lack" = some none)
    (aC2 : PySem.W.nsIn K mainGlobals "Tail" = some (some (.ref C2))) (pgC2 : PySem.W.plainGet K C2 Str.empty = true) (hdC2 : PySem.W.hasDictIn K C2 = true) (poC2 : PySem.W.plainOver K C2 = true) (saC2 : PySem.W.findIn K (.ref C2) "__setattr__" = some (some (.builtin "object.__setattr__"))) (mkC2 : PySem.W.makesIn K C2 = true) (kcC2 : PySem.W.keepIn K (.ref C2) = true)
    (nC2_word : PySem.W.findIn K (.ref C2) "word" = some none)
    (nC2_name : PySem.W.findIn K (.ref C2) "name" = some none)
    (nC2_may_lack : PySem.W.findIn K (.ref C2) "may_lack" = some none)
    (aC3 : PySem.W.nsIn K mainGlobals "Tag" = some (some (.ref C3))) (pgC3 : PySem.W.plainGet K C3 Str.empty = true) (hdC3 : PySem.W.hasDictIn K C3 = true) (poC3 : PySem.W.plainOver K C3 = true) (saC3 : PySem.W.findIn K (.ref C3) "__setattr__" = some (some (.builtin "object.__setattr__"))) (mkC3 : PySem.W.makesIn K C3 = true) (kcC3 : PySem.W.keepIn K (.ref C3) = true)
    (nC3_word : PySem.W.findIn K (.ref C3) "word" = some none)
    (nC3_name : PySem.W.findIn K (.ref C3) "name" = some none)
    (nC3_may_lack : PySem.W.findIn K (.ref C3) "may_lack" = some none)
    (aC4 : PySem.W.nsIn K mainGlobals "Bag" = some (some (.ref C4))) (pgC4 : PySem.W.plainGet K C4 Str.empty = true) (hdC4 : PySem.W.hasDictIn K C4 = true) (poC4 : PySem.W.plainOver K C4 = true) (saC4 : PySem.W.findIn K (.ref C4) "__setattr__" = some (some (.builtin "object.__setattr__"))) (mkC4 : PySem.W.makesIn K C4 = true) (kcC4 : PySem.W.keepIn K (.ref C4) = true)
    (nC4_word : PySem.W.findIn K (.ref C4) "word" = some none)
    (nC4_name : PySem.W.findIn K (.ref C4) "name" = some none)
    (nC4_may_lack : PySem.W.findIn K (.ref C4) "may_lack" = some none)
    (aFM : PySem.W.nsIn K mainGlobals "Form" = some (some (.ref FM))) (pgFM : PySem.W.plainGet K FM Str.empty = true) (hdFM : PySem.W.hasDictIn K FM = true) (poFM : PySem.W.plainOver K FM = true) (saFM : PySem.W.findIn K (.ref FM) "__setattr__" = some (some (.builtin "object.__setattr__"))) (mkFM : PySem.W.makesIn K FM = true) (kcFM : PySem.W.keepIn K (.ref FM) = true)
    (nFM_row : PySem.W.findIn K (.ref FM) "row" = some none)
    (nFM_bar_names : PySem.W.findIn K (.ref FM) "bar_names" = some none)
    (nFM_place_count : PySem.W.findIn K (.ref FM) "place_count" = some none)
    (nFM_tail_number : PySem.W.findIn K (.ref FM) "tail_number" = some none)
    (nFM_bag_number : PySem.W.findIn K (.ref FM) "bag_number" = some none)
    (nFM_doors : PySem.W.findIn K (.ref FM) "doors" = some none)
    (aPT : PySem.W.nsIn K mainGlobals "Part" = some (some (.ref PT))) (pgPT : PySem.W.plainGet K PT Str.empty = true) (hdPT : PySem.W.hasDictIn K PT = true) (poPT : PySem.W.plainOver K PT = true) (saPT : PySem.W.findIn K (.ref PT) "__setattr__" = some (some (.builtin "object.__setattr__"))) (mkPT : PySem.W.makesIn K PT = true) (kcPT : PySem.W.keepIn K (.ref PT) = true)
    (nPT_kept_form : PySem.W.findIn K (.ref PT) "kept_form" = some none)
    (nPT_things : PySem.W.findIn K (.ref PT) "things" = some none)
    (nPT_pairs : PySem.W.findIn K (.ref PT) "pairs" = some none)
    (a1 : PySem.W.nsIn K mainGlobals "is_name" = some (some (.ref f1)))
    (l1 : K.lookup f1 = some ⟨oc1, od1, .func (PySem.W.fnOf "is_name" "is_name" (defArgs sIs) (defBody sIs) (defScope sIs) .none kV1 dc1 pm1 an1 cd1 ct1), sl1⟩) (c1 : PySem.W.codeIn K cd1 "is_name" = true) (k1 : PySem.W.keepIn K (.ref f1) = true)
    (a2 : PySem.W.findIn K (.ref D) "__init__" = some (some (.ref f2))) (i2 : PySem.W.isFn K (.ref f2) = true)
    (l2 : K.lookup f2 = some ⟨oc2, od2, .func (PySem.W.fnOf "__init__" "Parameter.__init__" (defArgs sPInit) (defBody sPInit) (defScope sPInit) .none kV2 dc2 pm2 an2 cd2 ct2), sl2⟩) (c2 : PySem.W.codeIn K cd2 "Parameter.__init__" = true) (k2 : PySem.W.keepIn K (.ref f2) = true)
    (a3 : PySem.W.findIn K (.ref D) "free" = some (some (.ref f3))) (i3 : PySem.W.isFn K (.ref f3) = true)
    (l3 : K.lookup f3 = some ⟨oc3, od3, .func (PySem.W.fnOf "free" "Parameter.free" (defArgs sFree) (defBody sFree) (defScope sFree) .none kV3 dc3 pm3 an3 cd3 ct3), sl3⟩) (c3 : PySem.W.codeIn K cd3 "Parameter.free" = true) (k3 : PySem.W.keepIn K (.ref f3) = true)
    (a4 : PySem.W.findIn K (.ref D) "by_place" = some (some (.ref f4))) (i4 : PySem.W.isFn K (.ref f4) = true)
    (l4 : K.lookup f4 = some ⟨oc4, od4, .func (PySem.W.fnOf "by_place" "Parameter.by_place" (defArgs sByPlace) (defBody sByPlace) (defScope sByPlace) .none kV4 dc4 pm4 an4 cd4 ct4), sl4⟩) (c4 : PySem.W.codeIn K cd4 "Parameter.by_place" = true) (k4 : PySem.W.keepIn K (.ref f4) = true)
    (a5 : PySem.W.findIn K (.ref D) "by_name" = some (some (.ref f5))) (i5 : PySem.W.isFn K (.ref f5) = true)
    (l5 : K.lookup f5 = some ⟨oc5, od5, .func (PySem.W.fnOf "by_name" "Parameter.by_name" (defArgs sByName) (defBody sByName) (defScope sByName) .none kV5 dc5 pm5 an5 cd5 ct5), sl5⟩) (c5 : PySem.W.codeIn K cd5 "Parameter.by_name" = true) (k5 : PySem.W.keepIn K (.ref f5) = true)
    (a6 : PySem.W.findIn K (.ref D) "takes_one" = some (some (.ref f6))) (i6 : PySem.W.isFn K (.ref f6) = true)
    (l6 : K.lookup f6 = some ⟨oc6, od6, .func (PySem.W.fnOf "takes_one" "Parameter.takes_one" (defArgs sTakes) (defBody sTakes) (defScope sTakes) .none kV6 dc6 pm6 an6 cd6 ct6), sl6⟩) (c6 : PySem.W.codeIn K cd6 "Parameter.takes_one" = true) (k6 : PySem.W.keepIn K (.ref f6) = true)
    (a7 : PySem.W.findIn K (.ref D) "told" = some (some (.ref f7))) (i7 : PySem.W.isFn K (.ref f7) = true)
    (l7 : K.lookup f7 = some ⟨oc7, od7, .func (PySem.W.fnOf "told" "Parameter.told" (defArgs sTold) (defBody sTold) (defScope sTold) .none kV7 dc7 pm7 an7 cd7 ct7), sl7⟩) (c7 : PySem.W.codeIn K cd7 "Parameter.told" = true) (k7 : PySem.W.keepIn K (.ref f7) = true)
    (a8 : PySem.W.findIn K (.ref C0) "__init__" = some (some (.ref f8))) (i8 : PySem.W.isFn K (.ref f8) = true)
    (l8 : K.lookup f8 = some ⟨oc8, od8, .func (PySem.W.fnOf "__init__" "Seat.__init__" (defArgs sSeat) (defBody sSeat) (defScope sSeat) (.ref T8) kV8 dc8 pm8 an8 cd8 ct8), sl8⟩) (c8 : PySem.W.codeIn K cd8 "Seat.__init__" = true) (k8 : PySem.W.keepIn K (.ref f8) = true)
    (t8 : K.lookup T8 = some ⟨ocT8, odT8, .seq #[Value.bool false] nT8, slT8⟩)
    (a9 : PySem.W.findIn K (.ref C1) "__init__" = some (some (.ref f9))) (i9 : PySem.W.isFn K (.ref f9) = true)
    (l9 : K.lookup f9 = some ⟨oc9, od9, .func (PySem.W.fnOf "__init__" "Both.__init__" (defArgs sBoth) (defBody sBoth) (defScope sBoth) (.ref T9) kV9 dc9 pm9 an9 cd9 ct9), sl9⟩) (c9 : PySem.W.codeIn K cd9 "Both.__init__" = true) (k9 : PySem.W.keepIn K (.ref f9) = true)
    (t9 : K.lookup T9 = some ⟨ocT9, odT9, .seq #[Value.bool false] nT9, slT9⟩)
    (a10 : PySem.W.findIn K (.ref C2) "__init__" = some (some (.ref f10))) (i10 : PySem.W.isFn K (.ref f10) = true)
    (l10 : K.lookup f10 = some ⟨oc10, od10, .func (PySem.W.fnOf "__init__" "Tail.__init__" (defArgs sTail) (defBody sTail) (defScope sTail) .none kV10 dc10 pm10 an10 cd10 ct10), sl10⟩) (c10 : PySem.W.codeIn K cd10 "Tail.__init__" = true) (k10 : PySem.W.keepIn K (.ref f10) = true)
    (a11 : PySem.W.findIn K (.ref C3) "__init__" = some (some (.ref f11))) (i11 : PySem.W.isFn K (.ref f11) = true)
    (l11 : K.lookup f11 = some ⟨oc11, od11, .func (PySem.W.fnOf "__init__" "Tag.__init__" (defArgs sTag) (defBody sTag) (defScope sTag) (.ref T11) kV11 dc11 pm11 an11 cd11 ct11), sl11⟩) (c11 : PySem.W.codeIn K cd11 "Tag.__init__" = true) (k11 : PySem.W.keepIn K (.ref f11) = true)
    (t11 : K.lookup T11 = some ⟨ocT11, odT11, .seq #[Value.bool false] nT11, slT11⟩)
    (a12 : PySem.W.findIn K (.ref C4) "__init__" = some (some (.ref f12))) (i12 : PySem.W.isFn K (.ref f12) = true)
    (l12 : K.lookup f12 = some ⟨oc12, od12, .func (PySem.W.fnOf "__init__" "Bag.__init__" (defArgs sBag) (defBody sBag) (defScope sBag) .none kV12 dc12 pm12 an12 cd12 ct12), sl12⟩) (c12 : PySem.W.codeIn K cd12 "Bag.__init__" = true) (k12 : PySem.W.keepIn K (.ref f12) = true)
    (a13 : PySem.W.findIn K (.ref FM) "__init__" = some (some (.ref f13))) (i13 : PySem.W.isFn K (.ref f13) = true)
    (l13 : K.lookup f13 = some ⟨oc13, od13, .func (PySem.W.fnOf "__init__" "Form.__init__" (defArgs sFInit) (defBody sFInit) (defScope sFInit) (.ref T13) kV13 dc13 pm13 an13 cd13 ct13), sl13⟩) (c13 : PySem.W.codeIn K cd13 "Form.__init__" = true) (k13 : PySem.W.keepIn K (.ref f13) = true)
    (t13 : K.lookup T13 = some ⟨ocT13, odT13, .seq #[Value.none] nT13, slT13⟩)
    (a14 : PySem.W.findIn K (.ref FM) "keep" = some (some (.ref f14))) (i14 : PySem.W.isFn K (.ref f14) = true)
    (l14 : K.lookup f14 = some ⟨oc14, od14, .func (PySem.W.fnOf "keep" "Form.keep" (defArgs sKeep) (defBody sKeep) (defScope sKeep) .none kV14 dc14 pm14 an14 cd14 ct14), sl14⟩) (c14 : PySem.W.codeIn K cd14 "Form.keep" = true) (k14 : PySem.W.keepIn K (.ref f14) = true)
    (a15 : PySem.W.findIn K (.ref FM) "parameters" = some (some (.ref f15))) (i15 : PySem.W.isFn K (.ref f15) = true)
    (l15 : K.lookup f15 = some ⟨oc15, od15, .func (PySem.W.fnOf "parameters" "Form.parameters" (defArgs sFPars) (defBody sFPars) (defScope sFPars) .none kV15 dc15 pm15 an15 cd15 ct15), sl15⟩) (c15 : PySem.W.codeIn K cd15 "Form.parameters" = true) (k15 : PySem.W.keepIn K (.ref f15) = true)
    (a16 : PySem.W.findIn K (.ref FM) "bars" = some (some (.ref f16))) (i16 : PySem.W.isFn K (.ref f16) = true)
    (l16 : K.lookup f16 = some ⟨oc16, od16, .func (PySem.W.fnOf "bars" "Form.bars" (defArgs sFBars) (defBody sFBars) (defScope sFBars) .none kV16 dc16 pm16 an16 cd16 ct16), sl16⟩) (c16 : PySem.W.codeIn K cd16 "Form.bars" = true) (k16 : PySem.W.keepIn K (.ref f16) = true)
    (a17 : PySem.W.findIn K (.ref FM) "places" = some (some (.ref f17))) (i17 : PySem.W.isFn K (.ref f17) = true)
    (l17 : K.lookup f17 = some ⟨oc17, od17, .func (PySem.W.fnOf "places" "Form.places" (defArgs sFPlaces) (defBody sFPlaces) (defScope sFPlaces) .none kV17 dc17 pm17 an17 cd17 ct17), sl17⟩) (c17 : PySem.W.codeIn K cd17 "Form.places" = true) (k17 : PySem.W.keepIn K (.ref f17) = true)
    (a18 : PySem.W.findIn K (.ref FM) "tail" = some (some (.ref f18))) (i18 : PySem.W.isFn K (.ref f18) = true)
    (l18 : K.lookup f18 = some ⟨oc18, od18, .func (PySem.W.fnOf "tail" "Form.tail" (defArgs sFTail) (defBody sFTail) (defScope sFTail) .none kV18 dc18 pm18 an18 cd18 ct18), sl18⟩) (c18 : PySem.W.codeIn K cd18 "Form.tail" = true) (k18 : PySem.W.keepIn K (.ref f18) = true)
    (a19 : PySem.W.findIn K (.ref FM) "bag" = some (some (.ref f19))) (i19 : PySem.W.isFn K (.ref f19) = true)
    (l19 : K.lookup f19 = some ⟨oc19, od19, .func (PySem.W.fnOf "bag" "Form.bag" (defArgs sFBag) (defBody sFBag) (defScope sFBag) .none kV19 dc19 pm19 an19 cd19 ct19), sl19⟩) (c19 : PySem.W.codeIn K cd19 "Form.bag" = true) (k19 : PySem.W.keepIn K (.ref f19) = true)
    (a20 : PySem.W.findIn K (.ref FM) "number_of" = some (some (.ref f20))) (i20 : PySem.W.isFn K (.ref f20) = true)
    (l20 : K.lookup f20 = some ⟨oc20, od20, .func (PySem.W.fnOf "number_of" "Form.number_of" (defArgs sFNum) (defBody sFNum) (defScope sFNum) .none kV20 dc20 pm20 an20 cd20 ct20), sl20⟩) (c20 : PySem.W.codeIn K cd20 "Form.number_of" = true) (k20 : PySem.W.keepIn K (.ref f20) = true)
    (a21 : PySem.W.findIn K (.ref PT) "__init__" = some (some (.ref f21))) (i21 : PySem.W.isFn K (.ref f21) = true)
    (l21 : K.lookup f21 = some ⟨oc21, od21, .func (PySem.W.fnOf "__init__" "Part.__init__" (defArgs sPtInit) (defBody sPtInit) (defScope sPtInit) .none kV21 dc21 pm21 an21 cd21 ct21), sl21⟩) (c21 : PySem.W.codeIn K cd21 "Part.__init__" = true) (k21 : PySem.W.keepIn K (.ref f21) = true)
    (a22 : PySem.W.findIn K (.ref PT) "whole" = some (some (.ref f22))) (i22 : PySem.W.isFn K (.ref f22) = true)
    (l22 : K.lookup f22 = some ⟨oc22, od22, .func (PySem.W.fnOf "whole" "Part.whole" (defArgs sPtWhole) (defBody sPtWhole) (defScope sPtWhole) .none kV22 dc22 pm22 an22 cd22 ct22), sl22⟩) (c22 : PySem.W.codeIn K cd22 "Part.whole" = true) (k22 : PySem.W.keepIn K (.ref f22) = true)
    (a23 : PySem.W.findIn K (.ref PT) "left" = some (some (.ref f23))) (i23 : PySem.W.isFn K (.ref f23) = true)
    (l23 : K.lookup f23 = some ⟨oc23, od23, .func (PySem.W.fnOf "left" "Part.left" (defArgs sPtLeft) (defBody sPtLeft) (defScope sPtLeft) .none kV23 dc23 pm23 an23 cd23 ct23), sl23⟩) (c23 : PySem.W.codeIn K cd23 "Part.left" = true) (k23 : PySem.W.keepIn K (.ref f23) = true)
    (a24 : PySem.W.nsIn K mainGlobals "refuse_too_many" = some (some (.ref f24)))
    (l24 : K.lookup f24 = some ⟨oc24, od24, .func (PySem.W.fnOf "refuse_too_many" "refuse_too_many" (defArgs sRMany) (defBody sRMany) (defScope sRMany) .none kV24 dc24 pm24 an24 cd24 ct24), sl24⟩) (c24 : PySem.W.codeIn K cd24 "refuse_too_many" = true) (k24 : PySem.W.keepIn K (.ref f24) = true)
    (a25 : PySem.W.nsIn K mainGlobals "refuse_bad_order" = some (some (.ref f25)))
    (l25 : K.lookup f25 = some ⟨oc25, od25, .func (PySem.W.fnOf "refuse_bad_order" "refuse_bad_order" (defArgs sROrder) (defBody sROrder) (defScope sROrder) .none kV25 dc25 pm25 an25 cd25 ct25), sl25⟩) (c25 : PySem.W.codeIn K cd25 "refuse_bad_order" = true) (k25 : PySem.W.keepIn K (.ref f25) = true)
    (a26 : PySem.W.nsIn K mainGlobals "refuse_bars_without_name" = some (some (.ref f26)))
    (l26 : K.lookup f26 = some ⟨oc26, od26, .func (PySem.W.fnOf "refuse_bars_without_name" "refuse_bars_without_name" (defArgs sRBars) (defBody sRBars) (defScope sRBars) .none kV26 dc26 pm26 an26 cd26 ct26), sl26⟩) (c26 : PySem.W.codeIn K cd26 "refuse_bars_without_name" = true) (k26 : PySem.W.keepIn K (.ref f26) = true)
    (a27 : PySem.W.nsIn K mainGlobals "refuse_twice" = some (some (.ref f27)))
    (l27 : K.lookup f27 = some ⟨oc27, od27, .func (PySem.W.fnOf "refuse_twice" "refuse_twice" (defArgs sRTwice) (defBody sRTwice) (defScope sRTwice) .none kV27 dc27 pm27 an27 cd27 ct27), sl27⟩) (c27 : PySem.W.codeIn K cd27 "refuse_twice" = true) (k27 : PySem.W.keepIn K (.ref f27) = true)
    (a28 : PySem.W.nsIn K mainGlobals "number_of_word" = some (some (.ref f28)))
    (l28 : K.lookup f28 = some ⟨oc28, od28, .func (PySem.W.fnOf "number_of_word" "number_of_word" (defArgs sNumW) (defBody sNumW) (defScope sNumW) .none kV28 dc28 pm28 an28 cd28 ct28), sl28⟩) (c28 : PySem.W.codeIn K cd28 "number_of_word" = true) (k28 : PySem.W.keepIn K (.ref f28) = true)
    (a29 : PySem.W.nsIn K mainGlobals "laid" = some (some (.ref f29)))
    (l29 : K.lookup f29 = some ⟨oc29, od29, .func (PySem.W.fnOf "laid" "laid" (defArgs sLaid) (defBody sLaid) (defScope sLaid) .none kV29 dc29 pm29 an29 cd29 ct29), sl29⟩) (c29 : PySem.W.codeIn K cd29 "laid" = true) (k29 : PySem.W.keepIn K (.ref f29) = true)
    (a30 : PySem.W.nsIn K mainGlobals "call_of" = some (some (.ref f30)))
    (l30 : K.lookup f30 = some ⟨oc30, od30, .func (PySem.W.fnOf "call_of" "call_of" (defArgs sOf) (defBody sOf) (defScope sOf) .none kV30 dc30 pm30 an30 cd30 ct30), sl30⟩) (c30 : PySem.W.codeIn K cd30 "call_of" = true) (k30 : PySem.W.keepIn K (.ref f30) = true)
    (a31 : PySem.W.nsIn K mainGlobals "misfits" = some (some (.ref f31)))
    (l31 : K.lookup f31 = some ⟨oc31, od31, .func (PySem.W.fnOf "misfits" "misfits" (defArgs sMisfits) (defBody sMisfits) (defScope sMisfits) .none kV31 dc31 pm31 an31 cd31 ct31), sl31⟩) (c31 : PySem.W.codeIn K cd31 "misfits" = true) (k31 : PySem.W.keepIn K (.ref f31) = true)
    (a32 : PySem.W.nsIn K mainGlobals "fits" = some (some (.ref f32)))
    (l32 : K.lookup f32 = some ⟨oc32, od32, .func (PySem.W.fnOf "fits" "fits" (defArgs sFits) (defBody sFits) (defScope sFits) .none kV32 dc32 pm32 an32 cd32 ct32), sl32⟩) (c32 : PySem.W.codeIn K cd32 "fits" = true) (k32 : PySem.W.keepIn K (.ref f32) = true)
    (a33 : PySem.W.nsIn K mainGlobals "shape" = some (some (.ref f33)))
    (l33 : K.lookup f33 = some ⟨oc33, od33, .func (PySem.W.fnOf "shape" "shape" (defArgs sShape) (defBody sShape) (defScope sShape) .none kV33 dc33 pm33 an33 cd33 ct33), sl33⟩) (c33 : PySem.W.codeIn K cd33 "shape" = true) (k33 : PySem.W.keepIn K (.ref f33) = true)
    (a34 : PySem.W.nsIn K mainGlobals "first_numbers" = some (some (.ref f34)))
    (l34 : K.lookup f34 = some ⟨oc34, od34, .func (PySem.W.fnOf "first_numbers" "first_numbers" (defArgs sFirsts) (defBody sFirsts) (defScope sFirsts) .none kV34 dc34 pm34 an34 cd34 ct34), sl34⟩) (c34 : PySem.W.codeIn K cd34 "first_numbers" = true) (k34 : PySem.W.keepIn K (.ref f34) = true)
    (a35 : PySem.W.nsIn K mainGlobals "misfits_of" = some (some (.ref f35)))
    (l35 : K.lookup f35 = some ⟨oc35, od35, .func (PySem.W.fnOf "misfits_of" "misfits_of" (defArgs sMOf) (defBody sMOf) (defScope sMOf) .none kV35 dc35 pm35 an35 cd35 ct35), sl35⟩) (c35 : PySem.W.codeIn K cd35 "misfits_of" = true) (k35 : PySem.W.keepIn K (.ref f35) = true)
    (a36 : PySem.W.nsIn K mainGlobals "overs" = some (some (.ref f36)))
    (l36 : K.lookup f36 = some ⟨oc36, od36, .func (PySem.W.fnOf "overs" "overs" (defArgs sOvers) (defBody sOvers) (defScope sOvers) .none kV36 dc36 pm36 an36 cd36 ct36), sl36⟩) (c36 : PySem.W.codeIn K cd36 "overs" = true) (k36 : PySem.W.keepIn K (.ref f36) = true)
    (a37 : PySem.W.nsIn K mainGlobals "unwelcomes" = some (some (.ref f37)))
    (l37 : K.lookup f37 = some ⟨oc37, od37, .func (PySem.W.fnOf "unwelcomes" "unwelcomes" (defArgs sUnw) (defBody sUnw) (defScope sUnw) .none kV37 dc37 pm37 an37 cd37 ct37), sl37⟩) (c37 : PySem.W.codeIn K cd37 "unwelcomes" = true) (k37 : PySem.W.keepIn K (.ref f37) = true)
    (a38 : PySem.W.nsIn K mainGlobals "lackings" = some (some (.ref f38)))
    (l38 : K.lookup f38 = some ⟨oc38, od38, .func (PySem.W.fnOf "lackings" "lackings" (defArgs sLack) (defBody sLack) (defScope sLack) .none kV38 dc38 pm38 an38 cd38 ct38), sl38⟩) (c38 : PySem.W.codeIn K cd38 "lackings" = true) (k38 : PySem.W.keepIn K (.ref f38) = true)
    (a39 : PySem.W.nsIn K mainGlobals "one_entry" = some (some (.ref f39)))
    (l39 : K.lookup f39 = some ⟨oc39, od39, .func (PySem.W.fnOf "one_entry" "one_entry" (defArgs sOneE) (defBody sOneE) (defScope sOneE) .none kV39 dc39 pm39 an39 cd39 ct39), sl39⟩) (c39 : PySem.W.codeIn K cd39 "one_entry" = true) (k39 : PySem.W.keepIn K (.ref f39) = true)
    (a40 : PySem.W.nsIn K mainGlobals "first_both" = some (some (.ref f40)))
    (l40 : K.lookup f40 = some ⟨oc40, od40, .func (PySem.W.fnOf "first_both" "first_both" (defArgs sFBoth) (defBody sFBoth) (defScope sFBoth) .none kV40 dc40 pm40 an40 cd40 ct40), sl40⟩) (c40 : PySem.W.codeIn K cd40 "first_both" = true) (k40 : PySem.W.keepIn K (.ref f40) = true)
    (a41 : PySem.W.nsIn K mainGlobals "told_form" = some (some (.ref f41)))
    (l41 : K.lookup f41 = some ⟨oc41, od41, .func (PySem.W.fnOf "told_form" "told_form" (defArgs sToldF) (defBody sToldF) (defScope sToldF) .none kV41 dc41 pm41 an41 cd41 ct41), sl41⟩) (c41 : PySem.W.codeIn K cd41 "told_form" = true) (k41 : PySem.W.keepIn K (.ref f41) = true)
    (a42 : PySem.W.nsIn K mainGlobals "refuse_first_things" = some (some (.ref f42)))
    (l42 : K.lookup f42 = some ⟨oc42, od42, .func (PySem.W.fnOf "refuse_first_things" "refuse_first_things" (defArgs sRFirst) (defBody sRFirst) (defScope sRFirst) .none kV42 dc42 pm42 an42 cd42 ct42), sl42⟩) (c42 : PySem.W.codeIn K cd42 "refuse_first_things" = true) (k42 : PySem.W.keepIn K (.ref f42) = true)
    (a43 : PySem.W.nsIn K mainGlobals "left_behind" = some (some (.ref f43)))
    (l43 : K.lookup f43 = some ⟨oc43, od43, .func (PySem.W.fnOf "left_behind" "left_behind" (defArgs sLeftB) (defBody sLeftB) (defScope sLeftB) .none kV43 dc43 pm43 an43 cd43 ct43), sl43⟩) (c43 : PySem.W.codeIn K cd43 "left_behind" = true) (k43 : PySem.W.keepIn K (.ref f43) = true)
    (a44 : PySem.W.nsIn K mainGlobals "tail_left" = some (some (.ref f44)))
    (l44 : K.lookup f44 = some ⟨oc44, od44, .func (PySem.W.fnOf "tail_left" "tail_left" (defArgs sTailL) (defBody sTailL) (defScope sTailL) .none kV44 dc44 pm44 an44 cd44 ct44), sl44⟩) (c44 : PySem.W.codeIn K cd44 "tail_left" = true) (k44 : PySem.W.keepIn K (.ref f44) = true)
    (a45 : PySem.W.nsIn K mainGlobals "tags_left" = some (some (.ref f45)))
    (l45 : K.lookup f45 = some ⟨oc45, od45, .func (PySem.W.fnOf "tags_left" "tags_left" (defArgs sTagsL) (defBody sTagsL) (defScope sTagsL) .none kV45 dc45 pm45 an45 cd45 ct45), sl45⟩) (c45 : PySem.W.codeIn K cd45 "tags_left" = true) (k45 : PySem.W.keepIn K (.ref f45) = true)
    (a46 : PySem.W.nsIn K mainGlobals "bag_of" = some (some (.ref f46)))
    (l46 : K.lookup f46 = some ⟨oc46, od46, .func (PySem.W.fnOf "bag_of" "bag_of" (defArgs sBagOf) (defBody sBagOf) (defScope sBagOf) .none kV46 dc46 pm46 an46 cd46 ct46), sl46⟩) (c46 : PySem.W.codeIn K cd46 "bag_of" = true) (k46 : PySem.W.keepIn K (.ref f46) = true)
    (a47 : PySem.W.nsIn K mainGlobals "_law_nth" = some (some (.ref f47)))
    (l47 : K.lookup f47 = some ⟨oc47, od47, .func (PySem.W.fnOf "_law_nth" "_law_nth" (defArgs sNth) (defBody sNth) (defScope sNth) .none kV47 dc47 pm47 an47 cd47 ct47), sl47⟩) (c47 : PySem.W.codeIn K cd47 "_law_nth" = true) (k47 : PySem.W.keepIn K (.ref f47) = true)
    (a48 : PySem.W.nsIn K mainGlobals "_law_name" = some (some (.ref f48)))
    (l48 : K.lookup f48 = some ⟨oc48, od48, .func (PySem.W.fnOf "_law_name" "_law_name" (defArgs sName) (defBody sName) (defScope sName) .none kV48 dc48 pm48 an48 cd48 ct48), sl48⟩) (c48 : PySem.W.codeIn K cd48 "_law_name" = true) (k48 : PySem.W.keepIn K (.ref f48) = true)
    (a49 : PySem.W.nsIn K mainGlobals "_law_places" = some (some (.ref f49)))
    (l49 : K.lookup f49 = some ⟨oc49, od49, .func (PySem.W.fnOf "_law_places" "_law_places" (defArgs sPlaces) (defBody sPlaces) (defScope sPlaces) .none kV49 dc49 pm49 an49 cd49 ct49), sl49⟩) (c49 : PySem.W.codeIn K cd49 "_law_places" = true) (k49 : PySem.W.keepIn K (.ref f49) = true)
    (a50 : PySem.W.nsIn K mainGlobals "_law_ends" = some (some (.ref f50)))
    (l50 : K.lookup f50 = some ⟨oc50, od50, .func (PySem.W.fnOf "_law_ends" "_law_ends" (defArgs sEnds) (defBody sEnds) (defScope sEnds) .none kV50 dc50 pm50 an50 cd50 ct50), sl50⟩) (c50 : PySem.W.codeIn K cd50 "_law_ends" = true) (k50 : PySem.W.keepIn K (.ref f50) = true)
    (a51 : PySem.W.nsIn K mainGlobals "_law_call" = some (some (.ref f51)))
    (l51 : K.lookup f51 = some ⟨oc51, od51, .func (PySem.W.fnOf "_law_call" "_law_call" (defArgs sCall) (defBody sCall) (defScope sCall) .none kV51 dc51 pm51 an51 cd51 ct51), sl51⟩) (c51 : PySem.W.codeIn K cd51 "_law_call" = true) (k51 : PySem.W.keepIn K (.ref f51) = true)
    (a52 : PySem.W.nsIn K mainGlobals "_law_packed" = some (some (.ref f52)))
    (l52 : K.lookup f52 = some ⟨oc52, od52, .func (PySem.W.fnOf "_law_packed" "_law_packed" (defArgs sPacked) (defBody sPacked) (defScope sPacked) .none kV52 dc52 pm52 an52 cd52 ct52), sl52⟩) (c52 : PySem.W.codeIn K cd52 "_law_packed" = true) (k52 : PySem.W.keepIn K (.ref f52) = true)
    (a53 : PySem.W.nsIn K mainGlobals "_law_fits_whole" = some (some (.ref f53)))
    (l53 : K.lookup f53 = some ⟨oc53, od53, .func (PySem.W.fnOf "_law_fits_whole" "_law_fits_whole" (defArgs sFitsW) (defBody sFitsW) (defScope sFitsW) .none kV53 dc53 pm53 an53 cd53 ct53), sl53⟩) (c53 : PySem.W.codeIn K cd53 "_law_fits_whole" = true) (k53 : PySem.W.keepIn K (.ref f53) = true)
    (a54 : PySem.W.nsIn K mainGlobals "law" = some (some (.ref f54)))
    (l54 : K.lookup f54 = some ⟨oc54, od54, .func (PySem.W.fnOf "law" "law" (defArgs sLaw) (defBody sLaw) (defScope sLaw) .none kV54 dc54 pm54 an54 cd54 ct54), sl54⟩) (c54 : PySem.W.codeIn K cd54 "law" = true) (k54 : PySem.W.keepIn K (.ref f54) = true)
    (zisinstance : PySem.W.nsIn K mainGlobals "isinstance" = some none)
    (zstr : PySem.W.nsIn K mainGlobals "str" = some none)
    (zbool : PySem.W.nsIn K mainGlobals "bool" = some none)
    (zlen : PySem.W.nsIn K mainGlobals "len" = some none)
    (zall : PySem.W.nsIn K mainGlobals "all" = some none)
    (zrange : PySem.W.nsIn K mainGlobals "range" = some none)
    (zlist : PySem.W.nsIn K mainGlobals "list" = some none)
    (zenumerate : PySem.W.nsIn K mainGlobals "enumerate" = some none)
    (zset : PySem.W.nsIn K mainGlobals "set" = some none)
    (zany : PySem.W.nsIn K mainGlobals "any" = some none)
    (gL : PySem.W.nsIn K mainGlobals "LETTERS" = some (some (.str letters tL)))
    (gN : PySem.W.nsIn K mainGlobals "LONGEST" = some (some (.int 8 tN)))
    (gMP : PySem.W.nsIn K mainGlobals "MOST_PARAMETERS" = some (some (.int 24 tMP)))
    (gMB : PySem.W.nsIn K mainGlobals "MOST_BARS" = some (some (.int 60 tMB)))
    (yN : PySem.W.nsIn K mainGlobals "NoName" = some (some (.ref N)))
    (ytP : PySem.W.nsIn K mainGlobals "BY_PLACE" = some (some (.ref tP)))
    (utP : K.lookup tP = some ⟨.type "tuple", odtP, .seq #[.str "seat" ktP0, .str "both" ktP1] ntP, sltP⟩)
    (ytB : PySem.W.nsIn K mainGlobals "BY_NAME" = some (some (.ref tB)))
    (utB : K.lookup tB = some ⟨.type "tuple", odtB, .seq #[.str "both" ktB0, .str "tag" ktB1] ntB, sltB⟩)
    (ytO : PySem.W.nsIn K mainGlobals "OF_ONE_THING" = some (some (.ref tO)))
    (utO : K.lookup tO = some ⟨.type "tuple", odtO, .seq #[.str "seat" ktO0, .str "both" ktO1, .str "tag" ktO2] ntO, sltO⟩)
    (ysg : PySem.W.nsIn K mainGlobals "SINGLE_GROUPS" = some (some (.ref sg)))
    (usg : K.lookup sg = some ⟨.type "tuple", odsg, .seq #[.int 1 ksg0, .int 3 ksg1] nsg, slsg⟩)
    (yGr : PySem.W.nsIn K mainGlobals "GROUPS" = some (some (.ref Gr)))
    (lGr : K.lookup Gr = some ⟨.type "dict", none, .dict esG nG, #[]⟩)
    (kGr : PySem.W.KeysLit w.params esG.toList)
    (eG0 : PySem.W.nsIn K Gr "seat" = some (some (.int 0 kG0)))
    (eG1 : PySem.W.nsIn K Gr "both" = some (some (.int 0 kG1)))
    (eG2 : PySem.W.nsIn K Gr "tail" = some (some (.int 1 kG2)))
    (eG3 : PySem.W.nsIn K Gr "tag" = some (some (.int 2 kG3)))
    (eG4 : PySem.W.nsIn K Gr "bag" = some (some (.int 3 kG4)))
    (xo : PySem.W.excIn K N [.type "ValueError", .type "Exception", .type "BaseException", .type "object"] "ValueError.__new__" = true)
    (dga : PySem.W.specialIn K (.ref D) "__getattribute__" = some (some (.builtin "type.__getattribute__")))
    (drd : PySem.W.readsIn K D (.type "type") = true)
    (dfc : PySem.W.findCls K (.ref D) (.type "type") "__init__" = some (.val (.ref f2)))
    (h0_3 : PySem.W.findIn K (.ref C0) "free" = some (some (.ref f3)))
    (h0_4 : PySem.W.findIn K (.ref C0) "by_place" = some (some (.ref f4)))
    (h0_5 : PySem.W.findIn K (.ref C0) "by_name" = some (some (.ref f5)))
    (h0_6 : PySem.W.findIn K (.ref C0) "takes_one" = some (some (.ref f6)))
    (h0_7 : PySem.W.findIn K (.ref C0) "told" = some (some (.ref f7)))
    (h1_3 : PySem.W.findIn K (.ref C1) "free" = some (some (.ref f3)))
    (h1_4 : PySem.W.findIn K (.ref C1) "by_place" = some (some (.ref f4)))
    (h1_5 : PySem.W.findIn K (.ref C1) "by_name" = some (some (.ref f5)))
    (h1_6 : PySem.W.findIn K (.ref C1) "takes_one" = some (some (.ref f6)))
    (h1_7 : PySem.W.findIn K (.ref C1) "told" = some (some (.ref f7)))
    (h2_3 : PySem.W.findIn K (.ref C2) "free" = some (some (.ref f3)))
    (h2_4 : PySem.W.findIn K (.ref C2) "by_place" = some (some (.ref f4)))
    (h2_5 : PySem.W.findIn K (.ref C2) "by_name" = some (some (.ref f5)))
    (h2_6 : PySem.W.findIn K (.ref C2) "takes_one" = some (some (.ref f6)))
    (h2_7 : PySem.W.findIn K (.ref C2) "told" = some (some (.ref f7)))
    (h3_3 : PySem.W.findIn K (.ref C3) "free" = some (some (.ref f3)))
    (h3_4 : PySem.W.findIn K (.ref C3) "by_place" = some (some (.ref f4)))
    (h3_5 : PySem.W.findIn K (.ref C3) "by_name" = some (some (.ref f5)))
    (h3_6 : PySem.W.findIn K (.ref C3) "takes_one" = some (some (.ref f6)))
    (h3_7 : PySem.W.findIn K (.ref C3) "told" = some (some (.ref f7)))
    (h4_3 : PySem.W.findIn K (.ref C4) "free" = some (some (.ref f3)))
    (h4_4 : PySem.W.findIn K (.ref C4) "by_place" = some (some (.ref f4)))
    (h4_5 : PySem.W.findIn K (.ref C4) "by_name" = some (some (.ref f5)))
    (h4_6 : PySem.W.findIn K (.ref C4) "takes_one" = some (some (.ref f6)))
    (h4_7 : PySem.W.findIn K (.ref C4) "told" = some (some (.ref f7)))
    : ∃ fd : FuncData, (∀ (s : Shared) (v : Value), BindsTo s fd ⟨[v], []⟩ [("_law_script", v)]) ∧ ∀ base : Heap, K.In base → base.Ns mainGlobals mg → FnOk l.prog w K mg base CX0 9 fa fd ["_law_script"] (spLaw K) := by
  have e := hfa.symm.trans (PySem.W.mg_of X G a54)
  cases e
  have F1 := fun_mk (st := sIs) l1 c1 k1
  have b1 := F1.binds (ps := ["thing"]) fun _ _ _ _ _ _ us hl => match us, hl with | [_], _ => rfl
  have F2 := fun_mk (st := sPInit) l2 c2 k2
  have b2 := F2.binds (ps := ["self", "word", "name", "may_lack"]) fun _ _ _ _ _ _ us hl => match us, hl with | [_, _, _, _], _ => rfl
  have F3 := fun_mk (st := sFree) l3 c3 k3
  have b3 := F3.binds (ps := ["self"]) fun _ _ _ _ _ _ us hl => match us, hl with | [_], _ => rfl
  have F4 := fun_mk (st := sByPlace) l4 c4 k4
  have b4 := F4.binds (ps := ["self"]) fun _ _ _ _ _ _ us hl => match us, hl with | [_], _ => rfl
  have F5 := fun_mk (st := sByName) l5 c5 k5
  have b5 := F5.binds (ps := ["self"]) fun _ _ _ _ _ _ us hl => match us, hl with | [_], _ => rfl
  have F6 := fun_mk (st := sTakes) l6 c6 k6
  have b6 := F6.binds (ps := ["self"]) fun _ _ _ _ _ _ us hl => match us, hl with | [_], _ => rfl
  have F7 := fun_mk (st := sTold) l7 c7 k7
  have b7 := F7.binds (ps := ["self"]) fun _ _ _ _ _ _ us hl => match us, hl with | [_], _ => rfl
  have F8 := funD_mk (st := sSeat) (items := [Value.bool false]) l8 c8 k8 t8 rfl
  have F9 := funD_mk (st := sBoth) (items := [Value.bool false]) l9 c9 k9 t9 rfl
  have F10 := fun_mk (st := sTail) l10 c10 k10
  have b10 := F10.binds (ps := ["self", "name"]) fun _ _ _ _ _ _ us hl => match us, hl with | [_, _], _ => rfl
  have F11 := funD_mk (st := sTag) (items := [Value.bool false]) l11 c11 k11 t11 rfl
  have F12 := fun_mk (st := sBag) l12 c12 k12
  have b12 := F12.binds (ps := ["self", "name"]) fun _ _ _ _ _ _ us hl => match us, hl with | [_, _], _ => rfl
  have F13 := funD_mk (st := sFInit) (items := [Value.none]) l13 c13 k13 t13 rfl
  have F14 := fun_mk (st := sKeep) l14 c14 k14
  have b14 := F14.binds (ps := ["self", "parameters", "bars"]) fun _ _ _ _ _ _ us hl => match us, hl with | [_, _, _], _ => rfl
  have F15 := fun_mk (st := sFPars) l15 c15 k15
  have b15 := F15.binds (ps := ["self"]) fun _ _ _ _ _ _ us hl => match us, hl with | [_], _ => rfl
  have F16 := fun_mk (st := sFBars) l16 c16 k16
  have b16 := F16.binds (ps := ["self"]) fun _ _ _ _ _ _ us hl => match us, hl with | [_], _ => rfl
  have F17 := fun_mk (st := sFPlaces) l17 c17 k17
  have b17 := F17.binds (ps := ["self"]) fun _ _ _ _ _ _ us hl => match us, hl with | [_], _ => rfl
  have F18 := fun_mk (st := sFTail) l18 c18 k18
  have b18 := F18.binds (ps := ["self"]) fun _ _ _ _ _ _ us hl => match us, hl with | [_], _ => rfl
  have F19 := fun_mk (st := sFBag) l19 c19 k19
  have b19 := F19.binds (ps := ["self"]) fun _ _ _ _ _ _ us hl => match us, hl with | [_], _ => rfl
  have F20 := fun_mk (st := sFNum) l20 c20 k20
  have b20 := F20.binds (ps := ["self", "name"]) fun _ _ _ _ _ _ us hl => match us, hl with | [_, _], _ => rfl
  have F21 := fun_mk (st := sPtInit) l21 c21 k21
  have b21 := F21.binds (ps := ["self", "form", "call"]) fun _ _ _ _ _ _ us hl => match us, hl with | [_, _, _], _ => rfl
  have F22 := fun_mk (st := sPtWhole) l22 c22 k22
  have b22 := F22.binds (ps := ["self", "call"]) fun _ _ _ _ _ _ us hl => match us, hl with | [_, _], _ => rfl
  have F23 := fun_mk (st := sPtLeft) l23 c23 k23
  have b23 := F23.binds (ps := ["self"]) fun _ _ _ _ _ _ us hl => match us, hl with | [_], _ => rfl
  have F24 := fun_mk (st := sRMany) l24 c24 k24
  have b24 := F24.binds (ps := ["parameters", "bars"]) fun _ _ _ _ _ _ us hl => match us, hl with | [_, _], _ => rfl
  have F25 := fun_mk (st := sROrder) l25 c25 k25
  have b25 := F25.binds (ps := ["parameters"]) fun _ _ _ _ _ _ us hl => match us, hl with | [_], _ => rfl
  have F26 := fun_mk (st := sRBars) l26 c26 k26
  have b26 := F26.binds (ps := ["bars"]) fun _ _ _ _ _ _ us hl => match us, hl with | [_], _ => rfl
  have F27 := fun_mk (st := sRTwice) l27 c27 k27
  have b27 := F27.binds (ps := ["parameters", "bars"]) fun _ _ _ _ _ _ us hl => match us, hl with | [_, _], _ => rfl
  have F28 := fun_mk (st := sNumW) l28 c28 k28
  have b28 := F28.binds (ps := ["parameters", "word"]) fun _ _ _ _ _ _ us hl => match us, hl with | [_, _], _ => rfl
  have F29 := fun_mk (st := sLaid) l29 c29 k29
  have b29 := F29.binds (ps := ["call"]) fun _ _ _ _ _ _ us hl => match us, hl with | [_], _ => rfl
  have F30 := fun_mk (st := sOf) l30 c30 k30
  have b30 := F30.binds (ps := ["things", "pairs"]) fun _ _ _ _ _ _ us hl => match us, hl with | [_, _], _ => rfl
  have F31 := fun_mk (st := sMisfits) l31 c31 k31
  have b31 := F31.binds (ps := ["form", "call"]) fun _ _ _ _ _ _ us hl => match us, hl with | [_, _], _ => rfl
  have F32 := fun_mk (st := sFits) l32 c32 k32
  have b32 := F32.binds (ps := ["form", "call"]) fun _ _ _ _ _ _ us hl => match us, hl with | [_, _], _ => rfl
  have F33 := fun_mk (st := sShape) l33 c33 k33
  have b33 := F33.binds (ps := ["call"]) fun _ _ _ _ _ _ us hl => match us, hl with | [_], _ => rfl
  have F34 := fun_mk (st := sFirsts) l34 c34 k34
  have b34 := F34.binds (ps := ["names"]) fun _ _ _ _ _ _ us hl => match us, hl with | [_], _ => rfl
  have F35 := fun_mk (st := sMOf) l35 c35 k35
  have b35 := F35.binds (ps := ["form", "many", "names"]) fun _ _ _ _ _ _ us hl => match us, hl with | [_, _, _], _ => rfl
  have F36 := fun_mk (st := sOvers) l36 c36 k36
  have b36 := F36.binds (ps := ["form", "many"]) fun _ _ _ _ _ _ us hl => match us, hl with | [_, _], _ => rfl
  have F37 := fun_mk (st := sUnw) l37 c37 k37
  have b37 := F37.binds (ps := ["form", "many", "firsts"]) fun _ _ _ _ _ _ us hl => match us, hl with | [_, _, _], _ => rfl
  have F38 := fun_mk (st := sLack) l38 c38 k38
  have b38 := F38.binds (ps := ["form", "many", "firsts"]) fun _ _ _ _ _ _ us hl => match us, hl with | [_, _, _], _ => rfl
  have F39 := fun_mk (st := sOneE) l39 c39 k39
  have b39 := F39.binds (ps := ["parameter", "number", "many", "firsts"]) fun _ _ _ _ _ _ us hl => match us, hl with | [_, _, _, _], _ => rfl
  have F40 := fun_mk (st := sFBoth) l40 c40 k40
  have b40 := F40.binds (ps := ["form", "names"]) fun _ _ _ _ _ _ us hl => match us, hl with | [_, _], _ => rfl
  have F41 := fun_mk (st := sToldF) l41 c41 k41
  have b41 := F41.binds (ps := ["parameters", "bars"]) fun _ _ _ _ _ _ us hl => match us, hl with | [_, _], _ => rfl
  have F42 := fun_mk (st := sRFirst) l42 c42 k42
  have b42 := F42.binds (ps := ["form", "call"]) fun _ _ _ _ _ _ us hl => match us, hl with | [_, _], _ => rfl
  have F43 := fun_mk (st := sLeftB) l43 c43 k43
  have b43 := F43.binds (ps := ["form", "many", "names"]) fun _ _ _ _ _ _ us hl => match us, hl with | [_, _, _], _ => rfl
  have F44 := fun_mk (st := sTailL) l44 c44 k44
  have b44 := F44.binds (ps := ["form", "stop"]) fun _ _ _ _ _ _ us hl => match us, hl with | [_, _], _ => rfl
  have F45 := fun_mk (st := sTagsL) l45 c45 k45
  have b45 := F45.binds (ps := ["form", "beyond", "names"]) fun _ _ _ _ _ _ us hl => match us, hl with | [_, _, _], _ => rfl
  have F46 := fun_mk (st := sBagOf) l46 c46 k46
  have b46 := F46.binds (ps := ["form"]) fun _ _ _ _ _ _ us hl => match us, hl with | [_], _ => rfl
  have F47 := fun_mk (st := sNth) l47 c47 k47
  have b47 := F47.binds (ps := ["_law_script", "_law_k"]) fun _ _ _ _ _ _ us hl => match us, hl with | [_, _], _ => rfl
  have F48 := fun_mk (st := sName) l48 c48 k48
  have b48 := F48.binds (ps := ["_law_k"]) fun _ _ _ _ _ _ us hl => match us, hl with | [_], _ => rfl
  have F49 := fun_mk (st := sPlaces) l49 c49 k49
  have b49 := F49.binds (ps := ["_law_number", "_law_begin", "_law_many", "_law_no_seats"]) fun _ _ _ _ _ _ us hl => match us, hl with | [_, _, _, _], _ => rfl
  have F50 := fun_mk (st := sEnds) l50 c50 k50
  have b50 := F50.binds (ps := ["_law_number"]) fun _ _ _ _ _ _ us hl => match us, hl with | [_], _ => rfl
  have F51 := fun_mk (st := sCall) l51 c51 k51
  have b51 := F51.binds (ps := ["_law_more", "_law_names"]) fun _ _ _ _ _ _ us hl => match us, hl with | [_, _], _ => rfl
  have F52 := fun_mk (st := sPacked) l52 c52 k52
  have b52 := F52.binds (ps := ["_law_call_here"]) fun _ _ _ _ _ _ us hl => match us, hl with | [_], _ => rfl
  have F53 := fun_mk (st := sFitsW) l53 c53 k53
  have b53 := F53.binds (ps := ["_law_form", "_law_part", "_law_call_here"]) fun _ _ _ _ _ _ us hl => match us, hl with | [_, _, _], _ => rfl
  have F54 := fun_mk (st := sLaw) l54 c54 k54
  have no : ∀ {x : Str}, PySem.W.nsIn K mainGlobals x = some none → mg x = none := fun z => PySem.W.mg_none_of X G z
  have T : Txt1 K mg := ⟨no zisinstance, no zstr, no zbool, no zlen, no zall, no zrange, ⟨tL, PySem.W.mg_of X G gL⟩, ⟨tN, PySem.W.mg_of X G gN⟩, kt_NoneType_str K, kt_int_str K, kt_bool_str K, kt_list_str K, kt_tuple_str K, kt_dict_str K, kt_str_str K, kt_bool_bool K⟩
  have Wd : Wds K mg tP tB tO := ⟨PySem.W.mg_of X G ytP, PySem.W.mg_of X G ytB, PySem.W.mg_of X G ytO, fun H => .inr ⟨_, _, _, utP, rfl, rfl, (by show 2 ≤ sizeLine; decide), .cons ⟨_, rfl⟩ (.cons ⟨_, rfl⟩ (.nil))⟩, fun H => .inr ⟨_, _, _, utB, rfl, rfl, (by show 2 ≤ sizeLine; decide), .cons ⟨_, rfl⟩ (.cons ⟨_, rfl⟩ (.nil))⟩, fun H => .inr ⟨_, _, _, utO, rfl, rfl, (by show 3 ≤ sizeLine; decide), .cons ⟨_, rfl⟩ (.cons ⟨_, rfl⟩ (.cons ⟨_, rfl⟩ (.nil)))⟩⟩
  have TF : TxtF w K mg Gr sg := ⟨no zlen, no zenumerate, no zlist, no zset, ⟨tMP, PySem.W.mg_of X G gMP⟩, ⟨tMB, PySem.W.mg_of X G gMB⟩, PySem.W.mg_of X G yGr, ktab_of lGr kGr eG0 eG1 eG2 eG3 eG4, PySem.W.mg_of X G ysg, fun H => .inr ⟨_, _, _, usg, rfl, rfl, (by show 2 ≤ sizeLine; decide), .cons ⟨_, rfl⟩ (.cons ⟨_, rfl⟩ .nil)⟩⟩
  have pc0 : PC K ⟨f3, f4, f5, f6, f7⟩ C0 := ⟨⟨pgC0, hdC0, poC0, saC0⟩, nC0_word, nC0_name, nC0_may_lack, ⟨h0_3, i3, k3⟩, ⟨h0_4, i4, k4⟩, ⟨h0_5, i5, k5⟩, ⟨h0_6, i6, k6⟩, ⟨h0_7, i7, k7⟩⟩
  have pc1 : PC K ⟨f3, f4, f5, f6, f7⟩ C1 := ⟨⟨pgC1, hdC1, poC1, saC1⟩, nC1_word, nC1_name, nC1_may_lack, ⟨h1_3, i3, k3⟩, ⟨h1_4, i4, k4⟩, ⟨h1_5, i5, k5⟩, ⟨h1_6, i6, k6⟩, ⟨h1_7, i7, k7⟩⟩
  have pc2 : PC K ⟨f3, f4, f5, f6, f7⟩ C2 := ⟨⟨pgC2, hdC2, poC2, saC2⟩, nC2_word, nC2_name, nC2_may_lack, ⟨h2_3, i3, k3⟩, ⟨h2_4, i4, k4⟩, ⟨h2_5, i5, k5⟩, ⟨h2_6, i6, k6⟩, ⟨h2_7, i7, k7⟩⟩
  have pc3 : PC K ⟨f3, f4, f5, f6, f7⟩ C3 := ⟨⟨pgC3, hdC3, poC3, saC3⟩, nC3_word, nC3_name, nC3_may_lack, ⟨h3_3, i3, k3⟩, ⟨h3_4, i4, k4⟩, ⟨h3_5, i5, k5⟩, ⟨h3_6, i6, k6⟩, ⟨h3_7, i7, k7⟩⟩
  have pc4 : PC K ⟨f3, f4, f5, f6, f7⟩ C4 := ⟨⟨pgC4, hdC4, poC4, saC4⟩, nC4_word, nC4_name, nC4_may_lack, ⟨h4_3, i3, k3⟩, ⟨h4_4, i4, k4⟩, ⟨h4_5, i5, k5⟩, ⟨h4_6, i6, k6⟩, ⟨h4_7, i7, k7⟩⟩
  have PP : Pcs K ⟨f3, f4, f5, f6, f7⟩ ⟨C0, C1, C2, C3, C4⟩ := fun k hk => by
    rcases lt5 hk with rfl | rfl | rfl | rfl | rfl
    · exact pc0
    · exact pc1
    · exact pc2
    · exact pc3
    · exact pc4
  have FK : FC K FM := ⟨⟨pgFM, hdFM, poFM, saFM⟩, nFM_row, nFM_bar_names, nFM_place_count, nFM_tail_number, nFM_bag_number, nFM_doors⟩
  have PTc : PtC K PT := ⟨⟨pgPT, hdPT, poPT, saPT⟩, nPT_kept_form, nPT_things, nPT_pairs⟩
  have b8_0 : Binds K _ ["self", "name", "free"] [] := fun s us KX hl => match us, hl with | [u, v, x], _ => F8.bindsTo (fun _ _ _ _ _ _ _ => ⟨_, rfl, rfl⟩) KX
  have b8_1 : Binds K _ ["self", "name", "free"] [.bool false] := fun s us KX hl => match us, (show us.length = 2 by simpa using hl) with | [u, v], _ => F8.bindsTo (fun _ _ _ _ _ _ _ => ⟨_, rfl, rfl⟩) KX
  have b8_2 : KBinds K _ ["self", "name", "free"] ["free"] g21 g21 := ⟨fun s us ws KX hl => match us, ws, hl with | [u, v], [x], _ => F8.bindsTo (fun _ _ _ _ _ _ _ => ⟨_, rfl, rfl⟩) KX, fun r z => g21_rel r z⟩
  have b9_0 : Binds K _ ["self", "name", "free"] [] := fun s us KX hl => match us, hl with | [u, v, x], _ => F9.bindsTo (fun _ _ _ _ _ _ _ => ⟨_, rfl, rfl⟩) KX
  have b9_1 : Binds K _ ["self", "name", "free"] [.bool false] := fun s us KX hl => match us, (show us.length = 2 by simpa using hl) with | [u, v], _ => F9.bindsTo (fun _ _ _ _ _ _ _ => ⟨_, rfl, rfl⟩) KX
  have b9_2 : KBinds K _ ["self", "name", "free"] ["free"] g21 g21 := ⟨fun s us ws KX hl => match us, ws, hl with | [u, v], [x], _ => F9.bindsTo (fun _ _ _ _ _ _ _ => ⟨_, rfl, rfl⟩) KX, fun r z => g21_rel r z⟩
  have b11_0 : Binds K _ ["self", "name", "free"] [] := fun s us KX hl => match us, hl with | [u, v, x], _ => F11.bindsTo (fun _ _ _ _ _ _ _ => ⟨_, rfl, rfl⟩) KX
  have b11_1 : Binds K _ ["self", "name", "free"] [.bool false] := fun s us KX hl => match us, (show us.length = 2 by simpa using hl) with | [u, v], _ => F11.bindsTo (fun _ _ _ _ _ _ _ => ⟨_, rfl, rfl⟩) KX
  have b11_2 : KBinds K _ ["self", "name", "free"] ["free"] g21 g21 := ⟨fun s us ws KX hl => match us, ws, hl with | [u, v], [x], _ => F11.bindsTo (fun _ _ _ _ _ _ _ => ⟨_, rfl, rfl⟩) KX, fun r z => g21_rel r z⟩
  have b13_0 : Binds K _ ["self", "parameters", "bars"] [] := fun s us KX hl => match us, hl with | [u, v, x], _ => F13.bindsTo (fun _ _ _ _ _ _ _ => ⟨_, rfl, rfl⟩) KX
  have b13_1 : Binds K _ ["self", "parameters", "bars"] [.none] := fun s us KX hl => match us, (show us.length = 2 by simpa using hl) with | [u, v], _ => F13.bindsTo (fun _ _ _ _ _ _ _ => ⟨_, rfl, rfl⟩) KX
  have b13_2 : KBinds K _ ["self", "parameters", "bars"] ["bars"] g21 g21 := ⟨fun s us ws KX hl => match us, ws, hl with | [u, v], [x], _ => F13.bindsTo (fun _ _ _ _ _ _ _ => ⟨_, rfl, rfl⟩) KX, fun r z => g21_rel r z⟩
  refine ⟨PySem.W.fnOf "law" "law" (defArgs sLaw) (defBody sLaw) (defScope sLaw) .none kV54 dc54 pm54 an54 cd54 ct54, fun s v => .of_eq rfl, fun base KB GB => ?_⟩
  have cI : Callee l.prog w K mg base 1 "is_name" f1 _ ["thing"] (spIs K) := ⟨ok_is F1 T , PySem.W.mg_of X G a1, k1, b1⟩
  have GP : FnOk l.prog w K mg base (CXe l.prog w) 2 f2 _ ["self", "word", "name", "may_lack"] (spP K ⟨f3, f4, f5, f6, f7⟩ N) := ok_pinit F2 (own_in KB GB yN xo) cI
  have CB : ClsFn K D "__init__" f2 := ⟨dga, drd, dfc, k2⟩
  have mD := PySem.W.mg_of X G aD
  have UC : Ctors l.prog w K mg base ⟨C0, C1, C2, C3, C4⟩ N f8 f9 f10 f11 f12 _ _ _ _ _ := ⟨⟨⟨mkC0, a8, i8, kcC0⟩, ok_seat F8 pc0 CB mD GP b2, PySem.W.mg_of X G aC0, b8_0⟩, ⟨⟨mkC0, a8, i8, kcC0⟩, ok_seat F8 pc0 CB mD GP b2, PySem.W.mg_of X G aC0, b8_1⟩, b8_2, ⟨⟨mkC1, a9, i9, kcC1⟩, ok_both F9 pc1 CB mD GP b2, PySem.W.mg_of X G aC1, b9_0⟩, ⟨⟨mkC1, a9, i9, kcC1⟩, ok_both F9 pc1 CB mD GP b2, PySem.W.mg_of X G aC1, b9_1⟩, b9_2, ⟨⟨mkC2, a10, i10, kcC2⟩, ok_tail F10 pc2 CB mD GP b2, PySem.W.mg_of X G aC2, b10⟩, ⟨⟨mkC3, a11, i11, kcC3⟩, ok_tag F11 pc3 CB mD GP b2, PySem.W.mg_of X G aC3, b11_0⟩, ⟨⟨mkC3, a11, i11, kcC3⟩, ok_tag F11 pc3 CB mD GP b2, PySem.W.mg_of X G aC3, b11_1⟩, b11_2, ⟨⟨mkC4, a12, i12, kcC4⟩, ok_bag F12 pc4 CB mD GP b2, PySem.W.mg_of X G aC4, b12⟩⟩
  have GF : FnOk l.prog w K mg base CX0 1 f3 _ ["self"] (spFree K ⟨f3, f4, f5, f6, f7⟩) := ok_free F3
  have GQ : FnOk l.prog w K mg base CX0 1 f4 _ ["self"] (spIn K ⟨f3, f4, f5, f6, f7⟩ bpL) := ok_by_place F4 Wd
  have GN : FnOk l.prog w K mg base CX0 1 f5 _ ["self"] (spIn K ⟨f3, f4, f5, f6, f7⟩ bnL) := ok_by_name F5 Wd
  have cM1 : Callee l.prog w K mg base 1 "refuse_too_many" f24 _ ["parameters", "bars"] (spMany K) := ⟨ok_many F24 TF , PySem.W.mg_of X G a24, k24, b24⟩
  have cM2 : Callee l.prog w K mg base 1 "refuse_bad_order" f25 _ ["parameters"] (spOrd ⟨C0, C1, C2, C3, C4⟩) := ⟨ok_order F25 TF PP , PySem.W.mg_of X G a25, k25, b25⟩
  have cM3 : Callee l.prog w K mg base 2 "refuse_bars_without_name" f26 _ ["bars"] spRB := ⟨ok_rbars F26 cI , PySem.W.mg_of X G a26, k26, b26⟩
  have cM4 : Callee l.prog w K mg base 2 "refuse_twice" f27 _ ["parameters", "bars"] (spTw ⟨C0, C1, C2, C3, C4⟩) := ⟨ok_twice F27 TF PP GN b5 , PySem.W.mg_of X G a27, k27, b27⟩
  have cW : Callee l.prog w K mg base 1 "number_of_word" f28 _ ["parameters", "word"] (spNW ⟨C0, C1, C2, C3, C4⟩) := ⟨ok_numw F28 TF PP , PySem.W.mg_of X G a28, k28, b28⟩
  have GK : FnOk l.prog w K mg base CX0 2 f14 _ ["self", "parameters", "bars"] (spKeep ⟨C0, C1, C2, C3, C4⟩ FM) := ok_keep F14 TF PP FK cW GQ b4 GN b5
  have GI : FnOk l.prog w K mg base CX0 3 f13 _ ["self", "parameters", "bars"] (spFI ⟨C0, C1, C2, C3, C4⟩ FM) := ok_finit F13 FK ⟨a14, i14, k14⟩ cM1 cM2 cM3 cM4 GK b14
  have kF0 : Ctor l.prog w K mg base CX0 3 "Form" FM f13 _ ["self", "parameters", "bars"] [] (spFI ⟨C0, C1, C2, C3, C4⟩ FM) := ⟨⟨mkFM, a13, i13, kcFM⟩, GI, PySem.W.mg_of X G aFM, b13_0⟩
  have kF1 : Ctor l.prog w K mg base CX0 3 "Form" FM f13 _ ["self", "parameters", "bars"] [.none] (spFI ⟨C0, C1, C2, C3, C4⟩ FM) := ⟨⟨mkFM, a13, i13, kcFM⟩, GI, PySem.W.mg_of X G aFM, b13_1⟩
  have mpa : Meth K FM "parameters" f15 := ⟨a15, i15, k15⟩
  have Gpa : FnOk l.prog w K mg base CX0 1 f15 _ ["self"] (spPars ⟨C0, C1, C2, C3, C4⟩ FM) := ok_fpars F15 TF FK
  have mba : Meth K FM "bars" f16 := ⟨a16, i16, k16⟩
  have Gba : FnOk l.prog w K mg base CX0 1 f16 _ ["self"] (spBars ⟨C0, C1, C2, C3, C4⟩ FM) := ok_fbars F16 TF FK
  have mpl : Meth K FM "places" f17 := ⟨a17, i17, k17⟩
  have Gpl : FnOk l.prog w K mg base CX0 1 f17 _ ["self"] (spPlaces ⟨C0, C1, C2, C3, C4⟩ FM) := ok_fplaces F17 FK
  have mta : Meth K FM "tail" f18 := ⟨a18, i18, k18⟩
  have Gta : FnOk l.prog w K mg base CX0 1 f18 _ ["self"] (spWord ⟨C0, C1, C2, C3, C4⟩ FM 2) := ok_ftail F18 FK
  have mbg : Meth K FM "bag" f19 := ⟨a19, i19, k19⟩
  have Gbg : FnOk l.prog w K mg base CX0 1 f19 _ ["self"] (spWord ⟨C0, C1, C2, C3, C4⟩ FM 4) := ok_fbag F19 FK
  have mnu : Meth K FM "number_of" f20 := ⟨a20, i20, k20⟩
  have Gnu : FnOk l.prog w K mg base CX0 1 f20 _ ["self", "name"] (spNum ⟨C0, C1, C2, C3, C4⟩ FM) := ok_fnum F20 FK
  have cL : Callee l.prog w K mg base 1 "laid" f29 _ ["call"] (spLaid K) := ⟨ok_laid F29 , PySem.W.mg_of X G a29, k29, b29⟩
  have cO : Callee l.prog w K mg base 1 "call_of" f30 _ ["things", "pairs"] (spOf K) := ⟨ok_of F30 , PySem.W.mg_of X G a30, k30, b30⟩
  have cSh : Callee l.prog w K mg base 2 "shape" f33 _ ["call"] (spShape K) := ⟨ok_shape F33 (no zlen) cL , PySem.W.mg_of X G a33, k33, b33⟩
  have cFn : Callee l.prog w K mg base 1 "first_numbers" f34 _ ["names"] spFirsts := ⟨ok_firsts F34 (no zenumerate) , PySem.W.mg_of X G a34, k34, b34⟩
  have cOv : Callee l.prog w K mg base 2 "overs" f36 _ ["form", "many"] (spOvers ⟨C0, C1, C2, C3, C4⟩ FM) := ⟨ok_overs F36 (no zrange) FK mta Gta b18 mpl Gpl b17 , PySem.W.mg_of X G a36, k36, b36⟩
  have cUn : Callee l.prog w K mg base 2 "unwelcomes" f37 _ ["form", "many", "firsts"] (spUnw ⟨C0, C1, C2, C3, C4⟩ FM) := ⟨ok_unw F37 (no zset) FK mba Gba b16 mnu Gnu b20 mbg Gbg b19 mpl Gpl b17 , PySem.W.mg_of X G a37, k37, b37⟩
  have cEn : Callee l.prog w K mg base 2 "one_entry" f39 _ ["parameter", "number", "many", "firsts"] (spOneE ⟨C0, C1, C2, C3, C4⟩) := ⟨ok_oneE F39 PP GQ b4 GN b5 , PySem.W.mg_of X G a39, k39, b39⟩
  have cLa : Callee l.prog w K mg base 3 "lackings" f38 _ ["form", "many", "firsts"] (spLacks ⟨C0, C1, C2, C3, C4⟩ FM) := ⟨ok_lacks F38 (no zenumerate) PP FK mpa Gpa b15 GF b3 cEn , PySem.W.mg_of X G a38, k38, b38⟩
  have cMo : Callee l.prog w K mg base 4 "misfits_of" f35 _ ["form", "many", "names"] (spMOf ⟨C0, C1, C2, C3, C4⟩ FM) := ⟨ok_mof F35 (no zenumerate) cFn cOv cUn cLa , PySem.W.mg_of X G a35, k35, b35⟩
  have cMi : Callee l.prog w K mg base 5 "misfits" f31 _ ["form", "call"] (spMis K ⟨C0, C1, C2, C3, C4⟩ FM) := ⟨ok_mis F31 cSh cMo , PySem.W.mg_of X G a31, k31, b31⟩
  have cFi : Callee l.prog w K mg base 6 "fits" f32 _ ["form", "call"] (spFits K ⟨C0, C1, C2, C3, C4⟩ FM) := ⟨ok_fits F32 cMi , PySem.W.mg_of X G a32, k32, b32⟩
  have cRf : Callee l.prog w K mg base 6 "refuse_first_things" f42 _ ["form", "call"] (spRFirst K ⟨C0, C1, C2, C3, C4⟩ FM) := ⟨ok_rfirst F42 cMi , PySem.W.mg_of X G a42, k42, b42⟩
  have cFb : Callee l.prog w K mg base 2 "first_both" f40 _ ["form", "names"] (spFB ⟨C0, C1, C2, C3, C4⟩ FM) := ⟨ok_fb F40 (no zenumerate) FK PP mpa Gpa b15 mpl Gpl b17 GN b5 , PySem.W.mg_of X G a40, k40, b40⟩
  have cTl : Callee l.prog w K mg base 2 "tail_left" f44 _ ["form", "stop"] (spTailL ⟨C0, C1, C2, C3, C4⟩ FM) := ⟨ok_tailL F44 FK mta Gta b18 mpa Gpa b15 , PySem.W.mg_of X G a44, k44, b44⟩
  have cBo : Callee l.prog w K mg base 2 "bag_of" f46 _ ["form"] (spBagOf ⟨C0, C1, C2, C3, C4⟩ FM) := ⟨ok_bagOf F46 FK mbg Gbg b19 mpa Gpa b15 , PySem.W.mg_of X G a46, k46, b46⟩
  have cTg : Callee l.prog w K mg base 5 "tags_left" f45 _ ["form", "beyond", "names"] (spTagsL ⟨C0, C1, C2, C3, C4⟩ FM) := ⟨ok_tagsL F45 FK PP mpa Gpa b15 mpl Gpl b17 GN b5 GF b3 UC.k3 , PySem.W.mg_of X G a45, k45, b45⟩
  have cTf : Callee l.prog w K mg base 5 "told_form" f41 _ ["parameters", "bars"] (spToldF ⟨C0, C1, C2, C3, C4⟩ FM) := ⟨ok_toldF F41 FK kF1 ⟨a14, i14, k14⟩ GK b14 , PySem.W.mg_of X G a41, k41, b41⟩
  have cLb : Callee l.prog w K mg base 6 "left_behind" f43 _ ["form", "many", "names"] (spLeftB ⟨C0, C1, C2, C3, C4⟩ FM) := ⟨ok_leftB F43 (no zany) FK PP mpa Gpa b15 mpl Gpl b17 mba Gba b16 GN b5 GF b3 cFb cTl cTg cBo cTf , PySem.W.mg_of X G a43, k43, b43⟩
  have kP : Ctor l.prog w K mg base CX0 7 "Part" PT f21 _ ["self", "form", "call"] [] (spPtI K ⟨C0, C1, C2, C3, C4⟩ FM PT) := ⟨⟨mkPT, a21, i21, kcPT⟩, ok_ptI F21 PTc cRf cL, PySem.W.mg_of X G aPT, b21⟩
  have GWh : FnOk l.prog w K mg base CX0 2 f22 _ ["self", "call"] (spWhole K PT) := ok_whole F22 PTc cL cO
  have GLf : FnOk l.prog w K mg base CX0 7 f23 _ ["self"] (spPtLeft K ⟨C0, C1, C2, C3, C4⟩ FM PT) := ok_ptLeft F23 (no zlen) PTc cLb
  have mWh : Meth K PT "whole" f22 := ⟨a22, i22, k22⟩
  have mLf : Meth K PT "left" f23 := ⟨a23, i23, k23⟩
  have cN : Callee l.prog w K mg base 1 "_law_nth" f47 _ ["_law_script", "_law_k"] (spNthA K) := ⟨ok_nth F47 , PySem.W.mg_of X G a47, k47, b47⟩
  have cNm : Callee l.prog w K mg base 1 "_law_name" f48 _ ["_law_k"] spName := ⟨ok_name F48 , PySem.W.mg_of X G a48, k48, b48⟩
  have cPl : Callee l.prog w K mg base 5 "_law_places" f49 _ ["_law_number", "_law_begin", "_law_many", "_law_no_seats"] (spPls ⟨C0, C1, C2, C3, C4⟩) := ⟨ok_pls F49 (no zrange) UC cNm , PySem.W.mg_of X G a49, k49, b49⟩
  have cEd : Callee l.prog w K mg base 5 "_law_ends" f50 _ ["_law_number"] (spEnds ⟨C0, C1, C2, C3, C4⟩) := ⟨ok_ends F50 UC , PySem.W.mg_of X G a50, k50, b50⟩
  have cCa : Callee l.prog w K mg base 1 "_law_call" f51 _ ["_law_more", "_law_names"] (spCallL K) := ⟨ok_call F51 (no zlist) (no zrange) (no zenumerate) , PySem.W.mg_of X G a51, k51, b51⟩
  have cPk : Callee l.prog w K mg base 1 "_law_packed" f52 _ ["_law_call_here"] (spPack K) := ⟨ok_pack F52 , PySem.W.mg_of X G a52, k52, b52⟩
  have cFW : Callee l.prog w K mg base 7 "_law_fits_whole" f53 _ ["_law_form", "_law_part", "_law_call_here"] (spFW K ⟨C0, C1, C2, C3, C4⟩ FM PT) := ⟨ok_fw F53 PTc cFi cPk mWh GWh b22 , PySem.W.mg_of X G a53, k53, b53⟩
  exact ok_law F54 (no zlist) (no zrange) (no zenumerate) UC PP PTc kF0 kP mLf GLf b23 mWh GWh b22 GQ b4 GN b5 GF b3 cN cPl cEd cCa cPk cFW cFi cMi
theorem walk {l : PySem.W.OpenLaw} {q : Program} {loose : List Str} {XP : (Str → Option Value) → Heap → Prop} {YP : World → Heap → Prop} {d : DefRec} {K : Params → PySem.W.Frag} (hn : l.most = some 63) (hdf : d.params.defaults = [])
    (hY : ∀ (w : World) (h : Heap), YP w h → (K w.params).In h)
    (F : ∀ (w : World) (mg : Str → Option Value) (fa : Addr) (h : Heap), (K w.params).In h → h.Ns mainGlobals mg → mg d.name = some (.ref fa) →
      ∃ fd : FuncData, (∀ (s : Shared) (u : Value), BindsTo s fd ⟨[u], []⟩ [("_law_script", u)]) ∧ ∀ base : Heap, (K w.params).In base → base.Ns mainGlobals mg → FnOk l.prog w (K w.params) mg base CX0 9 fa fd ["_law_script"] (spLaw (K w.params))) :
    PySem.W.WalkO q loose XP YP l.row.toRowW d [] (fun f vs => PySem.call f vs) :=
  L2.walk_of (n := 63) (k := 9) (x := "_law_script") (CX := fun _ => CX0) (sp := fun w => spLaw (K w.params)) hn (by decide) hdf ⟨rfl, by decide, by decide⟩ hY F (fun _ _ a ns hl _ hS => ⟨a, ns, rfl, hS, hl, fun _ => rfl⟩) fun _ _ _ _ _ z => z
end K65
open PySem PySem.W PyProof.Rows
set_option maxRecDepth 100000 in
set_option maxHeartbeats 0 in
theorem PySem.Challenge.cw_callbinds_k65_nothing_left_holds : PySem.Challenge.rw_callbinds_k65_nothing_left.Holds := by
  w_on; o_law; k_head; (case hw => w_witness2)
  k_fill
  refine K65.walk (l := PySem.Challenge.rw_callbinds_k65_nothing_left) rfl rfl (fun w h Y => PySem.W.kIn_of Y) ?F
  case F =>
    intro w mg fa h KX G hmg
    refine' K65.all_mk KX G hmg ?aD ?pgD ?hdD ?poD ?saD ?mkD ?kcD ?aC0 ?pgC0 ?hdC0 ?poC0 ?saC0 ?mkC0 ?kcC0 ?nC0_word ?nC0_name ?nC0_may_lack ?aC1 ?pgC1 ?hdC1 ?poC1 ?saC1 ?mkC1 ?kcC1 ?nC1_word ?nC1_name ?nC1_may_lack ?aC2 ?pgC2 ?hdC2 ?poC2 ?saC2 ?mkC2 ?kcC2 ?nC2_word ?nC2_name ?nC2_may_lack ?aC3 ?pgC3 ?hdC3 ?poC3 ?saC3 ?mkC3 ?kcC3 ?nC3_word ?nC3_name ?nC3_may_lack ?aC4 ?pgC4 ?hdC4 ?poC4 ?saC4 ?mkC4 ?kcC4 ?nC4_word ?nC4_name ?nC4_may_lack ?aFM ?pgFM ?hdFM ?poFM ?saFM ?mkFM ?kcFM ?nFM_row ?nFM_bar_names ?nFM_place_count ?nFM_tail_number ?nFM_bag_number ?nFM_doors ?aPT ?pgPT ?hdPT ?poPT ?saPT ?mkPT ?kcPT ?nPT_kept_form ?nPT_things ?nPT_pairs ?a1 ?l1 ?c1 ?k1 ?a2 ?i2 ?l2 ?c2 ?k2 ?a3 ?i3 ?l3 ?c3 ?k3 ?a4 ?i4 ?l4 ?c4 ?k4 ?a5 ?i5 ?l5 ?c5 ?k5 ?a6 ?i6 ?l6 ?c6 ?k6 ?a7 ?i7 ?l7 ?c7 ?k7 ?a8 ?i8 ?l8 ?c8 ?k8 ?t8 ?a9 ?i9 ?l9 ?c9 ?k9 ?t9 ?a10 ?i10 ?l10 ?c10 ?k10 ?a11 ?i11 ?l11 ?c11 ?k11 ?t11 ?a12 ?i12 ?l12 ?c12 ?k12 ?a13 ?i13 ?l13 ?c13 ?k13 ?t13 ?a14 ?i14 ?l14 ?c14 ?k14 ?a15 ?i15 ?l15 ?c15 ?k15 ?a16 ?i16 ?l16 ?c16 ?k16 ?a17 ?i17 ?l17 ?c17 ?k17 ?a18 ?i18 ?l18 ?c18 ?k18 ?a19 ?i19 ?l19 ?c19 ?k19 ?a20 ?i20 ?l20 ?c20 ?k20 ?a21 ?i21 ?l21 ?c21 ?k21 ?a22 ?i22 ?l22 ?c22 ?k22 ?a23 ?i23 ?l23 ?c23 ?k23 ?a24 ?l24 ?c24 ?k24 ?a25 ?l25 ?c25 ?k25 ?a26 ?l26 ?c26 ?k26 ?a27 ?l27 ?c27 ?k27 ?a28 ?l28 ?c28 ?k28 ?a29 ?l29 ?c29 ?k29 ?a30 ?l30 ?c30 ?k30 ?a31 ?l31 ?c31 ?k31 ?a32 ?l32 ?c32 ?k32 ?a33 ?l33 ?c33 ?k33 ?a34 ?l34 ?c34 ?k34 ?a35 ?l35 ?c35 ?k35 ?a36 ?l36 ?c36 ?k36 ?a37 ?l37 ?c37 ?k37 ?a38 ?l38 ?c38 ?k38 ?a39 ?l39 ?c39 ?k39 ?a40 ?l40 ?c40 ?k40 ?a41 ?l41 ?c41 ?k41 ?a42 ?l42 ?c42 ?k42 ?a43 ?l43 ?c43 ?k43 ?a44 ?l44 ?c44 ?k44 ?a45 ?l45 ?c45 ?k45 ?a46 ?l46 ?c46 ?k46 ?a47 ?l47 ?c47 ?k47 ?a48 ?l48 ?c48 ?k48 ?a49 ?l49 ?c49 ?k49 ?a50 ?l50 ?c50 ?k50 ?a51 ?l51 ?c51 ?k51 ?a52 ?l52 ?c52 ?k52 ?a53 ?l53 ?c53 ?k53 ?a54 ?l54 ?c54 ?k54 ?zisinstance ?zstr ?zbool ?zlen ?zall ?zrange ?zlist ?zenumerate ?zset ?zany ?gL ?gN ?gMP ?gMB ?yN ?ytP ?utP ?ytB ?utB ?ytO ?utO ?ysg ?usg ?yGr ?lGr ?kGr ?eG0 ?eG1 ?eG2 ?eG3 ?eG4 ?xo ?dga ?drd ?dfc ?h0_3 ?h0_4 ?h0_5 ?h0_6 ?h0_7 ?h1_3 ?h1_4 ?h1_5 ?h1_6 ?h1_7 ?h2_3 ?h2_4 ?h2_5 ?h2_6 ?h2_7 ?h3_3 ?h3_4 ?h3_5 ?h3_6 ?h3_7 ?h4_3 ?h4_4 ?h4_5 ?h4_6 ?h4_7
    (case aD => k_is)
    (case pgD => k_is)
    (case hdD => k_is)
    (case poD => k_is)
    (case saD => k_is)
    (case mkD => k_is)
    (case kcD => k_is)
    (case aC0 => k_is)
    (case pgC0 => k_is)
    (case hdC0 => k_is)
    (case poC0 => k_is)
    (case saC0 => k_is)
    (case mkC0 => k_is)
    (case kcC0 => k_is)
    (case nC0_word => k_is)
    (case nC0_name => k_is)
    (case nC0_may_lack => k_is)
    (case aC1 => k_is)
    (case pgC1 => k_is)
    (case hdC1 => k_is)
    (case poC1 => k_is)
    (case saC1 => k_is)
    (case mkC1 => k_is)
    (case kcC1 => k_is)
    (case nC1_word => k_is)
    (case nC1_name => k_is)
    (case nC1_may_lack => k_is)
    (case aC2 => k_is)
    (case pgC2 => k_is)
    (case hdC2 => k_is)
    (case poC2 => k_is)
    (case saC2 => k_is)
    (case mkC2 => k_is)
    (case kcC2 => k_is)
    (case nC2_word => k_is)
    (case nC2_name => k_is)
    (case nC2_may_lack => k_is)
    (case aC3 => k_is)
    (case pgC3 => k_is)
    (case hdC3 => k_is)
    (case poC3 => k_is)
    (case saC3 => k_is)
    (case mkC3 => k_is)
    (case kcC3 => k_is)
    (case nC3_word => k_is)
    (case nC3_name => k_is)
    (case nC3_may_lack => k_is)
    (case aC4 => k_is)
    (case pgC4 => k_is)
    (case hdC4 => k_is)
    (case poC4 => k_is)
    (case saC4 => k_is)
    (case mkC4 => k_is)
    (case kcC4 => k_is)
    (case nC4_word => k_is)
    (case nC4_name => k_is)
    (case nC4_may_lack => k_is)
    (case aFM => k_is)
    (case pgFM => k_is)
    (case hdFM => k_is)
    (case poFM => k_is)
    (case saFM => k_is)
    (case mkFM => k_is)
    (case kcFM => k_is)
    (case nFM_row => k_is)
    (case nFM_bar_names => k_is)
    (case nFM_place_count => k_is)
    (case nFM_tail_number => k_is)
    (case nFM_bag_number => k_is)
    (case nFM_doors => k_is)
    (case aPT => k_is)
    (case pgPT => k_is)
    (case hdPT => k_is)
    (case poPT => k_is)
    (case saPT => k_is)
    (case mkPT => k_is)
    (case kcPT => k_is)
    (case nPT_kept_form => k_is)
    (case nPT_things => k_is)
    (case nPT_pairs => k_is)
    (case a1 => k_is)
    (case l1 => k_is)
    (case c1 => k_is)
    (case k1 => k_is)
    (case a2 => k_is)
    (case i2 => k_is)
    (case l2 => k_is)
    (case c2 => k_is)
    (case k2 => k_is)
    (case a3 => k_is)
    (case i3 => k_is)
    (case l3 => k_is)
    (case c3 => k_is)
    (case k3 => k_is)
    (case a4 => k_is)
    (case i4 => k_is)
    (case l4 => k_is)
    (case c4 => k_is)
    (case k4 => k_is)
    (case a5 => k_is)
    (case i5 => k_is)
    (case l5 => k_is)
    (case c5 => k_is)
    (case k5 => k_is)
    (case a6 => k_is)
    (case i6 => k_is)
    (case l6 => k_is)
    (case c6 => k_is)
    (case k6 => k_is)
    (case a7 => k_is)
    (case i7 => k_is)
    (case l7 => k_is)
    (case c7 => k_is)
    (case k7 => k_is)
    (case a8 => k_is)
    (case i8 => k_is)
    (case l8 => k_is)
    (case c8 => k_is)
    (case k8 => k_is)
    (case t8 => k_is)
    (case a9 => k_is)
    (case i9 => k_is)
    (case l9 => k_is)
    (case c9 => k_is)
    (case k9 => k_is)
    (case t9 => k_is)
    (case a10 => k_is)
    (case i10 => k_is)
    (case l10 => k_is)
    (case c10 => k_is)
    (case k10 => k_is)
    (case a11 => k_is)
    (case i11 => k_is)
    (case l11 => k_is)
    (case c11 => k_is)
    (case k11 => k_is)
    (case t11 => k_is)
    (case a12 => k_is)
    (case i12 => k_is)
    (case l12 => k_is)
    (case c12 => k_is)
    (case k12 => k_is)
    (case a13 => k_is)
    (case i13 => k_is)
    (case l13 => k_is)
    (case c13 => k_is)
    (case k13 => k_is)
    (case t13 => k_is)
    (case a14 => k_is)
    (case i14 => k_is)
    (case l14 => k_is)
    (case c14 => k_is)
    (case k14 => k_is)
    (case a15 => k_is)
    (case i15 => k_is)
    (case l15 => k_is)
    (case c15 => k_is)
    (case k15 => k_is)
    (case a16 => k_is)
    (case i16 => k_is)
    (case l16 => k_is)
    (case c16 => k_is)
    (case k16 => k_is)
    (case a17 => k_is)
    (case i17 => k_is)
    (case l17 => k_is)
    (case c17 => k_is)
    (case k17 => k_is)
    (case a18 => k_is)
    (case i18 => k_is)
    (case l18 => k_is)
    (case c18 => k_is)
    (case k18 => k_is)
    (case a19 => k_is)
    (case i19 => k_is)
    (case l19 => k_is)
    (case c19 => k_is)
    (case k19 => k_is)
    (case a20 => k_is)
    (case i20 => k_is)
    (case l20 => k_is)
    (case c20 => k_is)
    (case k20 => k_is)
    (case a21 => k_is)
    (case i21 => k_is)
    (case l21 => k_is)
    (case c21 => k_is)
    (case k21 => k_is)
    (case a22 => k_is)
    (case i22 => k_is)
    (case l22 => k_is)
    (case c22 => k_is)
    (case k22 => k_is)
    (case a23 => k_is)
    (case i23 => k_is)
    (case l23 => k_is)
    (case c23 => k_is)
    (case k23 => k_is)
    (case a24 => k_is)
    (case l24 => k_is)
    (case c24 => k_is)
    (case k24 => k_is)
    (case a25 => k_is)
    (case l25 => k_is)
    (case c25 => k_is)
    (case k25 => k_is)
    (case a26 => k_is)
    (case l26 => k_is)
    (case c26 => k_is)
    (case k26 => k_is)
    (case a27 => k_is)
    (case l27 => k_is)
    (case c27 => k_is)
    (case k27 => k_is)
    (case a28 => k_is)
    (case l28 => k_is)
    (case c28 => k_is)
    (case k28 => k_is)
    (case a29 => k_is)
    (case l29 => k_is)
    (case c29 => k_is)
    (case k29 => k_is)
    (case a30 => k_is)
    (case l30 => k_is)
    (case c30 => k_is)
    (case k30 => k_is)
    (case a31 => k_is)
    (case l31 => k_is)
    (case c31 => k_is)
    (case k31 => k_is)
    (case a32 => k_is)
    (case l32 => k_is)
    (case c32 => k_is)
    (case k32 => k_is)
    (case a33 => k_is)
    (case l33 => k_is)
    (case c33 => k_is)
    (case k33 => k_is)
    (case a34 => k_is)
    (case l34 => k_is)
    (case c34 => k_is)
    (case k34 => k_is)
    (case a35 => k_is)
    (case l35 => k_is)
    (case c35 => k_is)
    (case k35 => k_is)
    (case a36 => k_is)
    (case l36 => k_is)
    (case c36 => k_is)
    (case k36 => k_is)
    (case a37 => k_is)
    (case l37 => k_is)
    (case c37 => k_is)
    (case k37 => k_is)
    (case a38 => k_is)
    (case l38 => k_is)
    (case c38 => k_is)
    (case k38 => k_is)
    (case a39 => k_is)
    (case l39 => k_is)
    (case c39 => k_is)
    (case k39 => k_is)
    (case a40 => k_is)
    (case l40 => k_is)
    (case c40 => k_is)
    (case k40 => k_is)
    (case a41 => k_is)
    (case l41 => k_is)
    (case c41 => k_is)
    (case k41 => k_is)
    (case a42 => k_is)
    (case l42 => k_is)
    (case c42 => k_is)
    (case k42 => k_is)
    (case a43 => k_is)
    (case l43 => k_is)
    (case c43 => k_is)
    (case k43 => k_is)
    (case a44 => k_is)
    (case l44 => k_is)
    (case c44 => k_is)
    (case k44 => k_is)
    (case a45 => k_is)
    (case l45 => k_is)
    (case c45 => k_is)
    (case k45 => k_is)
    (case a46 => k_is)
    (case l46 => k_is)
    (case c46 => k_is)
    (case k46 => k_is)
    (case a47 => k_is)
    (case l47 => k_is)
    (case c47 => k_is)
    (case k47 => k_is)
    (case a48 => k_is)
    (case l48 => k_is)
    (case c48 => k_is)
    (case k48 => k_is)
    (case a49 => k_is)
    (case l49 => k_is)
    (case c49 => k_is)
    (case k49 => k_is)
    (case a50 => k_is)
    (case l50 => k_is)
    (case c50 => k_is)
    (case k50 => k_is)
    (case a51 => k_is)
    (case l51 => k_is)
    (case c51 => k_is)
    (case k51 => k_is)
    (case a52 => k_is)
    (case l52 => k_is)
    (case c52 => k_is)
    (case k52 => k_is)
    (case a53 => k_is)
    (case l53 => k_is)
    (case c53 => k_is)
    (case k53 => k_is)
    (case a54 => k_is)
    (case l54 => k_is)
    (case c54 => k_is)
    (case k54 => k_is)
    (case zisinstance => k_is)
    (case zstr => k_is)
    (case zbool => k_is)
    (case zlen => k_is)
    (case zall => k_is)
    (case zrange => k_is)
    (case zlist => k_is)
    (case zenumerate => k_is)
    (case zset => k_is)
    (case zany => k_is)
    (case gL => k_is)
    (case gN => k_is)
    (case gMP => k_is)
    (case gMB => k_is)
    (case yN => k_is)
    (case ytP => k_is)
    (case utP => k_is)
    (case ytB => k_is)
    (case utB => k_is)
    (case ytO => k_is)
    (case utO => k_is)
    (case ysg => k_is)
    (case usg => k_is)
    (case yGr => k_is)
    (case lGr => k_is)
    (case kGr => k_keys)
    (case eG0 => k_is)
    (case eG1 => k_is)
    (case eG2 => k_is)
    (case eG3 => k_is)
    (case eG4 => k_is)
    (case xo => k_exc)
    (case dga => k_is)
    (case drd => k_is)
    (case dfc => k_is)
    (case h0_3 => k_is)
    (case h0_4 => k_is)
    (case h0_5 => k_is)
    (case h0_6 => k_is)
    (case h0_7 => k_is)
    (case h1_3 => k_is)
    (case h1_4 => k_is)
    (case h1_5 => k_is)
    (case h1_6 => k_is)
    (case h1_7 => k_is)
    (case h2_3 => k_is)
    (case h2_4 => k_is)
    (case h2_5 => k_is)
    (case h2_6 => k_is)
    (case h2_7 => k_is)
    (case h3_3 => k_is)
    (case h3_4 => k_is)
    (case h3_5 => k_is)
    (case h3_6 => k_is)
    (case h3_7 => k_is)
    (case h4_3 => k_is)
    (case h4_4 => k_is)
    (case h4_5 => k_is)
    (case h4_6 => k_is)
    (case h4_7 => k_is)
#print axioms PySem.Challenge.cw_callbinds_k65_nothing_left_holds
