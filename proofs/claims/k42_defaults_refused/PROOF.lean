import PyProof.Rows.All
import Wide.All
import OpenK.AllK
import Wide.FinOn
import Lean
import PyProof.EqAt
import PyProof.EqKinds
import PyProof.TupleCall
import KE.KTryMore
import PyProof.ExcAttrAll.ValueError
import KE.KRevIter
import PyProof.SetNew
import PyProof.SetRoads
import PyProof.Rows.SetObj
import PyProof.DictCompW
import PyProof.DictItems
import PyProof.Rows.SetFrom
import PyProof.ListRange
import PyProof.Rows.Range3
import KE.IntBitsLaws
import KE.RegKIsAll
import KE.RegKTryMore
import PySem.Challenge.RW_callbinds_k42_defaults_refused
set_option Elab.async false
set_option linter.all false
set_option maxRecDepth 100000
/-! THE HAND LAYER, for ints, bools, texts, own classes, LISTS and tuples (index, slices, in, append, pop ..), calls, loops. Paste it whole ahead of your own text; what your proof does not reach may be deleted. -/
namespace L2
open PySem PySem.Spec PyProof.Rows

/-- a key: an int or a str -/
abbrev Key := Sum Int Str
def keyIs : Key → Value → Bool
  | .inl k, v => Value.isInt k v
  | .inr x, v => Value.isStrOf x v
def keyH (w : World) : Key → Int
  | .inl k => hashInt k
  | .inr x => hashStr w x
theorem keyIs_shape : ∀ {k : Key} {v : Value}, keyIs k v = true → (∃ i t, k = Sum.inl i ∧ v = Value.int i t) ∨ (∃ x t, k = Sum.inr x ∧ v = Value.str x t)
  | .inl i, v, h => by
    obtain ⟨t, e⟩ := Value.isInt_shape (k := i) (v := v) h
    exact .inl ⟨i, t, rfl, e⟩
  | .inr x, v, h => by
    obtain ⟨t, e⟩ := Value.isStrOf_shape (x := x) (v := v) h
    exact .inr ⟨x, t, rfl, e⟩
theorem keyIs_int (i : Int) (t : Tok) : keyIs (.inl i) (.int i t) = true := by simp [keyIs, Value.isInt]
theorem keyIs_str (x : Str) (t : Tok) : keyIs (.inr x) (.str x t) = true := by simp [keyIs, Value.isStrOf]
theorem key_ll (a b : Int) : decide ((Sum.inl a : Key) = Sum.inl b) = (a == b) := by
  by_cases e : a = b
  · subst e; simp
  · have h : ¬ (Sum.inl a : Key) = Sum.inl b := fun q => e (Sum.inl.inj q)
    rw [decide_eq_false h]
    exact (beq_eq_false_iff_ne.mpr e).symm
theorem key_rr (a b : Str) : decide ((Sum.inr a : Key) = Sum.inr b) = decide (a = b) := by
  by_cases e : a = b
  · subst e; simp
  · have h : ¬ (Sum.inr a : Key) = Sum.inr b := fun q => e (Sum.inr.inj q)
    rw [decide_eq_false h, decide_eq_false e]
theorem key_lr (a : Int) (b : Str) : decide ((Sum.inl a : Key) = Sum.inr b) = false := decide_eq_false (fun q => nomatch q)
theorem key_rl (a : Str) (b : Int) : decide ((Sum.inr a : Key) = Sum.inl b) = false := decide_eq_false (fun q => nomatch q)

def mixKind (prog : Program) (w : World) : PySem.KeyKind prog w Key where
  is := keyIs
  hash := keyH w
  inj := fun v a b ha hb => by
    rcases keyIs_shape ha with ⟨i, t, rfl, rfl⟩ | ⟨x, t, rfl, rfl⟩
    · rcases keyIs_shape hb with ⟨j, u, rfl, e⟩ | ⟨y, u, rfl, e⟩
      · injection e with e1 _; rw [e1]
      · exact nomatch e
    · rcases keyIs_shape hb with ⟨j, u, rfl, e⟩ | ⟨y, u, rfl, e⟩
      · exact nomatch e
      · injection e with e1 _; rw [e1]
  byValue := fun k v h => by
    rcases keyIs_shape h with ⟨i, t, rfl, rfl⟩ | ⟨x, t, rfl, rfl⟩ <;> rfl
  pyHash := fun hv h => by
    rcases keyIs_shape hv with ⟨i, t, rfl, rfl⟩ | ⟨x, t, rfl, rfl⟩
    · exact wpAny_pyHash_int h
    · exact wpAny_pyHash_str h
  eqBool := fun hu hv h => by
    rcases keyIs_shape hu with ⟨i, t, rfl, rfl⟩ | ⟨x, t, rfl, rfl⟩
    · rcases keyIs_shape hv with ⟨j, u, rfl, rfl⟩ | ⟨y, u, rfl, rfl⟩
      · rw [key_ll] at h; exact wpAny_eqBool_int h
      · rw [key_lr] at h; exact SeqAt.EqAt.int_str i t y u _ _ _ _ h
    · rcases keyIs_shape hv with ⟨j, u, rfl, rfl⟩ | ⟨y, u, rfl, rfl⟩
      · rw [key_rl] at h; exact SeqAt.EqAt.str_int x t j u _ _ _ _ h
      · rw [key_rr] at h; exact wpAny_eqBool_str h
  «strs» := fun k x t v h => by
    rcases keyIs_shape h with ⟨i, u, rfl, e⟩ | ⟨y, u, rfl, e⟩
    · exact nomatch e
    · injection e with e1 _
      subst e1
      cases v <;> rfl

theorem mixKind_int (prog : Program) (w : World) (i : Int) (t : Tok) : (mixKind prog w).is (.inl i) (.int i t) = true := keyIs_int i t
theorem mixKind_str (prog : Program) (w : World) (x : Str) (t : Tok) : (mixKind prog w).is (.inr x) (.str x t) = true := keyIs_str x t
end L2

namespace L2
open PySem PySem.Spec PyProof.Rows

/-- a value, without the heap -/
inductive V where
  | non | bl (b : Bool) | int (i : Int) | str (x : Str) | byt (b : Array UInt8) | flt (b : UInt64) | ref (a : Addr) | ty (n : String)
  deriving DecidableEq

def RelV : V → Value → Prop
  | .non, u => u = Value.none
  | .bl b, u => u = Value.bool b
  | .int i, u => ∃ t, u = Value.int i t
  | .str x, u => ∃ t, u = Value.str x t
  | .byt b, u => ∃ t, u = Value.bytes b t
  | .flt b, u => ∃ t, u = Value.float b t
  | .ref a, u => u = Value.ref a
  | .ty n, u => u = Value.type n

abbrev Vals : List V → List Value → Prop := Paired RelV
theorem Vals.length {xs : List V} {us : List Value} (r : Vals xs us) : xs.length = us.length := Paired.length r
theorem Vals.get : ∀ {xs : List V} {us : List Value} {i : Nat} {x : V}, Vals xs us → xs[i]? = some x → ∃ u, us[i]? = some u ∧ RelV x u
  | _, _, _, _, .nil, e => by simp at e
  | _, _, 0, _, .cons r _, e => by simp at e; subst e; exact ⟨_, rfl, r⟩
  | _, _, i + 1, x, .cons _ t, e => by
    obtain ⟨u, h1, h2⟩ := Vals.get (i := i) (x := x) t (by simpa using e)
    exact ⟨u, by simpa using h1, h2⟩
theorem Vals.append : ∀ {xs ys : List V} {us ws : List Value}, Vals xs us → Vals ys ws → Vals (xs ++ ys) (us ++ ws)
  | _, _, _, _, .nil, s => s
  | _, _, _, _, .cons r t, s => .cons r (Vals.append t s)
theorem Vals.take : ∀ {xs : List V} {us : List Value} (n : Nat), Vals xs us → Vals (xs.take n) (us.take n)
  | _, _, 0, _ => .nil
  | _, _, _ + 1, .nil => .nil
  | _, _, n + 1, .cons r t => .cons r (Vals.take n t)
theorem Vals.drop : ∀ {xs : List V} {us : List Value} (n : Nat), Vals xs us → Vals (xs.drop n) (us.drop n)
  | _, _, 0, r => r
  | _, _, _ + 1, .nil => .nil
  | _, _, n + 1, .cons _ t => Vals.drop n t
def RelO : Option V → Option Value → Prop
  | some v, some u => RelV v u
  | none, none => True
  | _, _ => False
def KV {κ : Type} : List (κ × V) → List (κ × Value) → Prop := Paired fun (p : κ × V) (q : κ × Value) => p.1 = q.1 ∧ RelV p.2 q.2

/-- a key of a dict (00_mix): an int or a text -/
def kV : Key → V
  | .inl i => .int i
  | .inr x => .str x

/-- what stands at a tracked address -/
inductive HO where
  /-- a list -/
  | lst (xs : List V)
  /-- a tuple (never changes) -/
  | tup (xs : List V)
  /-- a dict whose keys are ints and texts; one whose keys are tuples of ints and texts (the empty one is both) -/
  | dK (kvs : List (Key × V)) | dT (kvs : List (List Key × V))
  /-- a set of ints: its members, its size -/
  | set (S : Int → Bool) (n : Nat)
  /-- an instance of the class at C, its dict at dx, its attributes -/
  | ins (C dx : Addr) (fs : List (Str × V))
  /-- the dict of the instance at x -/
  | own (x : Addr)
  /-- the dict of an exception -/
  | xd (fs : List (Str × V))
  /-- a bound method, f of x -/
  | met (f x : Addr)
  /-- a range object lo, lo + 1, .. below hi -/
  | rng (lo hi : Int)
  /-- a thing that is known to the object (the script; a dict while a loop walks it): read, never written while it is so -/
  | frz (o : Obj) (u : HO)
  /-- a code object's table -/
  | tbl (ps : Array Value)
  /-- any other thing, by what is true of its one object (a def of one's own: SetO a S n := HO.ext fun h => ..) -/
  | ext (φ : Heap → Prop)

abbrev Hp := Addr → Option HO
def upd (H : Hp) (a : Addr) (o : HO) : Hp := fun b => if b = a then some o else H b
theorem upd_same {H : Hp} {a : Addr} {o : HO} : upd H a o a = some o := by unfold upd; rw [if_pos rfl]
theorem upd_ne {H : Hp} {a b : Addr} {o : HO} (h : b ≠ a) : upd H a o b = H b := by unfold upd; rw [if_neg h]
theorem upd_upd {H : Hp} {a : Addr} {o u : HO} : upd (upd H a o) a u = upd H a u := by
  funext b; unfold upd; split <;> rfl
/-- two objects of different content stand apart -/
theorem ne_of {H : Hp} {a b : Addr} {o u : HO} (h : H a = some o) (h' : H b = some u) (d : o ≠ u) : a ≠ b := by
  intro e; subst e; rw [h] at h'; exact d (Option.some.inj h')
theorem ne_of_none {H : Hp} {a b : Addr} {o : HO} (h : H a = some o) (h' : H b = none) : a ≠ b := by
  intro e; subst e; rw [h] at h'; cases h'

section
variable (P : Program) (w : World)
def ObjOk (H : Hp) (h : Heap) (a : Addr) : HO → Prop
  | .lst xs => xs.length ≤ sizeLine ∧ ∃ (its : List Value) (n : Nat), Vals xs its ∧ h.get? a = some { cls := .type "list", data := .seq its.toArray n }
  | .tup xs => xs.length ≤ sizeLine ∧ ∃ its : List Value, Vals xs its ∧ IsTup h a its.toArray
  | .dK kvs => kvs.length ≤ sizeLine ∧ (a == sysModules) = false ∧ ∃ vs, KV kvs vs ∧ h.DictOf (mixKind P w) a vs
  | .dT kvs => kvs.length ≤ sizeLine ∧ (a == sysModules) = false ∧ ∃ xs : List (List Key × Addr × Value),
      Paired (fun (p : List Key × V) (q : List Key × Addr × Value) => p.1 = q.1 ∧ H q.2.1 = some (.tup (p.1.map kV)) ∧ RelV p.2 q.2.2) kvs xs ∧
      ∃ o es ep, h.get? a = some o ∧ o.ExactDict ∧ o.data = .dict es ep ∧ es.toList = xs.map (entryOfKey (tupleKind (mixKind P w))) ∧ (xs.map (·.1)).Nodup
  | .set S n => h.SetOf (intKind P w) a S n
  | .ins C dx fs => H dx = some (.own a) ∧ fs.length ≤ 1000 ∧ dx ≠ a ∧ h.get? a = some (PySem.W.instObj C dx) ∧
      ∃ mA, h.Ns1 dx mA ∧ (∀ f, RelO (fs.lookup f) (mA f)) ∧ PySem.Within mA (fs.map (·.1))
  | .own _ => ∃ o, h.get? a = some o
  | .xd fs => ∃ mA, h.Ns1 a mA ∧ ∀ f, RelO (fs.lookup f) (mA f)
  | .rng lo hi => ∃ t u v, h.get? a = some { cls := .type "range", data := .fields #[.int lo t, .int hi u, .int 1 v] }
  | .frz o u => h.get? a = some o ∧ ObjOk H h a u
  | .tbl ps => h.get? a = some { cls := .none, data := .fields ps }
  | .met f x => h.get? a = some (PySem.W.methodObj (.ref f) (.ref x))
  | .ext φ => φ h ∧ (∃ o, h.get? a = some o) ∧ ∀ h1 h2 : Heap, φ h1 → (∀ o, h1.get? a = some o → h2.get? a = some o) → φ h2
/-- the abstract heap is held -/
def HOk (H : Hp) (h : Heap) : Prop := ∀ a o, H a = some o → ObjOk P w H h a o
end

section
variable {P : Program} {w : World} {H H' : Hp} {h h' : Heap} {a : Addr} {o : HO}
theorem ObjOk.lt (x : ObjOk P w H h a o) : a < h.objs.size := by
  cases o with
  | lst xs => obtain ⟨_, _, _, _, e⟩ := x; exact Heap.lt_size e
  | tup xs => obtain ⟨_, _, _, p⟩ := x; exact p.lt
  | dK kvs => obtain ⟨_, _, _, _, o, _, _, e, _⟩ := x; exact Heap.lt_size e
  | dT kvs => obtain ⟨_, _, _, _, o, _, _, e, _⟩ := x; exact Heap.lt_size e
  | set S n => obtain ⟨o, _, _, _, e, _⟩ := x; exact Heap.lt_size e
  | ins C dx fs => obtain ⟨_, _, _, e, _⟩ := x; exact Heap.lt_size e
  | own y => obtain ⟨_, e⟩ := x; exact Heap.lt_size e
  | xd fs => obtain ⟨_, ⟨_, _, _, e, _⟩, _⟩ := x; exact Heap.lt_size e
  | rng lo hi => obtain ⟨_, _, _, e⟩ := x; exact Heap.lt_size e
  | frz ob u => obtain ⟨e, _⟩ := x; exact Heap.lt_size e
  | tbl ps => exact Heap.lt_size (show h.get? a = some _ from x)
  | met f y => exact Heap.lt_size (show h.get? a = some _ from x)
  | ext φ => obtain ⟨_, ⟨_, e⟩, _⟩ := x; exact Heap.lt_size e
theorem Paired.mapP {α β : Type} {F G : α → β → Prop} : ∀ {l₁ : List α} {l₂ : List β}, Paired F l₁ l₂ → (∀ a b, F a b → G a b) → Paired G l₁ l₂
  | _, _, .nil, _ => .nil
  | _, _, .cons r t, f => .cons (f _ _ r) (Paired.mapP t f)
theorem Paired.imp' {α β : Type} {F G : α → β → Prop} (f : ∀ a b, F a b → G a b) {l₁ : List α} {l₂ : List β} (r : Paired F l₁ l₂) : Paired G l₁ l₂ := Paired.mapP r f
/-- what an object's description leans on: its own object, its own dict, the tuples -/
theorem ObjOk.stay (x : ObjOk P w H h a o) (k : ∀ b u, (b = a ∨ H b = some (.own a)) → h.get? b = some u → h'.get? b = some u)
    (ho : ∀ b, H b = some (.own a) → H' b = some (.own a)) (ht : ∀ b xs, H b = some (.tup xs) → H' b = some (.tup xs)) : ObjOk P w H' h' a o := by
  induction o with
  | lst xs => obtain ⟨z, its, n, r, e⟩ := x; exact ⟨z, its, n, r, k _ _ (.inl rfl) e⟩
  | tup xs => obtain ⟨z, its, r, ob, e, c⟩ := x; exact ⟨z, its, r, ob, k _ _ (.inl rfl) e, c⟩
  | dK kvs => obtain ⟨z, y, vs, r, ob, es, ep, e, c⟩ := x; exact ⟨z, y, vs, r, ob, es, ep, k _ _ (.inl rfl) e, c⟩
  | dT kvs =>
    obtain ⟨z, y, xs, r, ob, es, ep, e, c⟩ := x
    exact ⟨z, y, xs, Paired.mapP r fun p q z => ⟨z.1, ht _ _ z.2.1, z.2.2⟩, ob, es, ep, k _ _ (.inl rfl) e, c⟩
  | set S n => obtain ⟨ob, es, ep, t, e, c⟩ := x; exact ⟨ob, es, ep, t, k _ _ (.inl rfl) e, c⟩
  | ins C dx fs =>
    obtain ⟨d, z, ne, e, mA, ⟨od, es, ep, e2, c⟩, r⟩ := x
    exact ⟨ho _ d, z, ne, k _ _ (.inl rfl) e, mA, ⟨od, es, ep, k _ _ (.inr d) e2, c⟩, r⟩
  | own y => obtain ⟨ob, e⟩ := x; exact ⟨ob, k _ _ (.inl rfl) e⟩
  | xd fs => obtain ⟨mA, ⟨od, es, ep, e, c⟩, r⟩ := x; exact ⟨mA, ⟨od, es, ep, k _ _ (.inl rfl) e, c⟩, r⟩
  | rng lo hi => obtain ⟨t, u, v, e⟩ := x; exact ⟨t, u, v, k _ _ (.inl rfl) e⟩
  | frz ob u ih => obtain ⟨e, q⟩ := x; exact ⟨k _ _ (.inl rfl) e, ih q⟩
  | tbl ps =>
    have e : h.get? a = some { cls := .none, data := .fields ps } := x
    show h'.get? a = some { cls := .none, data := .fields ps }
    exact k a _ (.inl rfl) e
  | met f y =>
    have e : h.get? a = some (PySem.W.methodObj (.ref f) (.ref y)) := x
    show h'.get? a = some (PySem.W.methodObj (.ref f) (.ref y))
    exact k a _ (.inl rfl) e
  | ext φ => obtain ⟨p, ⟨o, e⟩, st⟩ := x; exact ⟨st _ _ p fun o q => k _ _ (.inl rfl) q, ⟨o, k _ _ (.inl rfl) e⟩, st⟩
theorem HOk.lt (x : HOk P w H h) (e : H a = some o) : a < h.objs.size := (x a o e).lt
theorem HOk.fresh (x : HOk P w H h) (e : h.objs.size ≤ a) : H a = none := by
  cases q : H a with
  | none => rfl
  | some u => exact absurd (Nat.lt_of_lt_of_le (x.lt q) e) (Nat.lt_irrefl _)
/-- every object of the heap is kept -/
theorem HOk.kept (x : HOk P w H h) (k : ∀ b u, h.get? b = some u → h'.get? b = some u) : HOk P w H h' := fun a o e =>
  (x a o e).stay (fun b u _ q => k b u q) (fun _ q => q) fun _ _ q => q
/-- a new object is laid and tracked -/
theorem HOk.laid (x : HOk P w H h) (k : ∀ b u, h.get? b = some u → h'.get? b = some u) (hp : h.objs.size ≤ a) (new : ObjOk P w (upd H a o) h' a o) : HOk P w (upd H a o) h' := fun b u e => by
  have hn := x.fresh hp
  by_cases hb : b = a
  · subst hb; rw [upd_same] at e; cases e; exact new
  · rw [upd_ne hb] at e
    exact (x b u e).stay (fun c v _ q => k c v q) (fun c q => by rw [upd_ne (ne_of_none q hn)]; exact q) fun c xs q => by rw [upd_ne (ne_of_none q hn)]; exact q
end

/-- what may be read as u: it is u, or a known u -/
def Rd (H : Hp) (a : Addr) (u : HO) : Prop := H a = some u ∨ ∃ o, H a = some (.frz o u)
theorem Rd.ok {P : Program} {w : World} {H : Hp} {h : Heap} {a : Addr} {u : HO} (r : Rd H a u) (x : HOk P w H h) : ObjOk P w H h a u := by
  rcases r with r | ⟨o, r⟩
  · exact x a u r
  · obtain ⟨_, q⟩ := x a _ r
    exact q
/-- what may be written -/
def Mut : Option HO → Prop
  | some (.lst _) => True
  | some (.dK _) => True
  | some (.dT _) => True
  | some (.set _ _) => True
  | some (.ins _ _ _) => True
  | some (.ext _) => True
  | _ => False
section
variable {P : Program} {w : World} {H : Hp} {h h' : Heap} {x e : Addr} {o' : HO}
/-- the object at e is changed: x itself, or the dict of the instance x -/
theorem HOk.write (ok : HOk P w H h) (mu : Mut (H x)) (he : e = x ∨ H e = some (.own x)) (k : ∀ b u, b ≠ e → h.get? b = some u → h'.get? b = some u) (heo : ∃ u, h'.get? e = some u)
    (new : ObjOk P w (upd H x o') h' x o') : HOk P w (upd H x o') h' := fun b u q => by
  have nown : ∀ c y, H c = some (.own y) → c ≠ x := fun c y r z => by subst z; rw [r] at mu; exact mu
  have ntup : ∀ c xs, H c = some (.tup xs) → c ≠ x := fun c xs r z => by subst z; rw [r] at mu; exact mu
  by_cases hb : b = x
  · subst hb; rw [upd_same] at q; cases q; exact new
  · rw [upd_ne hb] at q
    by_cases hbe : b = e
    · have q' : H b = some (.own x) := by
        rcases he with z | z
        · exact absurd (hbe.trans z) hb
        · rw [hbe]; exact z
      rw [q] at q'; cases q'
      obtain ⟨v, hv⟩ := heo
      exact ⟨v, by rw [hbe]; exact hv⟩
    · refine (ok b u q).stay (fun c v hc r => k c v ?_ r) (fun c r => by rw [upd_ne (nown c b r)]; exact r) fun c xs r => by rw [upd_ne (ntup c xs r)]; exact r
      rcases hc with rfl | hc
      · exact hbe
      · rintro rfl
        rcases he with z | z
        · exact nown c b hc z
        · rw [hc] at z; cases z; exact hb rfl
end

/-! ### kept unless tracked; of the frames at fs (the callers') the slots may change (an exception that passes writes there); of the records at ex (iterators) nothing is said -/
structure Un (fs ex : List Addr) (H H' : Hp) (h h' : Heap) : Prop where
  keep : ∀ b o, h.get? b = some o → H b = none → b ∉ fs → b ∉ ex → h'.get? b = some o
  slot : ∀ b o, h.get? b = some o → H b = none → b ∈ fs → b ∉ ex → ∃ sl, h'.get? b = some { o with slots := sl }
  free : ∀ b o, h.get? b = some o → H b = none → b ∉ ex → H' b = none
  there : ∀ b o, h.get? b = some o → b ∉ ex → ∃ o', h'.get? b = some o'
  tups : ∀ b xs, H b = some (.tup xs) → H' b = some (.tup xs)
  frzs : ∀ b o u, H b = some (.frz o u) → H' b = some (.frz o u)
  tbls : ∀ b ps, H b = some (.tbl ps) → ∃ more, H' b = some (.tbl (ps ++ more))
section
variable {fs fs' ex ex' : List Addr} {H H1 H2 : Hp} {h h1 h2 h' : Heap} {a x e : Addr} {o : HO}
theorem Un.any (u : Un fs ex H H1 h h1) {b : Addr} {ob : Obj} (q : h.get? b = some ob) (n : H b = none) (hx : b ∉ ex) : ∃ sl, h1.get? b = some { ob with slots := sl } := by
  by_cases hb : b ∈ fs
  · exact u.slot b ob q n hb hx
  · exact ⟨ob.slots, u.keep b ob q n hb hx⟩
theorem Un.kept (k : ∀ b u, h.get? b = some u → h'.get? b = some u) : Un fs ex H H h h' :=
  ⟨fun b ob q _ _ _ => k b ob q, fun b ob q _ _ _ => ⟨ob.slots, k b ob q⟩, fun _ _ _ n _ => n, fun b ob q _ => ⟨ob, k b ob q⟩, fun _ _ q => q, fun _ _ _ q => q, fun _ ps q => ⟨#[], by rw [q]; simp⟩⟩
theorem Un.refl : Un fs ex H H h h := Un.kept fun _ _ q => q
theorem Un.laid (k : ∀ b u, h.get? b = some u → h'.get? b = some u) (hp : h.objs.size ≤ a) (hn : H a = none) : Un fs ex H (upd H a o) h h' where
  keep := fun b u q _ _ _ => k b u q
  slot := fun b u q _ _ _ => ⟨u.slots, k b u q⟩
  free := fun b u q n _ => by rw [upd_ne (Nat.ne_of_lt (Nat.lt_of_lt_of_le (Heap.lt_size q) hp))]; exact n
  there := fun b u q _ => ⟨u, k b u q⟩
  tups := fun b xs q => by rw [upd_ne (ne_of_none q hn)]; exact q
  frzs := fun b u xs q => by rw [upd_ne (ne_of_none q hn)]; exact q
  tbls := fun b ps q => ⟨#[], by rw [upd_ne (ne_of_none q hn), q]; simp⟩
theorem Un.write (mu : Mut (H x)) (he : e = x ∨ H e = some (.own x)) (k : ∀ b u, b ≠ e → h.get? b = some u → h'.get? b = some u) (heo : ∃ u, h'.get? e = some u) : Un fs ex H (upd H x o) h h' := by
  have hx : ∀ b, H b = none → b ≠ x := fun b n z => by subst z; rw [n] at mu; exact mu
  have hb : ∀ b, H b = none → b ≠ e := fun b n z => by
    subst z
    rcases he with r | r
    · exact hx b n r
    · rw [n] at r; cases r
  have hm : ∀ b u, H b = some u → ¬ Mut (some u) → b ≠ x := fun b u q nm z => by subst z; rw [q] at mu; exact nm mu
  refine ⟨fun b u q n _ _ => k b u (hb b n) q, fun b u q n _ _ => ⟨u.slots, k b u (hb b n) q⟩, fun b u q n _ => by rw [upd_ne (hx b n)]; exact n, fun b u q _ => ?_,
    fun b xs q => by rw [upd_ne (hm b _ q fun z => z)]; exact q, fun b u xs q => by rw [upd_ne (hm b _ q fun z => z)]; exact q, fun b ps q => ⟨#[], by rw [upd_ne (hm b _ q fun z => z), q]; simp⟩⟩
  by_cases hbe : b = e
  · subst hbe; exact heo
  · exact ⟨u, k b u hbe q⟩
end

/-! ### the heap without what is tracked -/
def trk (h : Heap) (H : Hp) : List Addr := (List.range h.objs.size).filter fun a => (H a).isSome
def hidT (h : Heap) (H : Hp) : Heap := PySem.W.hideAll h (trk h H)
theorem hidT_size (h : Heap) (H : Hp) : (hidT h H).objs.size = h.objs.size := PySem.W.hideAll_size _ _
theorem hidT_get {h : Heap} {H : Hp} {b : Addr} {o : Obj} (e : h.get? b = some o) (n : H b = none) : (hidT h H).get? b = some o :=
  PySem.W.hideAll_get _ e fun hm => by
    have q : (H b).isSome = true := (List.mem_filter.mp hm).2
    rw [n] at q; simp at q
theorem of_hidT {h : Heap} {H : Hp} {b : Addr} {o : Obj} (e : (hidT h H).get? b = some o) : h.get? b = some o ∧ H b = none := by
  have e' : h.get? b = some o := PySem.W.of_hideAll (trk h H) e
  refine ⟨e', ?_⟩
  cases q : H b with
  | none => rfl
  | some x =>
    have hm : b ∈ trk h H := List.mem_filter.mpr ⟨List.mem_range.mpr (Heap.lt_size e'), by simp [q]⟩
    have z : (hidT h H).get? b = none := PySem.W.hideAll_none (trk h H) hm
    rw [z] at e; cases e

/-! ### OpenK's ledger, filled with every new object but one -/
def allNews (g h : Heap) (L : Addr) : List (Addr × Obj) := (List.range h.objs.size).filterMap fun a => if a = L ∨ (g.get? a).isSome = true then none else (h.get? a).map fun o => (a, o)
def rest (g h : Heap) (L d : Addr) : List (Addr × Obj) := (allNews g h L).filter fun p => decide (p.1 ≠ d)
end L2

namespace L2
open PySem PySem.Spec PyProof.Rows

/-- the module's facts, over the base: the heap at the law's entry without what is tracked there -/
structure Mod (K : PySem.W.Frag) (mg : Str → Option Value) (base : Heap) : Prop where
  kin : K.In base
  glob : base.Ns mainGlobals mg
  blt : ∃ mb, base.Ns builtinsNs mb ∧ ∀ x : Str, x ≠ "__name__" → mb x = bootBuiltins x
  nolimit : base.NoLimit

/-- the context: a def's body (or a comprehension's block) running. base: fixed through the whole law; s₀, H₀: the entry; outer: the frames whose slots others may change (a def's callers); stack: all frames that run;
   ex: iterators that were made ahead of the entry and are walked here (a comprehension's); fn: the names whose cells were made at the entry (a def: all; a comprehension's block: its own); calm: not within an except suite; pn: pins that every state bears; xe: what is wanted of an exception that leaves the code -/
structure Cx where
  prog : Program
  w : World
  K : PySem.W.Frag
  mg : Str → Option Value
  base : Heap
  A : Around
  N : List Str
  s₀ : Shared
  H₀ : Hp
  env : Env
  outer : List Env
  stack : List Env
  ex : List Addr
  fn : Str → Bool
  calm : Bool
  pn : List (Addr × Obj)
  xe : Value → Shared → Prop
/-- the callers' frames -/
def frs (l : List Env) : List Addr := l.filterMap (·.frame)
abbrev Cx.fs (X : Cx) : List Addr := frs X.outer

def Vis (sc : Scope) (x : Str) : Prop := sc.names.lookup x = some .local ∨ sc.names.lookup x = some .cell ∨ sc.names.lookup x = some .free
def Loc (sc : Scope) (x : Str) : Prop := sc.names.lookup x = some .local ∨ sc.names.lookup x = some .cell
def Look (env : Env) (h : Heap) (m : Str → Option Value) (x : Str) (u : Value) : Prop :=
  (env.kindOf x = some .local ∧ m x = some u) ∨ ((env.kindOf x = some .cell ∨ env.kindOf x = some .free) ∧ ∃ c, env.cells.lookup x = some c ∧ h.IsCell c (some u))

structure Cx.Ok (X : Cx) : Prop where
  mod : Mod X.K X.mg X.base
  kind : X.env.scope.kind = .function
  glob : X.env.globals = mainGlobals
  blt : X.env.builtins = builtinsNs
  above : X.s₀.heap.objs.size ≤ X.env.locals
  inj : ∀ x y c, X.env.cells.lookup x = some c → X.env.cells.lookup y = some c → x = y
  has : ∀ x, (X.env.kindOf x = some .cell ∨ X.env.kindOf x = some .free) → ∃ c, X.env.cells.lookup x = some c
  cab : ∀ x c, X.fn x = true → X.env.cells.lookup x = some c → X.s₀.heap.objs.size ≤ c
  hd : X.calm = true → X.A.handled = none
  frames : X.A.frames = some X.stack
  stk : X.stack = X.outer ∨ (X.stack = X.env :: X.outer ∧ X.env.frame = some X.env.locals)
  exf : ∀ b ∈ X.ex, b ≠ X.env.locals ∧ ∀ x c, X.env.cells.lookup x = some c → c ≠ b
  bs : ∀ b o, X.base.get? b = some o → X.s₀.heap.get? b = some o ∧ X.H₀ b = none
  bsz : X.base.objs.size ≤ X.s₀.heap.objs.size
  noex : ∀ b o, X.base.get? b = some o → b ∉ X.ex
  exfs : ∀ b ∈ X.ex, b ∉ X.fs
  funs : X.s₀.heap.FunFrames X.base X.outer
  frf : ∀ b ∈ X.fs, X.H₀ b = none

structure Inv (X : Cx) (pins : List (Addr × Obj)) (σ : List (Option V)) (H : Hp) (s : Shared) : Prop where
  ok : X.Ok
  os : s.os = X.s₀.os
  bare : AllBare s.gens
  base : Un X.fs X.ex X.H₀ H X.s₀.heap s.heap
  loc : ∃ m, s.heap.Ns X.env.locals m ∧ ∀ (i : Nat) (x : Str) (v : V), X.N[i]? = some x → σ[i]? = some (some v) → Vis X.env.scope x → ∃ u, RelV v u ∧ Look X.env s.heap m x u
  cell : ∀ x c, X.env.cells.lookup x = some c → ∃ v, s.heap.IsCell c v
  free : H X.env.locals = none
  freeC : ∀ x c, X.env.cells.lookup x = some c → H c = none
  pin : ∀ p ∈ X.pn ++ pins, s.heap.get? p.1 = some p.2 ∧ H p.1 = none ∧ p.1 ≠ X.env.locals ∧ p.1 ∉ X.fs ∧ ∀ v, p.2.data ≠ .cell v
  hok : HOk X.prog X.w H s.heap
  len : σ.length = X.N.length

section
variable {X : Cx} {pins : List (Addr × Obj)} {σ : List (Option V)} {H H' : Hp} {s : Shared} {h' : Heap}

theorem Cx.Ok.nofr (ok : X.Ok) {b : Addr} {o : Obj} (e : X.base.get? b = some o) : b ∉ X.fs := fun hb => by
  have := (ok.funs.mem hb).1
  rw [e] at this; cases this
theorem Inv.bs (I : Inv X pins σ H s) : ∀ b o, X.base.get? b = some o → s.heap.get? b = some o ∧ H b = none := fun b o e =>
  ⟨I.base.keep b o (I.ok.bs b o e).1 (I.ok.bs b o e).2 (I.ok.nofr e) (I.ok.noex b o e), I.base.free b o (I.ok.bs b o e).1 (I.ok.bs b o e).2 (I.ok.noex b o e)⟩
theorem Inv.bk (I : Inv X pins σ H s) : ∀ b o, X.base.get? b = some o → s.heap.get? b = some o := fun b o e => (I.bs b o e).1
theorem Inv.mod (I : Inv X pins σ H s) : Mod X.K X.mg X.base := I.ok.mod
theorem Inv.kIn (I : Inv X pins σ H s) : X.K.In s.heap := I.ok.mod.kin.keeps I.bk
/-- the frame over the base: for OpenK's rules (K.In X.base is I.mod.kin) -/
theorem Inv.fr (I : Inv X pins σ H s) : ∃ m, Fr X.base X.env.locals s.heap m :=
  let ⟨m, hn, _⟩ := I.loc
  ⟨m, hn, I.bk, Nat.le_trans I.ok.bsz I.ok.above⟩
theorem Inv.lt (I : Inv X pins σ H s) : X.env.locals < s.heap.objs.size := let ⟨_, hn, _⟩ := I.loc; hn.lt
theorem Inv.sz (I : Inv X pins σ H s) : X.s₀.heap.objs.size ≤ s.heap.objs.size := Nat.le_trans I.ok.above (Nat.le_of_lt I.lt)
theorem Inv.nofs (I : Inv X pins σ H s) {a : Addr} (h : s.heap.objs.size ≤ a) : a ∉ X.fs := fun hb => by
  obtain ⟨_, o, ho, _⟩ := I.ok.funs.mem hb
  exact absurd (Nat.lt_of_lt_of_le (Heap.lt_size ho) (Nat.le_trans I.sz h)) (Nat.lt_irrefl _)
theorem Inv.cne (I : Inv X pins σ H s) : ∀ x c, X.env.cells.lookup x = some c → c ≠ X.env.locals := fun x c e z => by
  obtain ⟨v, o, ho, hd⟩ := I.cell x c e
  obtain ⟨m, ⟨o', es, ep, ho', hd', _⟩, _⟩ := I.loc
  rw [z, ho'] at ho; cases ho; rw [hd'] at hd; cases hd
theorem Inv.funs (I : Inv X pins σ H s) : s.heap.FunFrames X.base X.outer := by
  have all : ∀ (l : List Env), (∀ b ∈ frs l, b ∈ X.fs) → X.s₀.heap.FunFrames X.base l → s.heap.FunFrames X.base l := by
    intro l
    induction l with
    | nil => intro _ _; trivial
    | cons env r ih =>
      intro hs hl
      obtain ⟨hk, ⟨L, o, hf, hn, ho, hd⟩, hr⟩ := hl
      have hL : L ∈ X.fs := hs L (by unfold frs; rw [List.filterMap_cons, hf]; exact List.mem_cons_self)
      obtain ⟨sl, e⟩ := I.base.slot L o ho (I.ok.frf L hL) hL fun z => I.ok.exfs L z hL
      exact ⟨hk, ⟨L, _, hf, hn, e, hd⟩, ih (fun b hb => hs b (by unfold frs; rw [List.filterMap_cons, hf]; exact List.mem_cons_of_mem _ hb)) hr⟩
  exact all X.outer (fun _ hb => hb) I.ok.funs

/-- the frames that run, for a call -/
theorem Inv.stack (I : Inv X pins σ H s) : s.heap.FunFrames X.base X.stack := by
  rcases I.ok.stk with e | ⟨e, hf⟩
  · rw [e]; exact I.funs
  · rw [e]
    obtain ⟨m, hn, _⟩ := I.loc
    refine .cons (by rw [I.ok.kind]; decide) hf hn ?_ I.funs
    exact Heap.get?_none_of_le (Nat.le_trans I.ok.bsz I.ok.above)
theorem Inv.stkSub (I : Inv X pins σ H s) : ∀ b ∈ frs X.stack, b ∈ X.env.locals :: X.fs := fun b hb => by
  rcases I.ok.stk with e | ⟨e, hf⟩
  · rw [e] at hb; exact List.mem_cons_of_mem _ hb
  · rw [e] at hb
    unfold frs at hb
    rw [List.filterMap_cons, hf] at hb
    exact hb
theorem Inv.stkFree (I : Inv X pins σ H s) : ∀ b ∈ frs X.stack, H b = none := fun b hb => by
  rcases List.mem_cons.mp (I.stkSub b hb) with e | hb
  · rw [e]; exact I.free
  · obtain ⟨_, o, ho, _⟩ := I.ok.funs.mem hb
    exact I.base.free b o ho (I.ok.frf b hb) fun z => I.ok.exfs b z hb

/-- THE STEP: the untracked objects but the frame and the records at ch are kept (the callers' frames up to slots), the frame's map is kept, the new abstract heap is held -/
theorem Inv.step {g' : Array GenState} {t' : Nat} {d' : Drawn} {ch : List Addr} (I : Inv X pins σ H s)
    (hch : ∀ b ∈ ch, (b ∈ X.ex ∨ X.s₀.heap.objs.size ≤ b) ∧ b ≠ X.env.locals ∧ (∀ x c, X.env.cells.lookup x = some c → c ≠ b) ∧ ∀ p ∈ X.pn ++ pins, p.1 ≠ b)
    (keep : ∀ b o, b ≠ X.env.locals → b ∉ X.fs → b ∉ ch → s.heap.get? b = some o → H b = none → h'.get? b = some o)
    (slot : ∀ b o, b ≠ X.env.locals → b ∈ X.fs → b ∉ ch → s.heap.get? b = some o → H b = none → ∃ sl, h'.get? b = some { o with slots := sl }) (free : ∀ b o, b ∉ ch → s.heap.get? b = some o → H b = none → H' b = none)
    (there : ∀ b o, b ∉ ch → s.heap.get? b = some o → ∃ o', h'.get? b = some o')
    (tups : ∀ b xs, H b = some (.tup xs) → H' b = some (.tup xs)) (frzs : ∀ b o u, H b = some (.frz o u) → H' b = some (.frz o u)) (tbls : ∀ b ps, H b = some (.tbl ps) → ∃ more, H' b = some (.tbl (ps ++ more)))
    (ns : ∀ m, s.heap.Ns X.env.locals m → h'.Ns X.env.locals m) (hok : HOk X.prog X.w H' h') (hg : AllBare g') :
    Inv X pins σ H' { s with heap := h', gens := g', drawn := d', toks := t' } := by
  have neL : ∀ b o, X.s₀.heap.get? b = some o → b ≠ X.env.locals := fun b o e => Nat.ne_of_lt (Nat.lt_of_lt_of_le (Heap.lt_size e) I.ok.above)
  have neC : ∀ b o, X.s₀.heap.get? b = some o → b ∉ X.ex → b ∉ ch := fun b o e hx hb => by
    rcases (hch b hb).1 with z | z
    · exact hx z
    · exact absurd (Nat.lt_of_lt_of_le (Heap.lt_size e) z) (Nat.lt_irrefl _)
  have cellK : ∀ x c, X.env.cells.lookup x = some c → ∀ v, s.heap.IsCell c v → h'.IsCell c v := fun x c e v ⟨o, ho, hd⟩ => by
    have nch : c ∉ ch := fun z => (hch c z).2.2.1 x c e rfl
    by_cases hc : c ∈ X.fs
    · obtain ⟨sl, q⟩ := slot c o (I.cne x c e) hc nch ho (I.freeC x c e)
      exact ⟨_, q, hd⟩
    · exact ⟨o, keep c o (I.cne x c e) hc nch ho (I.freeC x c e), hd⟩
  refine ⟨I.ok, I.os, hg, ⟨fun b o e n hb hx => ?_, fun b o e n hb hx => ?_, fun b o e n hx => ?_, fun b o e hx => ?_, fun b xs e => tups b xs (I.base.tups b xs e), fun b o xs e => frzs b o xs (I.base.frzs b o xs e), fun b ps e => ?_⟩, ?_, fun x c e => ?_, ?_, fun x c e => ?_, fun p hp => ?_, hok, I.len⟩
  · exact keep b o (neL b o e) hb (neC b o e hx) (I.base.keep b o e n hb hx) (I.base.free b o e n hx)
  · obtain ⟨sl, e1⟩ := I.base.slot b o e n hb hx
    obtain ⟨sl', e2⟩ := slot b _ (neL b o e) hb (neC b o e hx) e1 (I.base.free b o e n hx)
    exact ⟨sl', e2⟩
  · obtain ⟨o', e1⟩ := I.base.there b o e hx
    exact free b o' (neC b o e hx) e1 (I.base.free b o e n hx)
  · obtain ⟨o', e1⟩ := I.base.there b o e hx
    exact there b o' (neC b o e hx) e1
  · obtain ⟨m1, e1⟩ := I.base.tbls b ps e
    obtain ⟨m2, e2⟩ := tbls b _ e1
    exact ⟨m1 ++ m2, by rw [e2, Array.append_assoc]⟩
  · obtain ⟨m, hn, hl⟩ := I.loc
    refine ⟨m, ns m hn, fun i x v e1 e2 e3 => ?_⟩
    obtain ⟨u, r, l⟩ := hl i x v e1 e2 e3
    refine ⟨u, r, ?_⟩
    rcases l with l | ⟨k, c, e, z⟩
    · exact .inl l
    · exact .inr ⟨k, c, e, cellK x c e _ z⟩
  · obtain ⟨v, z⟩ := I.cell x c e
    exact ⟨v, cellK x c e v z⟩
  · obtain ⟨m, ⟨o, _, _, ho, _⟩, _⟩ := I.loc
    exact free _ o (fun z => (hch _ z).2.1 rfl) ho I.free
  · obtain ⟨v, o, ho, hd⟩ := I.cell x c e
    exact free c o (fun z => (hch c z).2.2.1 x c e rfl) ho (I.freeC x c e)
  · obtain ⟨e, n, ne, nf, d⟩ := I.pin p hp
    have nch : p.1 ∉ ch := fun z => (hch p.1 z).2.2.2 p hp rfl
    exact ⟨keep p.1 p.2 ne nf nch e n, free p.1 p.2 nch e n, ne, nf, d⟩
/-- .. where the frame's own object is kept too -/
theorem Inv.un {t' : Nat} (I : Inv X pins σ H s) (u : Un X.fs [] H H' s.heap h') (hok : HOk X.prog X.w H' h') : Inv X pins σ H' { s with heap := h', toks := t' } := by
  obtain ⟨m, ⟨o, es, ep, ho, r⟩, _⟩ := id I.loc
  obtain ⟨sl, hL⟩ := u.any ho I.free (by simp)
  exact I.step (g' := s.gens) (d' := s.drawn) (ch := []) (fun _ z => nomatch z) (fun b o _ hb _ e n => u.keep b o e n hb (by simp)) (fun b o _ hb _ e n => u.slot b o e n hb (by simp)) (fun b o _ e n => u.free b o e n (by simp)) (fun b o _ e => u.there b o e (by simp)) u.tups u.frzs u.tbls (fun m' hm => by
    obtain ⟨o', es', ep', ho', r'⟩ := hm
    rw [ho] at ho'; cases ho'
    exact ⟨_, es', ep', hL, r'⟩) hok I.bare
/-- behind a call (or a comprehension's block): the slots of this frame may have changed too, the records at ch may have turned -/
theorem Inv.call {g' : Array GenState} {t' : Nat} {d' : Drawn} {ch : List Addr} (I : Inv X pins σ H s) (u : Un (frs X.stack) ch H H' s.heap h') (hok : HOk X.prog X.w H' h') (hg : AllBare g')
    (hch : ∀ b ∈ ch, (b ∈ X.ex ∨ X.s₀.heap.objs.size ≤ b) ∧ b ≠ X.env.locals ∧ (∀ x c, X.env.cells.lookup x = some c → c ≠ b) ∧ ∀ p ∈ X.pn ++ pins, p.1 ≠ b) :
    Inv X pins σ H' { s with heap := h', gens := g', drawn := d', toks := t' } := by
  obtain ⟨m, ⟨o, es, ep, ho, r⟩, _⟩ := id I.loc
  obtain ⟨sl, hL⟩ := u.any ho I.free fun z => (hch _ z).2.1 rfl
  exact I.step (ch := ch) hch (fun b o hL hb hc e n => u.keep b o e n (fun z => (List.mem_cons.mp (I.stkSub b z)).elim hL hb) hc) (fun b o _ _ hc e n => u.any e n hc) (fun b o hc e n => u.free b o e n hc) (fun b o hc e => u.there b o e hc) u.tups u.frzs u.tbls (fun m' hm => by
    obtain ⟨o', es', ep', ho', r'⟩ := hm
    rw [ho] at ho'; cases ho'
    exact ⟨_, es', ep', hL, r'⟩) hok hg
/-- an untracked record of ours (an iterator) has turned -/
theorem Inv.turned {t' : Nat} {it : Addr} (I : Inv X pins σ H s) (k : ∀ b o, b ≠ it → s.heap.get? b = some o → h'.get? b = some o) (hn : H it = none) (hL : it ≠ X.env.locals)
    (h1 : it ∈ X.ex ∨ X.s₀.heap.objs.size ≤ it) (h2 : ∀ x c, X.env.cells.lookup x = some c → c ≠ it) (h3 : ∀ p ∈ X.pn ++ pins, p.1 ≠ it) : Inv X pins σ H { s with heap := h', toks := t' } := by
  have nit : ∀ b u, H b = some u → b ≠ it := fun b u e z => by rw [z, hn] at e; cases e
  refine I.step (g' := s.gens) (d' := s.drawn) (ch := [it]) (fun b hb => ?_) (fun b o _ _ hc e _ => k b o (fun z => hc (by simp [z])) e) (fun b o _ _ hc e _ => ⟨o.slots, k b o (fun z => hc (by simp [z])) e⟩) (fun _ _ _ _ n => n)
    (fun b o hc e => ⟨o, k b o (fun z => hc (by simp [z])) e⟩) (fun _ _ e => e) (fun _ _ _ e => e) (fun b ps e => ⟨#[], by rw [e]; simp⟩) (fun m hm => ?_) (fun b u e => ?_) I.bare
  · have e : b = it := by simpa using hb
    subst e
    exact ⟨h1, hL, h2, h3⟩
  · obtain ⟨o, es, ep, ho, r⟩ := hm
    exact ⟨o, es, ep, k _ o (Ne.symm hL) ho, r⟩
  · refine (I.hok b u e).stay (fun c v hc q => k c v ?_ q) (fun _ q => q) fun _ _ q => q
    rcases hc with z | z
    · rw [z]; exact nit b u e
    · exact nit c _ z
theorem Inv.tok (I : Inv X pins σ H s) (t : Nat) : Inv X pins σ H { s with toks := t } := I.un (h' := s.heap) (t' := t) Un.refl I.hok
/-- all objects kept -/
theorem Inv.kept {t' : Nat} (I : Inv X pins σ H s) (k : ∀ b u, s.heap.get? b = some u → h'.get? b = some u) : Inv X pins σ H { s with heap := h', toks := t' } := I.un (Un.kept k) (I.hok.kept k)
/-- a new object laid and tracked -/
theorem Inv.laid {a : Addr} {o : HO} {t' : Nat} (I : Inv X pins σ H s) (k : ∀ b u, s.heap.get? b = some u → h'.get? b = some u) (hp : s.heap.objs.size ≤ a) (new : ObjOk X.prog X.w (upd H a o) h' a o) :
    Inv X pins σ (upd H a o) { s with heap := h', toks := t' } := I.un (Un.laid k hp (I.hok.fresh hp)) (I.hok.laid k hp new)
/-- an object written -/
theorem Inv.write {x e : Addr} {o : HO} {t' : Nat} (I : Inv X pins σ H s) (mu : Mut (H x)) (he : e = x ∨ H e = some (.own x)) (k : ∀ b u, b ≠ e → s.heap.get? b = some u → h'.get? b = some u) (heo : ∃ u, h'.get? e = some u)
    (new : ObjOk X.prog X.w (upd H x o) h' x o) : Inv X pins σ (upd H x o) { s with heap := h', toks := t' } := I.un (Un.write mu he k heo) (I.hok.write mu he k heo new)
/-- forgetting slots, pins -/
theorem Inv.weak {σ' : List (Option V)} (I : Inv X pins σ H s) (hl : σ'.length = σ.length) (w : ∀ (i : Nat) v, σ'[i]? = some (some v) → σ[i]? = some (some v)) : Inv X pins σ' H s :=
  ⟨I.ok, I.os, I.bare, I.base, let ⟨m, hn, hl'⟩ := I.loc; ⟨m, hn, fun i x v e1 e2 e3 => hl' i x v e1 (w i v e2) e3⟩, I.cell, I.free, I.freeC, I.pin, I.hok, hl.trans I.len⟩
theorem Inv.pins_of {pins' : List (Addr × Obj)} (I : Inv X pins σ H s) (h : ∀ p ∈ pins', s.heap.get? p.1 = some p.2 ∧ H p.1 = none ∧ p.1 ≠ X.env.locals ∧ p.1 ∉ X.fs ∧ ∀ v, p.2.data ≠ .cell v) : Inv X pins' σ H s :=
  ⟨I.ok, I.os, I.bare, I.base, I.loc, I.cell, I.free, I.freeC, fun p hp => (List.mem_append.mp hp).elim (fun z => I.pin p (List.mem_append_left _ z)) (h p), I.hok, I.len⟩

theorem nodup_ix {N : List Str} (hN : N.Nodup) {i j : Nat} {x : Str} (a : N[i]? = some x) (b : N[j]? = some x) : i = j := by
  obtain ⟨h1, e1⟩ := List.getElem?_eq_some_iff.mp a
  obtain ⟨h2, e2⟩ := List.getElem?_eq_some_iff.mp b
  exact (List.getElem_inj hN).mp (e1.trans e2.symm)

/-- a name is stored; what changed -/
theorem store_ok2 {M : Model} {A : Around} {E : Value → Shared → Prop} {i : Nat} {x : Str} {v : V} {u : Value} {Q : Unit → Shared → Prop} (I : Inv X pins σ H s) (hN : X.N.Nodup) (hi : X.N[i]? = some x) (hx : Loc X.env.scope x) (r : RelV v u)
    (h : ∀ s', Inv X pins (σ.set i (some v)) H s' → (∃ a, Heap.SameBut a s.heap s'.heap ∧ (a = X.env.locals ∨ X.env.cells.lookup x = some a)) → Q () s') (hf : X.fn x = true ∨ X.env.scope.names.lookup x = some .local := by first | exact .inl rfl | exact .inr rfl | assumption) : wpAny M A (storeName X.env x u) Q E s := by
  obtain ⟨m, hn, hl⟩ := id I.loc
  have hcls : (X.env.scope.kind == .class || (X.env.scope.kind == .module && X.env.locals != X.env.globals)) = false := by rw [I.ok.kind]; rfl
  have hiσ : i < σ.length := by rw [I.len]; exact (List.getElem?_eq_some_iff.mp hi).1
  have cne := I.cne
  have tracked : ∀ {a : Addr} {h' : Heap}, (∃ o, s.heap.get? a = some o ∧ H a = none) → Heap.SameBut a s.heap h' → HOk X.prog X.w H h' := fun {a h'} ha hs b ob e => by
    obtain ⟨_, _, hfree⟩ := ha
    refine (I.hok b ob e).stay (fun c w' hc q => (hs.2 c ?_).trans q) (fun _ q => q) fun _ _ q => q
    rintro rfl
    rcases hc with rfl | hc
    · rw [hfree] at e; cases e
    · rw [hfree] at hc; cases hc
  rcases hx with hk | hk
  · refine wpAny_storeName_local hk hn (fun h' hn' hs => ?_) hcls
    obtain ⟨oL, _, _, hoL, _⟩ := id hn
    refine h _ ⟨I.ok, I.os, I.bare, ⟨fun b o e n hb hx => ?_, fun b o e n hb hx => ?_, I.base.free, fun b o e hx => ?_, I.base.tups, I.base.frzs, I.base.tbls⟩, ⟨_, hn', fun j y v' e1 e2 e3 => ?_⟩, fun y c e => ?_, I.free, I.freeC, fun p hp => ?_, tracked ⟨oL, hoL, I.free⟩ hs, by simpa using I.len⟩ ⟨_, hs, .inl rfl⟩
    · exact (hs.2 b (Nat.ne_of_lt (Nat.lt_of_lt_of_le (Heap.lt_size e) I.ok.above))).trans (I.base.keep b o e n hb hx)
    · obtain ⟨sl, e1⟩ := I.base.slot b o e n hb hx
      exact ⟨sl, (hs.2 b (Nat.ne_of_lt (Nat.lt_of_lt_of_le (Heap.lt_size e) I.ok.above))).trans e1⟩
    · obtain ⟨o', e1⟩ := I.base.there b o e hx
      exact ⟨o', (hs.2 b (Nat.ne_of_lt (Nat.lt_of_lt_of_le (Heap.lt_size e) I.ok.above))).trans e1⟩
    · by_cases hj : j = i
      · subst hj
        rw [hi] at e1; cases e1
        rw [List.getElem?_set_self hiσ] at e2
        cases e2
        exact ⟨u, r, .inl ⟨hk, by simp⟩⟩
      · rw [List.getElem?_set_ne (Ne.symm hj)] at e2
        obtain ⟨u', r', q⟩ := hl j y v' e1 e2 e3
        refine ⟨u', r', ?_⟩
        rcases q with ⟨k, e⟩ | ⟨k, c, e, z⟩
        · refine .inl ⟨k, ?_⟩
          have : y ≠ x := fun e => hj (nodup_ix hN e1 (e ▸ hi))
          simp [this, e]
        · exact .inr ⟨k, c, e, z.sameBut hs (cne y c e)⟩
    · obtain ⟨w', z⟩ := I.cell y c e
      exact ⟨w', z.sameBut hs (cne y c e)⟩
    · obtain ⟨e, n, ne, nf, d⟩ := I.pin p hp
      exact ⟨(hs.2 p.1 ne).trans e, n, ne, nf, d⟩
  · have hfn : X.fn x = true := by
      rcases hf with z | z
      · exact z
      · rw [z] at hk; cases hk
    obtain ⟨c, hc⟩ := I.ok.has x (.inl hk)
    obtain ⟨w', z⟩ := I.cell x c hc
    refine wpAny_storeName_cell I.ok.kind hk hc z (fun h' hc' hs => ?_)
    obtain ⟨oc, hoc, hocd⟩ := id z
    refine h { s with heap := h' } ⟨I.ok, I.os, I.bare, ⟨fun b o e n hb hx => ?_, fun b o e n hb hx => ?_, I.base.free, fun b o e hx => ?_, I.base.tups, I.base.frzs, I.base.tbls⟩, ⟨m, hn.sameBut hs (Ne.symm (cne x c hc)), fun j y v' e1 e2 e3 => ?_⟩, fun y c' e => ?_, I.free, I.freeC, fun p hp => ?_, tracked ⟨oc, hoc, I.freeC x c hc⟩ hs, by simpa using I.len⟩ ⟨c, hs, .inr hc⟩
    · exact (hs.2 b (Nat.ne_of_lt (Nat.lt_of_lt_of_le (Heap.lt_size e) (I.ok.cab x c hfn hc)))).trans (I.base.keep b o e n hb hx)
    · obtain ⟨sl, e1⟩ := I.base.slot b o e n hb hx
      exact ⟨sl, (hs.2 b (Nat.ne_of_lt (Nat.lt_of_lt_of_le (Heap.lt_size e) (I.ok.cab x c hfn hc)))).trans e1⟩
    · obtain ⟨o', e1⟩ := I.base.there b o e hx
      exact ⟨o', (hs.2 b (Nat.ne_of_lt (Nat.lt_of_lt_of_le (Heap.lt_size e) (I.ok.cab x c hfn hc)))).trans e1⟩
    · by_cases hj : j = i
      · subst hj
        rw [hi] at e1; cases e1
        rw [List.getElem?_set_self hiσ] at e2
        cases e2
        exact ⟨u, r, .inr ⟨.inl hk, c, hc, hc'⟩⟩
      · rw [List.getElem?_set_ne (Ne.symm hj)] at e2
        obtain ⟨u', r', q⟩ := hl j y v' e1 e2 e3
        refine ⟨u', r', ?_⟩
        rcases q with q | ⟨k, c', e, z'⟩
        · exact .inl q
        · refine .inr ⟨k, c', e, z'.sameBut hs ?_⟩
          rintro rfl
          exact hj (nodup_ix hN e1 (I.ok.inj _ _ _ e hc ▸ hi))
    · by_cases hcc : c' = c
      · subst hcc; exact ⟨_, hc'⟩
      · obtain ⟨w2, z2⟩ := I.cell y c' e
        exact ⟨w2, z2.sameBut hs hcc⟩
    · obtain ⟨e, n, ne, nf, d⟩ := I.pin p hp
      refine ⟨(hs.2 p.1 ?_).trans e, n, ne, nf, d⟩
      intro q
      rw [q, hoc] at e
      have q' : oc = p.2 := Option.some.inj e
      exact d w' (by rw [← q']; exact hocd)
theorem store_ok {M : Model} {A : Around} {E : Value → Shared → Prop} {i : Nat} {x : Str} {v : V} {u : Value} {Q : Unit → Shared → Prop} (I : Inv X pins σ H s) (hN : X.N.Nodup) (hi : X.N[i]? = some x) (hx : Loc X.env.scope x) (r : RelV v u)
    (h : ∀ s', Inv X pins (σ.set i (some v)) H s' → Q () s') (hf : X.fn x = true ∨ X.env.scope.names.lookup x = some .local := by first | exact .inl rfl | exact .inr rfl | assumption) : wpAny M A (storeName X.env x u) Q E s :=
  store_ok2 I hN hi hx r (fun s' I' _ => h s' I') hf
/-- behind a call or a block, the state as it is -/
theorem Inv.call' {s' : Shared} {ch : List Addr} (I : Inv X pins σ H s) (ho : s'.os = s.os) (u : Un (frs X.stack) ch H H' s.heap s'.heap) (hok : HOk X.prog X.w H' s'.heap) (hg : AllBare s'.gens)
    (hch : ∀ b ∈ ch, (b ∈ X.ex ∨ X.s₀.heap.objs.size ≤ b) ∧ b ≠ X.env.locals ∧ (∀ x c, X.env.cells.lookup x = some c → c ≠ b) ∧ ∀ p ∈ X.pn ++ pins, p.1 ≠ b) : Inv X pins σ H' s' := by
  obtain ⟨h', g', d', t', o'⟩ := s'
  have e : o' = s.os := ho
  subst e
  exact I.call (g' := g') (t' := t') (d' := d') u hok hg hch
end

/-! ### the judgements -/
/-- an exception: its class, its own dict's address (where it has one), the abstract heap behind it -/
abbrev XK := Value → Option Addr → Hp → Prop
abbrev St := List (Option V)
abbrev VK := V → Hp → Prop
/-- an expression's reading; a test's; an argument list's -/
abbrev TE := St → Hp → VK → Prop
abbrev TT := St → Hp → (Bool → Hp → Prop) → Prop
abbrev TA := St → Hp → (List V → Hp → Prop) → Prop
/-- what is wanted behind a statement -/
structure Ends where
  nx : St → Hp → Prop
  rt : VK
  bk : St → Hp → Prop := fun _ _ => False
  ct : St → Hp → Prop := fun _ _ => False
abbrev TS := Ends → St → Hp → Prop

def EP (X : Cx) (pins : List (Addr × Obj)) (σ : St) (Q : VK) (u : Value) (s' : Shared) : Prop := ∃ v H', Inv X pins σ H' s' ∧ RelV v u ∧ Q v H'
def TP (X : Cx) (pins : List (Addr × Obj)) (σ : St) (Q : Bool → Hp → Prop) (b : Bool) (s' : Shared) : Prop := ∃ H', Inv X pins σ H' s' ∧ Q b H'
def AP (X : Cx) (pins : List (Addr × Obj)) (σ : St) (Q : List V → Hp → Prop) (us : List Value) (s' : Shared) : Prop := ∃ vs H', Inv X pins σ H' s' ∧ Vals vs us ∧ Q vs H'
def SP (X : Cx) (pins : List (Addr × Obj)) (D : Ends) (f : Flow) (s' : Shared) : Prop :=
  match f with
  | .next => ∃ σ' H', Inv X pins σ' H' s' ∧ D.nx σ' H'
  | .brk => ∃ σ' H', Inv X pins σ' H' s' ∧ D.bk σ' H'
  | .cont => ∃ σ' H', Inv X pins σ' H' s' ∧ D.ct σ' H'
  | .ret u => ∃ v σ' H', Inv X pins σ' H' s' ∧ RelV v u ∧ D.rt v H'

structure PE (X : Cx) (e : Expr) (t : TE) : Prop where
  run : ∀ (pins : List (Addr × Obj)) (s : Shared) (σ : St) (H : Hp) (Q : VK), Inv X pins σ H s → t σ H Q → wpAny (model X.prog X.w) X.A (eval e X.env) (EP X pins σ Q) X.xe s
instance {X : Cx} {e : Expr} {t : TE} : CoeFun (PE X e t) (fun _ => ∀ (pins : List (Addr × Obj)) (s : Shared) (σ : St) (H : Hp) (Q : VK), Inv X pins σ H s → t σ H Q → wpAny (model X.prog X.w) X.A (eval e X.env) (EP X pins σ Q) X.xe s) := ⟨PE.run⟩

structure PT (X : Cx) (e : Expr) (t : TT) : Prop where
  run : ∀ (pins : List (Addr × Obj)) (s : Shared) (σ : St) (H : Hp) (Q : Bool → Hp → Prop), Inv X pins σ H s → t σ H Q → wpAny (model X.prog X.w) X.A (isTrue e X.env (eval e X.env)) (TP X pins σ Q) X.xe s
instance {X : Cx} {e : Expr} {t : TT} : CoeFun (PT X e t) (fun _ => ∀ (pins : List (Addr × Obj)) (s : Shared) (σ : St) (H : Hp) (Q : Bool → Hp → Prop), Inv X pins σ H s → t σ H Q → wpAny (model X.prog X.w) X.A (isTrue e X.env (eval e X.env)) (TP X pins σ Q) X.xe s) := ⟨PT.run⟩

/-- a test whatever its 'whole' is (and, or) -/
structure PW (X : Cx) (e : Expr) (t : TT) : Prop where
  run : ∀ (whole : Sem Value) (pins : List (Addr × Obj)) (s : Shared) (σ : St) (H : Hp) (Q : Bool → Hp → Prop), Inv X pins σ H s → t σ H Q → wpAny (model X.prog X.w) X.A (isTrue e X.env whole) (TP X pins σ Q) X.xe s
instance {X : Cx} {e : Expr} {t : TT} : CoeFun (PW X e t) (fun _ => ∀ (whole : Sem Value) (pins : List (Addr × Obj)) (s : Shared) (σ : St) (H : Hp) (Q : Bool → Hp → Prop), Inv X pins σ H s → t σ H Q → wpAny (model X.prog X.w) X.A (isTrue e X.env whole) (TP X pins σ Q) X.xe s) := ⟨PW.run⟩

theorem PW.pt {X : Cx} {e : Expr} {t : TT} (h : PW X e t) : PT X e t := ⟨h _⟩
/-- an argument list (no star), from the left -/
structure PA (X : Cx) (es : List Expr) (t : TA) : Prop where
  run : ∀ (pos : Pos) (pins : List (Addr × Obj)) (s : Shared) (σ : St) (H : Hp) (Q : List V → Hp → Prop), Inv X pins σ H s → t σ H Q → wpAny (model X.prog X.w) X.A (spliced (backTo pos (starEach es X.env))) (AP X pins σ Q) X.xe s
instance {X : Cx} {es : List Expr} {t : TA} : CoeFun (PA X es t) (fun _ => ∀ (pos : Pos) (pins : List (Addr × Obj)) (s : Shared) (σ : St) (H : Hp) (Q : List V → Hp → Prop), Inv X pins σ H s → t σ H Q → wpAny (model X.prog X.w) X.A (spliced (backTo pos (starEach es X.env))) (AP X pins σ Q) X.xe s) := ⟨PA.run⟩

structure PS (X : Cx) (st : Stmt) (t : TS) : Prop where
  run : ∀ (pins : List (Addr × Obj)) (s : Shared) (σ : St) (H : Hp) (D : Ends), Inv X pins σ H s → t D σ H → wpAny (model X.prog X.w) X.A (exec st X.env) (SP X pins D) X.xe s
instance {X : Cx} {st : Stmt} {t : TS} : CoeFun (PS X st t) (fun _ => ∀ (pins : List (Addr × Obj)) (s : Shared) (σ : St) (H : Hp) (D : Ends), Inv X pins σ H s → t D σ H → wpAny (model X.prog X.w) X.A (exec st X.env) (SP X pins D) X.xe s) := ⟨PS.run⟩

structure PSs (X : Cx) (st : List Stmt) (t : TS) : Prop where
  run : ∀ (pins : List (Addr × Obj)) (s : Shared) (σ : St) (H : Hp) (D : Ends), Inv X pins σ H s → t D σ H → wpAny (model X.prog X.w) X.A (execs st X.env) (SP X pins D) X.xe s
instance {X : Cx} {st : List Stmt} {t : TS} : CoeFun (PSs X st t) (fun _ => ∀ (pins : List (Addr × Obj)) (s : Shared) (σ : St) (H : Hp) (D : Ends), Inv X pins σ H s → t D σ H → wpAny (model X.prog X.w) X.A (execs st X.env) (SP X pins D) X.xe s) := ⟨PSs.run⟩

/-- weaken the end -/
theorem thn {α : Type} {t : Sem α} {Q Q' : α → Shared → Prop} {M : Model} {A : Around} {E : Value → Shared → Prop} {s : Shared} (h : wpAny M A t Q E s) (hQ : ∀ a s, Q a s → Q' a s) : wpAny M A t Q' E s := wpAny_mono h hQ fun _ _ x => x
end L2

namespace L2
open PySem PySem.Spec PyProof.Rows
section
variable {X : Cx}

/-- two expressions in a row -/
theorem bin {a b : Expr} {ta tb : TE} (ha : PE X a ta) (hb : PE X b tb) {pins : List (Addr × Obj)} {s : Shared} {σ : St} {H : Hp} {R : V → V → Hp → Prop} (I : Inv X pins σ H s) (h : ta σ H fun x H1 => tb σ H1 fun y H2 => R x y H2)
    {α : Type} {Q : α → Shared → Prop} {f : Value → Value → Sem α}
    (hf : ∀ v u s2 x y H2, Inv X pins σ H2 s2 → RelV x v → RelV y u → R x y H2 → wpAny (model X.prog X.w) X.A (f v u) Q X.xe s2) :
    wpAny (model X.prog X.w) X.A (eval a X.env) (fun v s₁ => wpAny (model X.prog X.w) X.A (eval b X.env) (fun u s₂ => wpAny (model X.prog X.w) X.A (f v u) Q X.xe s₂) X.xe s₁) X.xe s := by
  refine thn (ha pins s σ H _ I h) fun v s1 ⟨x, H1, I1, r1, q1⟩ => ?_
  refine thn (hb pins s1 σ H1 _ I1 q1) fun u s2 ⟨y, H2, I2, r2, q2⟩ => ?_
  exact hf v u s2 x y H2 I2 r1 r2 q2

/-! ### names and constants -/
def tVar (i : Nat) : TE := fun σ H Q => ∃ v, σ[i]? = some (some v) ∧ Q v H
def tC (v : V) : TE := fun _ H Q => Q v H
theorem pe_var {i : Nat} {x : Str} {pos : Pos} (hN : X.N[i]? = some x) (hv : Vis X.env.scope x) (hd : (x == ("__debug__" : Str)) = false := by decide) (hcd : (x == ("__classdict__" : Str)) = false := by decide) : PE X (.Name x pos) (tVar i) := by
  refine ⟨?_⟩
  intro pins s σ H Q I h
  obtain ⟨v, e, h⟩ := h
  obtain ⟨m, hn, hl⟩ := I.loc
  obtain ⟨u, r, l⟩ := hl i x v hN e hv
  have fin : EP X pins σ Q u s := ⟨v, H, I, r, h⟩
  rcases l with ⟨hk, hm⟩ | ⟨hk, c, hc, hcell⟩
  · exact wpAny_Name (wpAny_loadName_local I.ok.kind hk hn hm fin) hd
  · rcases hk with hk | hk
    · exact wpAny_Name (wpAny_loadName_cell I.ok.kind hk hc hcell fin) hd
    · exact wpAny_Name (wpAny_loadName_free I.ok.kind hk hc hcell fin hcd) hd
theorem pe_int {i j pos} : PE X (.Constant (.int i) j pos) (tC (.int i)) := ⟨fun _ _ _ H _ I h => wpAny_Constant_int ⟨.int i, H, I.tok _, ⟨_, rfl⟩, h⟩⟩
theorem pe_bl {b j pos} : PE X (.Constant (.bool b) j pos) (tC (.bl b)) := ⟨fun _ _ _ H _ I h => Constant_bool ⟨.bl b, H, I, rfl, h⟩⟩
theorem pe_non {j pos} : PE X (.Constant .none j pos) (tC .non) := ⟨fun _ _ _ H _ I h => Constant_none ⟨.non, H, I, rfl, h⟩⟩
theorem pe_str {x j pos} : PE X (.Constant (.str x) j pos) (tC (.str x)) := ⟨fun _ _ _ H _ I h => Calls.Constant_str ⟨.str x, H, I.tok _, ⟨_, rfl⟩, h⟩⟩

/-- a global name of the def -/
def Gl (X : Cx) (x : Str) : Prop := X.env.kindOf x = some .globalImplicit
theorem ld_glob {E : Value → Shared → Prop} {pins : List (Addr × Obj)} {s : Shared} {σ : St} {H : Hp} {x : Str} {u : Value} {pos : Pos} {Q : Value → Shared → Prop} (I : Inv X pins σ H s) (hg : Gl X x) (hm : X.mg x = some u) (h : Q u s)
    (hd : (x == ("__debug__" : Str)) = false := by decide) : wpAny (model X.prog X.w) X.A (eval (.Name x pos) X.env) Q E s :=
  Calls.Name_function_global I.ok.kind hg (Calls.loadGlobal_global (by rw [I.ok.glob]; exact I.mod.glob.keeps I.bk) hm h) hd
theorem ld_blt {E : Value → Shared → Prop} {pins : List (Addr × Obj)} {s : Shared} {σ : St} {H : Hp} {x : Str} {u : Value} {pos : Pos} {Q : Value → Shared → Prop} (I : Inv X pins σ H s) (hg : Gl X x) (hm : X.mg x = none) (hv : bootBuiltins x = some u) (h : Q u s)
    (hn : x ≠ "__name__" := by decide) (hd : (x == ("__debug__" : Str)) = false := by decide) : wpAny (model X.prog X.w) X.A (eval (.Name x pos) X.env) Q E s := by
  obtain ⟨mb, h1, h2⟩ := I.mod.blt
  exact Calls.Name_function_global I.ok.kind hg (Calls.loadGlobal_builtin (by rw [I.ok.glob]; exact I.mod.glob.keeps I.bk) hm (by rw [I.ok.blt]; exact h1.keeps I.bk) ((h2 x hn).trans hv) h) hd
/-- a module's constant, a class, a function, as a value -/
theorem pe_glob {x : Str} {v : V} {u : Value} {pos : Pos} (hg : Gl X x) (hm : X.mg x = some u) (r : RelV v u) (hd : (x == ("__debug__" : Str)) = false := by decide) : PE X (.Name x pos) (tC v) := ⟨fun _ _ _ H _ I h => ld_glob I hg hm ⟨v, H, I, r, h⟩ hd⟩
theorem pe_bltn {x : Str} {v : V} {u : Value} {pos : Pos} (hg : Gl X x) (hm : X.mg x = none) (hv : bootBuiltins x = some u) (r : RelV v u) (hn : x ≠ "__name__" := by decide) (hd : (x == ("__debug__" : Str)) = false := by decide) : PE X (.Name x pos) (tC v) := ⟨fun _ _ _ H _ I h => ld_blt I hg hm hv ⟨v, H, I, r, h⟩ hn hd⟩

/-! ### arithmetic -/
variable {a b : Expr} {ta tb : TE} {pos : Pos}
/-! ### comparisons -/
structure PC (X : Cx) (op : CmpOp) (a b : Expr) (t : TE) : Prop where
  run : ∀ (pins : List (Addr × Obj)) (s : Shared) (σ : St) (H : Hp) (Q : VK), Inv X pins σ H s → t σ H Q →
    wpAny (model X.prog X.w) X.A (eval a X.env) (fun v s₁ => wpAny (model X.prog X.w) X.A (eval b X.env) (fun u s₂ => wpAny (model X.prog X.w) X.A (compareOp op v u) (EP X pins σ Q) X.xe s₂) X.xe s₁) X.xe s
instance {X : Cx} {op : CmpOp} {a b : Expr} {t : TE} : CoeFun (PC X op a b t) (fun _ => ∀ (pins : List (Addr × Obj)) (s : Shared) (σ : St) (H : Hp) (Q : VK), Inv X pins σ H s → t σ H Q →
    wpAny (model X.prog X.w) X.A (eval a X.env) (fun v s₁ => wpAny (model X.prog X.w) X.A (eval b X.env) (fun u s₂ => wpAny (model X.prog X.w) X.A (compareOp op v u) (EP X pins σ Q) X.xe s₂) X.xe s₁) X.xe s) := ⟨PC.run⟩

theorem nobehind (b : Expr) {op : CmpOp} (h : op ≠ .In) (h2 : op ≠ .NotIn) : behindInMarks op b = false := by
  have e1 : (op == CmpOp.In) = false := by cases op <;> first | rfl | exact absurd rfl h
  have e2 : (op == CmpOp.NotIn) = false := by cases op <;> first | rfl | exact absurd rfl h2
  cases b <;> simp [behindInMarks, e1, e2]
/-- is None -/
def tIsN (ta : TE) : TE := fun σ H Q => ta σ H fun x H1 => Q (.bl (decide (x = .non))) H1
def tNotN (ta : TE) : TE := fun σ H Q => ta σ H fun x H1 => Q (.bl (!decide (x = .non))) H1
theorem RelV.none_iff {x : V} {v : Value} (r : RelV x v) : (v == Value.none) = decide (x = .non) := by
  cases x with
  | non => cases r; rfl
  | bl _ => cases r; rfl
  | int _ => obtain ⟨t, rfl⟩ := r; rfl
  | str _ => obtain ⟨t, rfl⟩ := r; rfl
  | byt _ => obtain ⟨t, rfl⟩ := r; rfl
  | flt _ => obtain ⟨t, rfl⟩ := r; rfl
  | ref _ => cases r; rfl
  | ty _ => cases r; rfl
theorem pc_isN {j pos'} (ha : PE X a ta) : PC X .Is a (.Constant .none j pos') (tIsN ta) := by
  refine ⟨?_⟩
  intro pins s σ H Q I h
  refine thn (ha pins s σ H _ I h) fun v s1 ⟨x, H1, I1, r1, q1⟩ => ?_
  exact Constant_none (is_none_gen ⟨.bl _, H1, I1, by rw [r1.none_iff]; rfl, q1⟩)
theorem pc_notN {j pos'} (ha : PE X a ta) : PC X .IsNot a (.Constant .none j pos') (tNotN ta) := by
  refine ⟨?_⟩
  intro pins s σ H Q I h
  refine thn (ha pins s σ H _ I h) fun v s1 ⟨x, H1, I1, r1, q1⟩ => ?_
  exact Constant_none (isnot_none_gen ⟨.bl _, H1, I1, by rw [r1.none_iff]; rfl, q1⟩)
/-- a comparison as a value, as a test -/
def tB (t : TE) : TT := fun σ H Q => t σ H fun x H1 => ∃ c, x = .bl c ∧ Q c H1
theorem pt_cmp {op : CmpOp} {t : TE} (h : PC X op a b t) (h1 : behindInMarks op b = false := by first | exact nobehind _ (by decide) (by decide) | rfl) : PT X (.Compare a [op] [b] pos) (tB t) := by
  refine ⟨?_⟩
  intro pins s σ H Q I hw
  refine wpAny_isTrue_Compare1 (thn (h pins s σ H _ I hw) fun v s1 h1 => thn h1 fun u s2 h2 => thn h2 fun c s3 ⟨x, H1, I1, r1, q1⟩ => ?_) h1
  obtain ⟨d, rfl, q⟩ := q1
  cases r1
  exact wpAny_truthy_bool ⟨H1, I1, q⟩
/-- an expression whose value is a bool, as a test -/
theorem pt_val {e : Expr} {t : TE} (h : PE X e t) (he : ∀ whole, isTrue e X.env whole = (do let v ← whole; standAt e.pos; holding [v] (truthy v)) := by intro _; rfl) : PT X e (tB t) := by
  refine ⟨?_⟩
  intro pins s σ H Q I hw
  refine isTrue_plain (thn (h pins s σ H _ I hw) fun v s1 ⟨x, H1, I1, r1, q1⟩ => ?_) (he _)
  obtain ⟨d, rfl, q⟩ := q1
  cases r1
  exact wpAny_truthy_bool ⟨H1, I1, q⟩

/-! ### and, or, not -/
variable {tA tB' : TT} {rest : List Expr}
def tAnd (t u : TT) : TT := fun σ H Q => t σ H fun c H1 => if c = true then u σ H1 Q else Q false H1
def tOr (t u : TT) : TT := fun σ H Q => t σ H fun c H1 => if c = true then Q true H1 else u σ H1 Q
def tNot (t : TT) : TT := fun σ H Q => t σ H fun c H1 => Q (!c) H1
theorem pw_and1 (ha : PT X a tA) : PW X (.BoolOp .And [a] pos) tA := by
  refine ⟨?_⟩
  intro wh pins s σ H Q I h
  refine isTrue_and (thn (ha pins s σ H Q I h) fun c s1 e => ?_)
  cases c with
  | true => exact isTrue_and_nil e
  | false => exact e
theorem pw_or1 (ha : PT X a tA) : PW X (.BoolOp .Or [a] pos) tA := by
  refine ⟨?_⟩
  intro wh pins s σ H Q I h
  refine isTrue_or (thn (ha pins s σ H Q I h) fun c s1 e => ?_)
  cases c with
  | false => exact isTrue_or_nil e
  | true => exact e
theorem pw_and (ha : PT X a tA) (hb : PW X (.BoolOp .And (b :: rest) pos) tB') : PW X (.BoolOp .And (a :: b :: rest) pos) (tAnd tA tB') := by
  refine ⟨?_⟩
  intro wh pins s σ H Q I h
  refine isTrue_and (thn (ha pins s σ H _ I h) fun c s1 ⟨H1, I1, q1⟩ => ?_)
  cases c with
  | true => exact hb wh pins s1 σ H1 Q I1 q1
  | false => exact ⟨H1, I1, q1⟩
theorem pw_or (ha : PT X a tA) (hb : PW X (.BoolOp .Or (b :: rest) pos) tB') : PW X (.BoolOp .Or (a :: b :: rest) pos) (tOr tA tB') := by
  refine ⟨?_⟩
  intro wh pins s σ H Q I h
  refine isTrue_or (thn (ha pins s σ H _ I h) fun c s1 ⟨H1, I1, q1⟩ => ?_)
  cases c with
  | true => exact ⟨H1, I1, q1⟩
  | false => exact hb wh pins s1 σ H1 Q I1 q1
theorem pt_not (ha : PT X a tA) : PT X (.UnaryOp .Not a pos) (tNot tA) := by
  refine ⟨?_⟩
  intro pins s σ H Q I h
  exact isTrue_not (ha pins s σ H (fun c H1 => Q (!c) H1) I h)
/-- .. as values (bools) -/
def tAndV (ta tb : TE) : TE := fun σ H Q => ta σ H fun x H1 => ∃ c, x = .bl c ∧ if c = true then tb σ H1 Q else Q (.bl false) H1
def tOrV (ta tb : TE) : TE := fun σ H Q => ta σ H fun x H1 => ∃ c, x = .bl c ∧ if c = true then Q (.bl true) H1 else tb σ H1 Q
def tNotV (ta : TE) : TE := fun σ H Q => ta σ H fun x H1 => ∃ c, x = .bl c ∧ Q (.bl (!c)) H1
theorem pe_one {op} {t : TE} (h : PE X a t) : PE X (.BoolOp op [a] pos) t := ⟨fun pins s σ H Q I hw => BoolOp_one (h pins s σ H Q I hw)⟩
theorem pe_and (ha : PE X a ta) (hb : PE X (.BoolOp .And (b :: rest) pos) tb) : PE X (.BoolOp .And (a :: b :: rest) pos) (tAndV ta tb) := by
  refine ⟨?_⟩
  intro pins s σ H Q I h
  refine BoolOp_and (thn (ha pins s σ H _ I h) fun v s1 ⟨x, H1, I1, r1, q1⟩ => ?_)
  obtain ⟨c, rfl, q1⟩ := q1
  cases r1
  refine wpAny_truthy_bool ?_
  cases c with
  | true => exact hb pins s1 σ H1 Q I1 q1
  | false => exact ⟨.bl false, H1, I1, rfl, q1⟩
theorem pe_or (ha : PE X a ta) (hb : PE X (.BoolOp .Or (b :: rest) pos) tb) : PE X (.BoolOp .Or (a :: b :: rest) pos) (tOrV ta tb) := by
  refine ⟨?_⟩
  intro pins s σ H Q I h
  refine BoolOp_or (thn (ha pins s σ H _ I h) fun v s1 ⟨x, H1, I1, r1, q1⟩ => ?_)
  obtain ⟨c, rfl, q1⟩ := q1
  cases r1
  refine wpAny_truthy_bool ?_
  cases c with
  | false => exact hb pins s1 σ H1 Q I1 q1
  | true => exact ⟨.bl true, H1, I1, rfl, q1⟩
theorem pe_not (ha : PE X a ta) : PE X (.UnaryOp .Not a pos) (tNotV ta) := by
  refine ⟨?_⟩
  intro pins s σ H Q I h
  refine UnaryOp_ (thn (ha pins s σ H _ I h) fun v s1 ⟨x, H1, I1, r1, q1⟩ => ?_)
  obtain ⟨c, rfl, q1⟩ := q1
  cases r1
  exact not_of (wpAny_truthy_bool ⟨.bl (!c), H1, I1, rfl, q1⟩)
/-- a if t else b -/
def tIf (t : TT) (ta tb : TE) : TE := fun σ H Q => t σ H fun c H1 => if c = true then ta σ H1 Q else tb σ H1 Q
theorem pe_ifExp {c : Expr} (hc : PT X c tA) (ha : PE X a ta) (hb : PE X b tb) : PE X (.IfExp c a b pos) (tIf tA ta tb) := by
  refine ⟨?_⟩
  intro pins s σ H Q I h
  refine wpAny_IfExp (thn (hc pins s σ H _ I h) fun d s1 ⟨H1, I1, q1⟩ => ?_)
  cases d with
  | true => exact ha pins s1 σ H1 Q I1 q1
  | false => exact hb pins s1 σ H1 Q I1 q1
end
end L2

namespace L2
open PySem PySem.Spec PyProof.Rows

/-! ### a list, a tuple that is read: tracked, frozen, or an object of the module -/
def SqL (K : PySem.W.Frag) (H : Hp) (a : Addr) (xs : List V) : Prop :=
  Rd H a (.lst xs) ∨
    ∃ (o : Obj) (its : Array Value) (n : Nat), K.lookup a = some o ∧ o.cls = .type "list" ∧ o.dict = none ∧ o.data = .seq its n ∧ its.size ≤ sizeLine ∧ Vals xs its.toList
def SqT (K : PySem.W.Frag) (H : Hp) (a : Addr) (xs : List V) : Prop :=
  Rd H a (.tup xs) ∨
    ∃ (o : Obj) (its : Array Value) (n : Nat), K.lookup a = some o ∧ o.cls = .type "tuple" ∧ o.data = .seq its n ∧ its.size ≤ sizeLine ∧ Vals xs its.toList
def absV : Value → Option V
  | .none => some .non
  | .bool b => some (.bl b)
  | .int i _ => some (.int i)
  | .str x _ => some (.str x)
  | .bytes b _ => some (.byt b)
  | .float b _ => some (.flt b)
  | .ref a => some (.ref a)
  | .type n => some (.ty n)
  | _ => none
theorem RelV.abs {x : V} {u : Value} (r : RelV x u) : absV u = some x := by
  cases x with
  | non => cases r; rfl
  | bl _ => cases r; rfl
  | int _ => obtain ⟨t, rfl⟩ := r; rfl
  | str _ => obtain ⟨t, rfl⟩ := r; rfl
  | byt _ => obtain ⟨t, rfl⟩ := r; rfl
  | flt _ => obtain ⟨t, rfl⟩ := r; rfl
  | ref _ => cases r; rfl
  | ty _ => cases r; rfl
theorem RelV.inj {x y : V} {u : Value} (r : RelV x u) (q : RelV y u) : x = y := Option.some.inj (r.abs.symm.trans q.abs)
theorem Vals.inj : ∀ {xs ys : List V} {us : List Value}, Vals xs us → Vals ys us → xs = ys
  | _, _, _, .nil, .nil => rfl
  | _, _, _, .cons r t, .cons r' t' => by rw [r.inj r', Vals.inj t t']
section
variable {X : Cx} {pins : List (Addr × Obj)} {σ : St} {H : Hp} {s : Shared} {a : Addr} {xs ys : List V}
theorem SqL.of {K : PySem.W.Frag} (h : H a = some (.lst xs)) : SqL K H a xs := .inl (.inl h)
theorem SqT.of {K : PySem.W.Frag} (h : H a = some (.tup xs)) : SqT K H a xs := .inl (.inl h)
theorem Inv.list (I : Inv X pins σ H s) (h : SqL X.K H a xs) : ∃ its : List Value, Vals xs its ∧ PlainL s.heap a its.toArray ∧ xs.length ≤ sizeLine := by
  rcases h with h | ⟨o, its, n, hk, hc, hd, hs, hz, r⟩
  · obtain ⟨z, its, n, r, e⟩ := h.ok I.hok
    exact ⟨its, r, ⟨_, n, e, rfl, rfl, rfl⟩, z⟩
  · refine ⟨its.toList, r, ⟨o, n, I.kIn a o hk, hc, hd, by simpa using hs⟩, ?_⟩
    have e := r.length
    simp only [Array.length_toList] at e
    omega
theorem Inv.tuple (I : Inv X pins σ H s) (h : SqT X.K H a xs) : ∃ its : List Value, Vals xs its ∧ IsTup s.heap a its.toArray ∧ xs.length ≤ sizeLine := by
  rcases h with h | ⟨o, its, n, hk, hc, hs, hz, r⟩
  · obtain ⟨z, its, r, p⟩ := h.ok I.hok
    exact ⟨its, r, p, z⟩
  · refine ⟨its.toList, r, ⟨o, I.kIn a o hk, hc, n, by simpa using hs⟩, ?_⟩
    have e := r.length
    simp only [Array.length_toList] at e
    omega
theorem Inv.list_inj (I : Inv X pins σ H s) (h : SqL X.K H a xs) (h' : SqL X.K H a ys) : xs = ys := by
  obtain ⟨its, r, ⟨o, n, e, _, _, d⟩, _⟩ := I.list h
  obtain ⟨its', r', ⟨o', n', e', _, _, d'⟩, _⟩ := I.list h'
  rw [e] at e'; cases e'
  rw [d] at d'
  injection d' with d1 _
  have : its = its' := by simpa using congrArg Array.toList d1
  subst this
  exact r.inj r'
end

/-! ### another wish about exceptions -/
abbrev Cx.wish (X : Cx) (E : Value → Shared → Prop) : Cx := { X with xe := E }
/-- no exception leaves -/
abbrev Cx.nox (X : Cx) : Cx := X.wish fun _ _ => False
theorem Cx.Ok.wish {X : Cx} (ok : X.Ok) (E : Value → Shared → Prop) : (X.wish E).Ok :=
  ⟨ok.mod, ok.kind, ok.glob, ok.blt, ok.above, ok.inj, ok.has, ok.cab, ok.hd, ok.frames, ok.stk, ok.exf, ok.bs, ok.bsz, ok.noex, ok.exfs, ok.funs, ok.frf⟩
theorem Cx.Ok.unwish {X : Cx} {E : Value → Shared → Prop} (ok : (X.wish E).Ok) : X.Ok :=
  ⟨ok.mod, ok.kind, ok.glob, ok.blt, ok.above, ok.inj, ok.has, ok.cab, ok.hd, ok.frames, ok.stk, ok.exf, ok.bs, ok.bsz, ok.noex, ok.exfs, ok.funs, ok.frf⟩
section
variable {X : Cx} {pins : List (Addr × Obj)} {σ : St} {H : Hp} {s : Shared} {E : Value → Shared → Prop}
theorem Inv.wish (I : Inv X pins σ H s) (E : Value → Shared → Prop) : Inv (X.wish E) pins σ H s := ⟨I.ok.wish E, I.os, I.bare, I.base, I.loc, I.cell, I.free, I.freeC, I.pin, I.hok, I.len⟩
theorem Inv.unwish (I : Inv (X.wish E) pins σ H s) : Inv X pins σ H s := ⟨I.ok.unwish, I.os, I.bare, I.base, I.loc, I.cell, I.free, I.freeC, I.pin, I.hok, I.len⟩
theorem SP.unwish {D : Ends} {f : Flow} {s' : Shared} (h : SP (X.wish E) pins D f s') : SP X pins D f s' := by
  cases f with
  | next => obtain ⟨σ', H', I, q⟩ := h; exact ⟨σ', H', I.unwish, q⟩
  | brk => obtain ⟨σ', H', I, q⟩ := h; exact ⟨σ', H', I.unwish, q⟩
  | cont => obtain ⟨σ', H', I, q⟩ := h; exact ⟨σ', H', I.unwish, q⟩
  | ret u => obtain ⟨v, σ', H', I, r, q⟩ := h; exact ⟨v, σ', H', I.unwish, r, q⟩
theorem PSs.nox {st : List Stmt} {t : TS} (h : PSs X.nox st t) : PSs X st t := ⟨fun pins s σ H D I hw =>
  wpAny_mono (h pins s σ H D (I.wish _) hw) (fun _ _ q => q.unwish) fun _ _ z => False.elim z⟩
end

/-! ### blocks and small statements -/
section
variable {X : Cx} {st : Stmt} {rest : List Stmt} {t u : TS} {e : Expr} {te : TE} {pos : Pos}
def tNext : TS := fun D σ H => D.nx σ H
def tSeq (t u : TS) : TS := fun D σ H => t { D with nx := u D } σ H
theorem pss_nil : PSs X [] tNext := ⟨fun _ _ σ H _ I h => wpAny_execs_nil ⟨σ, H, I, h⟩⟩
theorem pss_cons (h1 : PS X st t) (h2 : PSs X rest u) : PSs X (st :: rest) (tSeq t u) := by
  refine ⟨?_⟩
  intro pins s σ H D I h
  refine wpAny_execs_cons (thn (h1 pins s σ H { D with nx := u D } I h) fun f s1 q => ?_)
  cases f with
  | next =>
    obtain ⟨σ', H', I', q⟩ := q
    exact h2 pins s1 σ' H' D I' q
  | ret v => exact q
  | brk => exact q
  | cont => exact q
theorem pss_one (h1 : PS X st t) : PSs X [st] t := by
  refine ⟨?_⟩
  intro pins s σ H D I h
  refine wpAny_execs_cons (thn (h1 pins s σ H D I h) fun f s1 q => ?_)
  cases f with
  | next => exact wpAny_execs_nil q
  | ret v => exact q
  | brk => exact q
  | cont => exact q
/-- in a def's body nothing is shown -/
theorem Inv.quiet {pins : List (Addr × Obj)} {σ : St} {H : Hp} {s : Shared} (I : Inv X pins σ H s) : interactive X.env = false := by simp [interactive, I.ok.kind]
/-- an expression whose value is dropped -/
def tDrop (te : TE) : TS := fun D σ H => te σ H fun _ H1 => D.nx σ H1
theorem ps_expr (he : PE X e te) (hs : swapsWith e none pos.line X.env = pure false := by rfl) : PS X (.Expr e pos) (tDrop te) := by
  refine ⟨?_⟩
  intro pins s σ H D I h
  exact wpAny_Expr_any (thn (he pins s σ H _ I h) fun v s1 ⟨x, H1, I1, r1, q1⟩ => ⟨σ, H1, I1, q1⟩) I.quiet hs
def tRet (te : TE) : TS := fun D σ H => te σ H D.rt
theorem ps_ret (he : PE X e te) : PS X (.Return (some e) pos) (tRet te) := by
  refine ⟨?_⟩
  intro pins s σ H D I h
  exact wpAny_Return_some (thn (he pins s σ H _ I h) fun v s1 ⟨x, H1, I1, r1, q1⟩ => ⟨x, σ, H1, I1, r1, q1⟩)
def tIfS (c : TT) (t u : TS) : TS := fun D σ H => c σ H fun b H1 => if b = true then t D σ H1 else u D σ H1
theorem ps_if {c : Expr} {a b : List Stmt} {tc : TT} (hc : PT X c tc) (ha : PSs X a t) (hb : PSs X b u) : PS X (.If c a b pos) (tIfS tc t u) := by
  refine ⟨?_⟩
  intro pins s σ H D I h
  refine wpAny_If (thn (hc pins s σ H _ I h) fun d s1 ⟨H1, I1, q1⟩ => ?_)
  cases d with
  | true => exact ha pins s1 σ H1 D I1 q1
  | false => exact hb pins s1 σ H1 D I1 q1
end

/-! ### targets -/
abbrev TG := V → St → Hp → (St → Hp → Prop) → Prop
abbrev TGs := List V → St → Hp → (St → Hp → Prop) → Prop
structure PG (X : Cx) (target : Expr) (t : TG) : Prop where
  run : ∀ (pins : List (Addr × Obj)) (s : Shared) (σ : St) (H : Hp) (v : V) (u : Value) (Q : St → Hp → Prop), Inv X pins σ H s → RelV v u → t v σ H Q →
    wpAny (model X.prog X.w) X.A (assign target X.env u) (fun _ s' => ∃ σ' H', Inv X pins σ' H' s' ∧ Q σ' H') X.xe s
instance {X : Cx} {target : Expr} {t : TG} : CoeFun (PG X target t) (fun _ => ∀ (pins : List (Addr × Obj)) (s : Shared) (σ : St) (H : Hp) (v : V) (u : Value) (Q : St → Hp → Prop), Inv X pins σ H s → RelV v u → t v σ H Q →
    wpAny (model X.prog X.w) X.A (assign target X.env u) (fun _ s' => ∃ σ' H', Inv X pins σ' H' s' ∧ Q σ' H') X.xe s) := ⟨PG.run⟩

/-- several targets, one after another -/
structure PGs (X : Cx) (ts : List Expr) (t : TGs) : Prop where
  run : ∀ (pins : List (Addr × Obj)) (s : Shared) (σ : St) (H : Hp) (vs : List V) (us : List Value) (Q : St → Hp → Prop), Inv X pins σ H s → Vals vs us → t vs σ H Q →
    wpAny (model X.prog X.w) X.A (assignInOrder ((assignEach ts X.env).map (·.2)) us) (fun _ s' => ∃ σ' H', Inv X pins σ' H' s' ∧ Q σ' H') X.xe s
instance {X : Cx} {ts : List Expr} {t : TGs} : CoeFun (PGs X ts t) (fun _ => ∀ (pins : List (Addr × Obj)) (s : Shared) (σ : St) (H : Hp) (vs : List V) (us : List Value) (Q : St → Hp → Prop), Inv X pins σ H s → Vals vs us → t vs σ H Q →
    wpAny (model X.prog X.w) X.A (assignInOrder ((assignEach ts X.env).map (·.2)) us) (fun _ s' => ∃ σ' H', Inv X pins σ' H' s' ∧ Q σ' H') X.xe s) := ⟨PGs.run⟩

section
variable {X : Cx} {pos : Pos}
def gName (i : Nat) : TG := fun v σ H Q => Q (σ.set i (some v)) H
theorem pg_name {i : Nat} {x : Str} (hN : X.N.Nodup) (hi : X.N[i]? = some x) (hx : Loc X.env.scope x) (hf : X.fn x = true ∨ X.env.scope.names.lookup x = some .local := by first | exact .inl rfl | exact .inr rfl | assumption) : PG X (.Name x pos) (gName i) := by
  refine ⟨?_⟩
  intro pins s σ H v u Q I r h
  exact wpAny_assign_Name (store_ok I hN hi hx r (fun s' I' => ⟨_, H, I', h⟩) hf)
def gNil : TGs := fun vs σ H Q => vs = [] ∧ Q σ H
def gCons (t : TG) (u : TGs) : TGs := fun vs σ H Q => ∃ v r, vs = v :: r ∧ t v σ H fun σ' H' => u r σ' H' Q
theorem pgs_nil : PGs X [] gNil := by
  refine ⟨?_⟩
  intro pins s σ H vs us Q I r h
  obtain ⟨e, h⟩ := h
  subst e
  cases r
  exact assignInOrder_nil ⟨σ, H, I, h⟩
theorem pgs_cons {e : Expr} {es : List Expr} {t : TG} {u : TGs} (h1 : PG X e t) (h2 : PGs X es u)
    (hs : (assignEach (e :: es) X.env).map (·.2) = assign e X.env :: (assignEach es X.env).map (·.2) := by rfl) : PGs X (e :: es) (gCons t u) := by
  refine ⟨?_⟩
  intro pins s σ H vs us Q I r h
  obtain ⟨v, vr, e1, h⟩ := h
  subst e1
  cases r with
  | cons r rr =>
    rw [hs]
    refine assignInOrder_cons (thn (h1 pins s σ H _ _ _ I r h) fun _ s1 ⟨σ1, H1, I1, q1⟩ => ?_)
    exact h2 pins s1 σ1 H1 _ _ Q I1 rr q1
/-- (a, b, ..) = a tuple of that length -/
def gTup (K : PySem.W.Frag) (n : Nat) (t : TGs) : TG := fun v σ H Q => ∃ a xs, v = .ref a ∧ SqT K H a xs ∧ xs.length = n ∧ t xs σ H Q
theorem pg_tup {es : List Expr} {k : Nat} {t : TGs} {n : Nat} (hc : X.calm = true) (h : PGs X es t)
    (hn : (assignEach es X.env).length = n := by rfl) (hst : (assignEach es X.env).findIdx? (·.1) = none := by rfl) : PG X (.Tuple es k pos) (gTup X.K n t) := by
  refine ⟨?_⟩
  intro pins s σ H v u Q I r hw
  obtain ⟨a, xs, e1, hq, hl, hw⟩ := hw
  subst e1
  cases r
  obtain ⟨its, rv, ht, hz⟩ := I.tuple hq
  refine assign_Tuple_tuple (I.ok.hd hc) ht (by simp [hn, ← hl, rv.length]) hst fun h' hx => ?_
  have I1 : Inv X pins σ H { s with heap := h' } := I.kept (t' := s.toks) fun b o e => hx b o (Nat.ne_of_lt (Heap.lt_size e)) e
  exact h pins _ σ H xs _ Q I1 (by simpa using rv) hw
/-- target = value -/
def tAsg (te : TE) (g : TG) : TS := fun D σ H => te σ H fun x H1 => g x σ H1 D.nx
theorem ps_asg {tg e : Expr} {te : TE} {g : TG} (he : PE X e te) (hg : PG X tg g) (hs : swapsWithSole [tg] e pos.line X.env = pure false := by rfl) (hw : swappedStores [tg] e X.env = pure none := by rfl)
    (h1 : (assignEach [tg] X.env).map (·.2) = [assign tg X.env] := by rfl) : PS X (.Assign [tg] e pos) (tAsg te g) := by
  refine ⟨?_⟩
  intro pins s σ H D I h
  refine wpAny_Assign_stores (thn (he pins s σ H _ I h) fun v s1 ⟨x, H1, I1, r1, q1⟩ => ?_) hs hw
  rw [h1]
  exact thn (hg pins s1 σ H1 x v _ I1 r1 q1) fun _ s2 q => q
/-- name = value -/
theorem ps_set {i : Nat} {x : Str} {e : Expr} {te : TE} {pos' : Pos} (hN : X.N.Nodup) (hi : X.N[i]? = some x) (hx : Loc X.env.scope x) (he : PE X e te) (hs : swapsWith e (some (.Name x pos')) pos.line X.env = pure false := by rfl) (hf : X.fn x = true ∨ X.env.scope.names.lookup x = some .local := by first | exact .inl rfl | exact .inr rfl | assumption) :
    PS X (.Assign [.Name x pos'] e pos) (tAsg te (gName i)) := by
  refine ⟨?_⟩
  intro pins s σ H D I h
  refine wpAny_Assign_Name (thn (he pins s σ H _ I h) fun v s1 ⟨y, H1, I1, r1, q1⟩ => ?_) hs
  exact store_ok I1 hN hi hx r1 (fun s2 I2 => ⟨_, H1, I2, q1⟩) hf
end

/-! ### while -/
section
variable {X : Cx} {pos : Pos}
end

/-! ### what a loop or a comprehension walks -/
/-- at turn i: it yields x (the heap may grow), or it stops -/
structure It where
  go : Nat → Hp → Prop
  yld : Nat → Hp → V → Hp → Prop
  stop : Nat → Hp → Prop
/-- the iterator's own objects may turn: they are not the frame's, not pinned, younger than the entry (or a comprehension's own) -/
def FpOk (X : Cx) (pins : List (Addr × Obj)) (H : Hp) (b : Addr) : Prop :=
  H b = none ∧ b ≠ X.env.locals ∧ b ∉ X.fs ∧ (b ∈ X.ex ∨ X.s₀.heap.objs.size ≤ b) ∧ (∀ x c, X.env.cells.lookup x = some c → c ≠ b) ∧ ∀ p ∈ X.pn ++ pins, p.1 ≠ b
theorem Inv.fpOk {X : Cx} {pins : List (Addr × Obj)} {σ : St} {H H' : Hp} {s : Shared} {b : Addr} (I : Inv X pins σ H s) (hb : s.heap.objs.size ≤ b) (hn : H' b = none) : FpOk X pins H' b := by
  refine ⟨hn, Nat.ne_of_gt (Nat.lt_of_lt_of_le I.lt hb), I.nofs hb, .inr (Nat.le_trans I.sz hb), fun x c e z => ?_, fun p hp z => ?_⟩
  · obtain ⟨v, q⟩ := I.cell x c e
    exact absurd (Nat.lt_of_lt_of_le q.lt (by rw [z]; exact hb)) (Nat.lt_irrefl _)
  · exact absurd (Nat.lt_of_lt_of_le (Heap.lt_size (I.pin p hp).1) (by rw [z]; exact hb)) (Nat.lt_irrefl _)
structure Turn (P : Program) (w : World) (K : PySem.W.Frag) (tg : Expr) (J : It) (fp : List Addr) (it : Addr) (tn : Nat → Heap → Prop) : Prop where
  mem : it ∈ fp
  obj : ∀ i h, tn i h → ∀ b ∈ fp, ∃ o, h.get? b = some o ∧ ∀ v, o.data ≠ .cell v
  keep : ∀ i h h', tn i h → (∀ b ∈ fp, ∀ o, h.get? b = some o → h'.get? b = some o) → tn i h'
  item : ∀ (X : Cx), X.prog = P → X.w = w → X.K = K → X.calm = true → ∀ (i : Nat) (pins : List (Addr × Obj)) (s : Shared) (σ : St) (H : Hp) (E : Value → Shared → Prop), Inv X pins σ H s → (∀ b ∈ fp, FpOk X pins H b) → tn i s.heap → J.go i H →
    wpAny (model P w) X.A (pyNext (.ref it)) (fun r s1 => ∃ u, r = some u ∧
      wpAny (model P w) X.A (letOwnedTupleGo tg (.ref it) u) (fun _ s2 => ∃ x H', Inv X pins σ H' s2 ∧ RelV x u ∧ J.yld i H x H' ∧ tn (i + 1) s2.heap ∧ ∀ b ∈ fp, H' b = none) E s1) E s
  done : ∀ (X : Cx), X.prog = P → X.w = w → X.K = K → X.calm = true → ∀ (i : Nat) (pins : List (Addr × Obj)) (s : Shared) (σ : St) (H : Hp) (E : Value → Shared → Prop), Inv X pins σ H s → (∀ b ∈ fp, FpOk X pins H b) → tn i s.heap → J.stop i H →
    wpAny (model P w) X.A (pyNext (.ref it)) (fun r s1 => r = none ∧ Inv X pins σ H s1) E s
  self : ∀ (A : Around) (i : Nat) (s : Shared) (Q : Value → Shared → Prop) (E : Value → Shared → Prop), tn i s.heap → Q (.ref it) s → wpAny (model P w) A (pyIter (.ref it)) Q E s
abbrev TI := St → Hp → (It → Hp → Prop) → Prop
/-- an iterator has come -/
def PIE (X : Cx) (pins : List (Addr × Obj)) (σ : St) (tg : Expr) (R : It → Hp → Prop) (itv : Value) (s2 : Shared) : Prop :=
  ∃ (it : Addr) (fp : List Addr) (tn : Nat → Heap → Prop) (J : It) (H' : Hp), itv = .ref it ∧ Inv X pins σ H' s2 ∧ Turn X.prog X.w X.K tg J fp it tn ∧ tn 0 s2.heap ∧ (∀ b ∈ fp, FpOk X pins H' b) ∧ R J H'
structure PI (X : Cx) (tg iter : Expr) (wi : TI) : Prop where
  run : ∀ (pins : List (Addr × Obj)) (s : Shared) (σ : St) (H : Hp) (R : It → Hp → Prop), Inv X pins σ H s → wi σ H R →
    wpAny (model X.prog X.w) X.A (eval iter X.env) (fun v s1 => wpAny (model X.prog X.w) X.A (pyIter v) (PIE X pins σ tg R) X.xe s1) X.xe s
instance {X : Cx} {tg iter : Expr} {wi : TI} : CoeFun (PI X tg iter wi) (fun _ => ∀ (pins : List (Addr × Obj)) (s : Shared) (σ : St) (H : Hp) (R : It → Hp → Prop), Inv X pins σ H s → wi σ H R →
    wpAny (model X.prog X.w) X.A (eval iter X.env) (fun v s1 => wpAny (model X.prog X.w) X.A (pyIter v) (PIE X pins σ tg R) X.xe s1) X.xe s) := ⟨PI.run⟩

/-- the step ahead of the store is nothing for an iterator that keeps no tuple -/
theorem go_of {M : Model} {A : Around} {E : Value → Shared → Prop} {s : Shared} {tg : Expr} {it : Addr} {u : Value} {o : Obj} {n : String} {vs : Array Value} {Q : Unit → Shared → Prop} (ho : s.heap.get? it = some o) (hc : o.cls = .type n) (hd : o.data = .fields vs)
    (hn : ["enumerate", "zip", "dict_itemiterator", "dict_reverseitemiterator", "odict_iterator", "itertools.zip_longest", "itertools.pairwise"].contains n = false) (hQ : Q () s) : wpAny M A (letOwnedTupleGo tg (.ref it) u) Q E s := by
  unfold letOwnedTupleGo
  cases tg <;> first
    | exact wpAny_pure hQ
    | (cases u <;> first
        | exact wpAny_pure hQ
        | (refine wpAny_bind (wpAny_load ho ?_)
           rw [hc, hd]
           show wpAny M A (if (["enumerate", "zip", "dict_itemiterator", "dict_reverseitemiterator", "odict_iterator", "itertools.zip_longest", "itertools.pairwise"].contains n && vs[0]? == some (rawInt _)) = true then _ else _) Q E s
           rw [if_neg (by intro h; rw [hn, Bool.false_and] at h; cases h)]
           exact wpAny_pure hQ))

/-- the list at a, as it stands at each turn (a loop may append to it) -/
def Itl (K : PySem.W.Frag) (a : Addr) : It :=
  ⟨fun i H => ∃ xs x, SqL K H a xs ∧ xs[i]? = some x, fun i H x H' => H' = H ∧ ∀ xs, SqL K H a xs → xs[i]? = some x, fun i H => ∃ xs, SqL K H a xs ∧ xs.length ≤ i⟩
/-- lo, lo + 1, .. (n of them) -/
def Itr (lo : Int) (n : Nat) : It := ⟨fun i _ => i < n, fun i H x H' => H' = H ∧ x = .int (lo + i), fun i _ => n ≤ i⟩
theorem turn_list {P : Program} {w : World} {K : PySem.W.Frag} {tg : Expr} (a it : Addr) : Turn P w K tg (Itl K a) [it] it (fun i h => h.IsListIter it a i) where
  mem := by simp
  obj := fun i h st b hb => by
    have e : b = it := by simpa using hb
    subst e
    obtain ⟨o, e, c, d⟩ := st
    exact ⟨o, e, fun v z => by rw [d] at z; cases z⟩
  keep := fun i h h' st k => st.at fun o e => k it (by simp) o e
  item := by
    intro X hP hw hK hc i pins s σ H E I hf st hg
    subst hP hw hK
    obtain ⟨xs, x, hq, hx⟩ := hg
    obtain ⟨its, rv, p, hz⟩ := I.list hq
    obtain ⟨u, hu, ru⟩ := rv.get hx
    obtain ⟨f0, f1, f2, f3, f4, f5⟩ := hf it (by simp)
    refine wpAny_pyNext_list_item st p.isList (x := u) (by simpa using hu) fun h' st' sb => ?_
    have I1 : Inv X pins σ H { s with heap := h' } := I.turned (t' := s.toks) (fun b o hb e => (sb.2 b hb).trans e) f0 f1 f3 f4 f5
    obtain ⟨o, e, c, d⟩ := id st'
    exact ⟨u, rfl, go_of (s := { s with heap := h' }) e c d (by decide) ⟨x, H, I1, ru, ⟨rfl, fun ys hy => by rw [I.list_inj hy hq]; exact hx⟩, st', fun b hb => (hf b hb).1⟩⟩
  done := by
    intro X hP hw hK hc i pins s σ H E I hf st hg
    subst hP hw hK
    obtain ⟨xs, hq, hx⟩ := hg
    obtain ⟨its, rv, p, hz⟩ := I.list hq
    obtain ⟨f0, f1, f2, f3, f4, f5⟩ := hf it (by simp)
    have hl := rv.length
    exact wpAny_pyNext_list_end (I.ok.hd hc) st p.isList (by simp; omega) fun h' eb => ⟨rfl, I.turned (t' := s.toks) (fun b o hb e => eb b o hb e) f0 f1 f3 f4 f5⟩
  self := fun _ _ _ _ _ st h => wpAny_pyIter_listiter st h
theorem turn_range {P : Program} {w : World} {K : PySem.W.Frag} {tg : Expr} (it : Addr) (lo : Int) (n : Nat) : Turn P w K tg (Itr lo n) [it] it (fun i h => IsRangeIter h it (lo + (i : Nat) * 1) ((n : Int) - (i : Nat)) 1) where
  mem := by simp
  obj := fun i h st b hb => by
    have e : b = it := by simpa using hb
    subst e
    exact ⟨_, st, fun v z => by
      have z' : Data.fields _ = Data.cell v := z
      cases z'⟩
  keep := fun i h h' st k => k it (by simp) _ st
  item := by
    intro X hP hw hK hc i pins s σ H E I hf st hg
    subst hP hw hK
    obtain ⟨f0, f1, f2, f3, f4, f5⟩ := hf it (by simp)
    have W := Walks.range (prog := X.prog) (w := X.w) (I.ok.hd hc) it lo 1 n
    refine W.item i s _ _ hg st fun v h' tk hv st' kk => ?_
    obtain ⟨t, rfl⟩ := hv
    have I1 : Inv X pins σ H { s with heap := h', toks := tk } := I.turned (fun b o hb e => kk b o (by simpa using hb) e) f0 f1 f3 f4 f5
    refine ⟨_, rfl, go_of (s := { s with heap := h', toks := tk }) (n := "range_iterator") st' rfl rfl (by decide) ⟨.int (lo + i), H, I1, ⟨t, ?_⟩, ⟨rfl, rfl⟩, st', fun b hb => (hf b hb).1⟩⟩
    rw [Int.mul_one]
  done := by
    intro X hP hw hK hc i pins s σ H E I hf st hg
    subst hP hw hK
    obtain ⟨f0, f1, f2, f3, f4, f5⟩ := hf it (by simp)
    exact wpAny_pyNext_range_end (I.ok.hd hc) st (by have : n ≤ i := hg; omega) fun h' eb => ⟨rfl, I.turned (t' := s.toks) (fun b o hb e => eb b o hb e) f0 f1 f3 f4 f5⟩
  self := fun _ _ _ _ _ st h => wpAny_pyIter_rangeiter st h
end L2

namespace L2
open PySem PySem.Spec PyProof.Rows
section
variable {X : Cx} {tg : Expr}
def iList (K : PySem.W.Frag) (tl : TE) : TI := fun σ H R => tl σ H fun x H1 => ∃ a, x = .ref a ∧ (∃ xs, SqL K H1 a xs) ∧ R (Itl K a) H1
theorem pi_list {l : Expr} {tl : TE} (hl : PE X l tl) : PI X tg l (iList X.K tl) := by
  refine ⟨?_⟩
  intro pins s σ H R I h
  refine thn (hl pins s σ H _ I h) fun v s1 ⟨x, H1, I1, r1, q1⟩ => ?_
  obtain ⟨a, e, ⟨xs, hq⟩, q⟩ := q1
  subst e
  cases r1
  obtain ⟨its, rv, p, hz⟩ := I1.list hq
  refine wpAny_pyIter_list p.isList ?_
  refine ⟨s1.heap.objs.size, [s1.heap.objs.size], _, _, H1, rfl, I1.kept (t' := s1.toks) fun b o e => Heap.get?_push_of_some _ e, turn_list a _, ⟨_, Heap.get?_push_size _ rfl, rfl, rfl⟩, fun b hb => ?_, q⟩
  have e : b = s1.heap.objs.size := by simpa using hb
  subst e
  exact I1.fpOk (Nat.le_refl _) (I1.hok.fresh (Nat.le_refl _))
/-- a range object just made, walked -/
theorem range_it {pins : List (Addr × Obj)} {σ : St} {H : Hp} {s : Shared} {R : It → Hp → Prop} {E : Value → Shared → Prop} {lo hi : Int} {t u v : Tok} {tk : Nat} (I : Inv X pins σ H s) (h1 : -(2 ^ 62) ≤ lo) (h2 : lo < 2 ^ 62) (h3 : -(2 ^ 62) ≤ hi) (h4 : hi < 2 ^ 62)
    (q : R (Itr lo (hi - lo).toNat) H) : wpAny (model X.prog X.w) X.A (pyIter (.ref s.heap.objs.size)) (PIE X pins σ tg R) E { s with heap := s.heap.push { cls := .type "range", data := .fields #[.int lo t, .int hi u, .int 1 v] }, toks := tk } := by
  refine wpAny_pyIter_range (IsRange.new ..) (small_one h1 h2 h3 h4) ?_
  have I1 : Inv X pins σ H { s with heap := s.heap.push { cls := .type "range", data := .fields #[.int lo t, .int hi u, .int 1 v] }, toks := tk } := I.kept fun b o e => Heap.get?_push_of_some _ e
  refine ⟨(s.heap.push { cls := .type "range", data := .fields #[.int lo t, .int hi u, .int 1 v] }).objs.size, [(s.heap.push { cls := .type "range", data := .fields #[.int lo t, .int hi u, .int 1 v] }).objs.size], _, _, H, rfl,
    I1.kept (t' := tk) fun b o e => Heap.get?_push_of_some _ e, turn_range _ lo (hi - lo).toNat, ?_, fun b hb => ?_, q⟩
  · have e1 : lo + ((0 : Nat) : Int) * 1 = lo := by simp
    have e2 : (((hi - lo).toNat : Nat) : Int) - ((0 : Nat) : Int) = Builtin.Range.rangeSize lo hi 1 := by rw [rangeSize_one]; split <;> omega
    show IsRangeIter _ _ (lo + ((0 : Nat) : Int) * 1) ((((hi - lo).toNat : Nat) : Int) - ((0 : Nat) : Int)) 1
    rw [e1, e2]
    exact Heap.get?_push_size _ rfl
  · have e : b = (s.heap.push { cls := .type "range", data := .fields #[.int lo t, .int hi u, .int 1 v] }).objs.size := by simpa using hb
    subst e
    exact I1.fpOk (Nat.le_refl _) (I1.hok.fresh (Nat.le_refl _))
def iRng1 (ta : TA) : TI := fun σ H R => ta σ H fun vs H1 => ∃ j : Int, vs = [.int j] ∧ -(2 ^ 62) ≤ j ∧ j < 2 ^ 62 ∧ R (Itr 0 j.toNat) H1
theorem pi_range1 {a : Expr} {ta : TA} {p pos : Pos} (hg : Gl X "range") (hm : X.mg "range" = none) (ha : PA X [a] ta) (hs : starEach [a] X.env = [(false, eval a X.env)] := by rfl) : PI X tg (.Call (.Name "range" p) [a] [] pos) (iRng1 ta) := by
  refine ⟨?_⟩
  intro pins s σ H R I h
  refine Call_ (ld_blt I hg hm boot_range (PyProof.Rows.callWith_type1 (thn (ha pos pins s σ H _ I h) fun us s1 ⟨vs, H1, I1, r1, q1⟩ => ?_) hs rfl))
  obtain ⟨j, e, q1, q2, q⟩ := q1
  subst e
  cases r1 with
  | cons r rr =>
    cases rr
    obtain ⟨t, rfl⟩ := r
    exact call_range_1 (range_it I1 (by omega) (by omega) q1 q2 (by simpa using q))
/-! ### for -/
/-- W: the invariant by the turn and a measure; N: what the body is to reach -/
def tFor (wi : TI) (g : TG) (tb : TS) : TS := fun D σ H => wi σ H fun J H1 => ∃ W : Nat → Nat → St → Hp → Prop, (∃ m, W 0 m σ H1) ∧ ∀ i m σ H, W i m σ H →
  (J.stop i H ∧ D.nx σ H) ∨ (J.go i H ∧ ∃ N : St → Hp → Prop, (∀ σ' H', N σ' H' → ∃ m', m' < m ∧ W (i + 1) m' σ' H') ∧ ∀ x H', J.yld i H x H' → g x σ H' fun σ2 H2 => tb { D with nx := N, ct := N, bk := D.nx } σ2 H2)
/-- the records at fp as they stand -/
def pinsAt (fp : List Addr) (h : Heap) : List (Addr × Obj) := fp.filterMap fun b => (h.get? b).map fun o => (b, o)
theorem mem_pinsAt {fp : List Addr} {h : Heap} {b : Addr} {o : Obj} (hb : b ∈ fp) (e : h.get? b = some o) : (b, o) ∈ pinsAt fp h := List.mem_filterMap.mpr ⟨b, hb, by rw [e]; rfl⟩
theorem of_pinsAt {fp : List Addr} {h : Heap} {p : Addr × Obj} (hp : p ∈ pinsAt fp h) : p.1 ∈ fp ∧ h.get? p.1 = some p.2 := by
  obtain ⟨b, hb, e⟩ := List.mem_filterMap.mp hp
  cases q : h.get? b with
  | none => rw [q] at e; cases e
  | some o =>
    rw [q] at e
    have e' : (b, o) = p := Option.some.inj e
    subst e'
    exact ⟨hb, q⟩
theorem Inv.pinned {pins : List (Addr × Obj)} {σ : St} {H : Hp} {s : Shared} {fp : List Addr} (I : Inv X pins σ H s) (hf : ∀ b ∈ fp, FpOk X pins H b) (ho : ∀ b ∈ fp, ∃ o, s.heap.get? b = some o ∧ ∀ v, o.data ≠ .cell v) : Inv X (pins ++ pinsAt fp s.heap) σ H s :=
  I.pins_of fun p hp => (List.mem_append.mp hp).elim (fun z => I.pin p (List.mem_append_right _ z)) fun z => by
    obtain ⟨hb, e⟩ := of_pinsAt z
    obtain ⟨f0, f1, f2, _⟩ := hf p.1 hb
    obtain ⟨o, e', d⟩ := ho p.1 hb
    rw [e] at e'; cases e'
    exact ⟨e, f0, f1, f2, d⟩
theorem Inv.unpinned {pins pl : List (Addr × Obj)} {σ : St} {H : Hp} {s : Shared} (I : Inv X (pins ++ pl) σ H s) : Inv X pins σ H s := I.pins_of fun p hp => I.pin p (List.mem_append_right _ (List.mem_append_left _ hp))
theorem ps_for {iter : Expr} {body : List Stmt} {wi : TI} {g : TG} {tb : TS} {pos : Pos} (hp : PassesOwn (model X.prog X.w) X.A X.env X.xe) (hc : X.calm = true) (hi : PI X tg iter wi) (hg : PG X tg g) (hb : PSs X body tb)
    (hs : ∀ x, foldedSetIterable iter X.env x = pure x := by intro _; rfl) : PS X (.For tg iter body [] pos) (tFor wi g tb) := by
  refine ⟨?_⟩
  intro pins s σ H D I h
  refine wpAny_For (thn (hi pins s σ H _ I h) fun v s1 h1 => thn h1 fun itv s2 h2 => ?_) hs
  obtain ⟨it, fp, tn, J, H2, e, I2, T, st2, f2, W, ⟨m0, w0⟩, turn⟩ := h2
  subst e
  -- what stays true of the iterator's objects through the loop
  have stat : ∀ {H' : Hp}, (∀ b ∈ fp, H' b = none) → ∀ b ∈ fp, FpOk X pins H' b := fun hn b hb => ⟨hn b hb, (f2 b hb).2⟩
  refine codeAny_forLoop_any (fun n s' => ∃ i σ' H', Inv X pins σ' H' s' ∧ tn i s'.heap ∧ (∀ b ∈ fp, H' b = none) ∧ W i n σ' H') ?_ m0 ⟨0, σ, H2, I2, st2, fun b hb => (f2 b hb).1, w0⟩
  rintro n s3 ⟨i, σ3, H3, I3, st3, fr3, w3⟩
  rcases turn i n σ3 H3 w3 with ⟨stop, qn⟩ | ⟨go, N, hN, step⟩
  · refine wpAny_passesOwn hp (thn (T.done X rfl rfl rfl hc i pins s3 σ3 H3 X.xe I3 (stat fr3) st3 stop) fun r s4 ⟨hr, I4⟩ => ?_)
    subst hr
    exact wpAny_execs_nil ⟨σ3, H3, I4, qn⟩
  · refine wpAny_passesOwn hp (thn (T.item X rfl rfl rfl hc i pins s3 σ3 H3 X.xe I3 (stat fr3) st3 go) fun r s4 ⟨u, hr, h4⟩ => ?_)
    subst hr
    refine wpAny_passesOwn hp (thn h4 fun _ s5 ⟨x, H5, I5, r5, y5, st5, fr5⟩ => ?_)
    have I5' := I5.pinned (stat fr5) (T.obj _ _ st5)
    refine wpAny_passesOwn hp (thn (hg _ s5 σ3 H5 x u _ I5' r5 (step x H5 y5)) fun _ s6 ⟨σ6, H6, I6, q6⟩ => ?_)
    refine wpAny_passesOwn hp (thn (hb _ s6 σ6 H6 _ I6 q6) fun f s7 q7 => ?_)
    have again : ∀ {σ7 : St} {H7 : Hp}, Inv X (pins ++ pinsAt fp s5.heap) σ7 H7 s7 → N σ7 H7 → ∃ m, m < n ∧ ∃ i σ' H', Inv X pins σ' H' s7 ∧ tn i s7.heap ∧ (∀ b ∈ fp, H' b = none) ∧ W i m σ' H' := fun {σ7 H7} I7 n7 => by
      obtain ⟨m', hm, w7⟩ := hN σ7 H7 n7
      refine ⟨m', hm, i + 1, σ7, H7, I7.unpinned, T.keep _ _ _ st5 fun b hb o e => (I7.pin (b, o) (List.mem_append_right _ (List.mem_append_right _ (mem_pinsAt hb e)))).1, fun b hb => ?_, w7⟩
      obtain ⟨o, e, d⟩ := T.obj _ _ st5 b hb
      exact (I7.pin (b, o) (List.mem_append_right _ (List.mem_append_right _ (mem_pinsAt hb e)))).2.1
    cases f with
    | next => obtain ⟨σ7, H7, I7, n7⟩ := q7; exact again I7 n7
    | cont => obtain ⟨σ7, H7, I7, n7⟩ := q7; exact again I7 n7
    | brk => obtain ⟨σ7, H7, I7, q7⟩ := q7; exact ⟨σ7, H7, I7.unpinned, q7⟩
    | ret v => obtain ⟨x7, σ7, H7, I7, r7, q7⟩ := q7; exact ⟨x7, σ7, H7, I7.unpinned, r7, q7⟩
end

/-! ### the forms one uses -/
/-- over a list that the body leaves as it is -/
theorem for_list {K : PySem.W.Frag} {a : Addr} {xs : List V} {g : TG} {tb : TS} {D : Ends} {σ : St} {H : Hp} (Pv : Nat → St → Hp → Prop) (h0 : Pv 0 σ H) (hl : ∀ i σ H, i ≤ xs.length → Pv i σ H → SqL K H a xs)
    (hs : ∀ i x σ H, xs[i]? = some x → Pv i σ H → g x σ H fun σ2 H2 => tb { D with nx := Pv (i + 1), ct := Pv (i + 1), bk := D.nx } σ2 H2) (hd : ∀ σ H, Pv xs.length σ H → D.nx σ H) :
    ∃ W : Nat → Nat → St → Hp → Prop, (∃ m, W 0 m σ H) ∧ ∀ i m σ H, W i m σ H →
      ((Itl K a).stop i H ∧ D.nx σ H) ∨ ((Itl K a).go i H ∧ ∃ N : St → Hp → Prop, (∀ σ' H', N σ' H' → ∃ m', m' < m ∧ W (i + 1) m' σ' H') ∧ ∀ x H', (Itl K a).yld i H x H' → g x σ H' fun σ2 H2 => tb { D with nx := N, ct := N, bk := D.nx } σ2 H2) := by
  refine ⟨fun i m σ H => m = xs.length - i ∧ i ≤ xs.length ∧ Pv i σ H, ⟨xs.length, by simp, Nat.zero_le _, h0⟩, ?_⟩
  rintro i m σ H ⟨rfl, hi, p⟩
  have q := hl i σ H hi p
  by_cases hlt : i < xs.length
  · refine .inr ⟨⟨xs, xs[i], q, by simp [hlt]⟩, Pv (i + 1), fun σ' H' p' => ⟨xs.length - (i + 1), by omega, rfl, hlt, p'⟩, fun x H' y => ?_⟩
    obtain ⟨e, y⟩ := y
    subst e
    exact hs i x σ _ (y xs q) p
  · have e : i = xs.length := by omega
    subst e
    exact .inl ⟨⟨xs, q, Nat.le_refl _⟩, hd σ H p⟩
theorem for_range {lo : Int} {n : Nat} {g : TG} {tb : TS} {D : Ends} {σ : St} {H : Hp} (Pv : Nat → St → Hp → Prop) (h0 : Pv 0 σ H)
    (hs : ∀ i σ H, i < n → Pv i σ H → g (.int (lo + i)) σ H fun σ2 H2 => tb { D with nx := Pv (i + 1), ct := Pv (i + 1), bk := D.nx } σ2 H2) (hd : ∀ σ H, Pv n σ H → D.nx σ H) :
    ∃ W : Nat → Nat → St → Hp → Prop, (∃ m, W 0 m σ H) ∧ ∀ i m σ H, W i m σ H →
      ((Itr lo n).stop i H ∧ D.nx σ H) ∨ ((Itr lo n).go i H ∧ ∃ N : St → Hp → Prop, (∀ σ' H', N σ' H' → ∃ m', m' < m ∧ W (i + 1) m' σ' H') ∧ ∀ x H', (Itr lo n).yld i H x H' → g x σ H' fun σ2 H2 => tb { D with nx := N, ct := N, bk := D.nx } σ2 H2) := by
  refine ⟨fun i m σ H => m = n - i ∧ i ≤ n ∧ Pv i σ H, ⟨n, by simp, Nat.zero_le _, h0⟩, ?_⟩
  rintro i m σ H ⟨rfl, hi, p⟩
  by_cases hlt : i < n
  · refine .inr ⟨hlt, Pv (i + 1), fun σ' H' p' => ⟨n - (i + 1), by omega, rfl, hlt, p'⟩, fun x H' y => ?_⟩
    obtain ⟨e, y⟩ := y
    subst e y
    exact hs i σ _ hlt p
  · have e : i = n := by omega
    subst e
    exact .inl ⟨Nat.le_refl _, hd σ H p⟩
end L2

namespace L2
open PySem PySem.Spec PyProof.Rows

abbrev R2 := V → V → Hp → VK → Prop
/-- a two-place operation on values: f is binaryOp op, inplaceOp op or compareOp op -/
def OpR (X : Cx) (f : Value → Value → Sem Value) (r : R2) : Prop :=
  ∀ (pins : List (Addr × Obj)) (s : Shared) (σ : St) (H : Hp) (x y : V) (v u : Value) (Q : VK), Inv X pins σ H s → RelV x v → RelV y u → r x y H Q →
    wpAny (model X.prog X.w) X.A (f v u) (EP X pins σ Q) X.xe s
/-- a one-place operation -/
def UnR (X : Cx) (f : Value → Sem Value) (r : V → Hp → VK → Prop) : Prop :=
  ∀ (pins : List (Addr × Obj)) (s : Shared) (σ : St) (H : Hp) (x : V) (v : Value) (Q : VK), Inv X pins σ H s → RelV x v → r x H Q →
    wpAny (model X.prog X.w) X.A (f v) (EP X pins σ Q) X.xe s
/-- a call of a value that is known (a builtin, a type) with values -/
def CallR (X : Cx) (f : Value) (r : List V → Hp → VK → Prop) : Prop :=
  ∀ (pins : List (Addr × Obj)) (s : Shared) (σ : St) (H : Hp) (xs : List V) (us : List Value) (Q : VK), Inv X pins σ H s → Vals xs us → r xs H Q →
    wpAny (model X.prog X.w) X.A (call f us) (EP X pins σ Q) X.xe s
def tOp (r : R2) (ta tb : TE) : TE := fun σ H Q => ta σ H fun x H1 => tb σ H1 fun y H2 => r x y H2 Q
def tUn (r : V → Hp → VK → Prop) (ta : TE) : TE := fun σ H Q => ta σ H fun x H1 => r x H1 Q
/-- ints in, under C, and a value out -/
def rI (C : Int → Int → Prop) (g : Int → Int → V) : R2 := fun x y H Q => ∃ i j, x = .int i ∧ y = .int j ∧ C i j ∧ Q (g i j) H
def rI0 (g : Int → Int → V) : R2 := fun x y H Q => ∃ i j, x = .int i ∧ y = .int j ∧ Q (g i j) H
def rU (g : Int → V) : V → Hp → VK → Prop := fun x H Q => ∃ i, x = .int i ∧ Q (g i) H

section
variable {X : Cx} {a b c : Expr} {ta tb tc : TE} {pos : Pos}

theorem binT (ha : PE X a ta) (hb : PE X b tb) {pins : List (Addr × Obj)} {s : Shared} {σ : St} {H : Hp} {R : V → V → Hp → Prop} (I : Inv X pins σ H s)
    (h : ta σ H fun x H1 => tb σ H1 fun y H2 => R x y H2) {Q : Value → Shared → Prop} {f : Value → Value → Sem Value}
    (hf : ∀ v u s2 x y H2, Inv X pins σ H2 s2 → RelV x v → RelV y u → R x y H2 → wpAny (model X.prog X.w) X.A (f v u) Q X.xe s2) :
    wpAny (model X.prog X.w) X.A (eval a X.env) (fun v s₁ => wpAny (model X.prog X.w) X.A (eval b X.env) (fun u s₂ => wpAny (model X.prog X.w) X.A (f v u) Q X.xe s₂) X.xe s₁) X.xe s := by
  refine thn (ha pins s σ H _ I h) fun v s1 ⟨x, H1, I1, r1, q1⟩ => ?_
  refine thn (hb pins s1 σ H1 _ I1 q1) fun u s2 ⟨y, H2, I2, r2, q2⟩ => ?_
  exact hf v u s2 x y H2 I2 r1 r2 q2

theorem pe_op {op : Operator} {r : R2} (ho : OpR X (binaryOp op) r) (ha : PE X a ta) (hb : PE X b tb) : PE X (.BinOp a op b pos) (tOp r ta tb) := by
  refine ⟨?_⟩
  intro pins s σ H Q I h
  exact wpAny_BinOp (binT ha hb I h fun v u s2 x y H2 I2 rx ry q => ho pins s2 σ H2 x y v u Q I2 rx ry q)
theorem pe_un {op : UnaryOp} {r : V → Hp → VK → Prop} (ho : UnR X (unaryOp op) r) (ha : PE X a ta) : PE X (.UnaryOp op a pos) (tUn r ta) := by
  refine ⟨?_⟩
  intro pins s σ H Q I h
  exact UnaryOp_ (thn (ha pins s σ H _ I h) fun v s1 ⟨x, H1, I1, r1, q1⟩ => ho pins s1 σ H1 x v Q I1 r1 q1)
/-! ### ints -/
theorem opI {f : Value → Value → Sem Value} {C : Int → Int → Prop} {g : Int → Int → Int}
    (rule : ∀ (i j : Int) (t u : Tok) (s : Shared) (Q : Value → Shared → Prop) (E : Value → Shared → Prop), C i j → Q (.int (g i j) s.toks) { s with toks := s.toks + 1 } → wpAny (model X.prog X.w) X.A (f (.int i t) (.int j u)) Q E s) :
    OpR X f (rI C fun i j => .int (g i j)) := by
  intro pins s σ H x y v u Q I rx ry h
  obtain ⟨i, j, rfl, rfl, hc, q⟩ := h
  obtain ⟨t, rfl⟩ := rx
  obtain ⟨t', rfl⟩ := ry
  exact rule i j t t' s _ _ hc ⟨.int (g i j), H, I.tok _, ⟨_, rfl⟩, q⟩
theorem opI0 {f : Value → Value → Sem Value} {g : Int → Int → Int}
    (rule : ∀ (i j : Int) (t u : Tok) (s : Shared) (Q : Value → Shared → Prop) (E : Value → Shared → Prop), Q (.int (g i j) s.toks) { s with toks := s.toks + 1 } → wpAny (model X.prog X.w) X.A (f (.int i t) (.int j u)) Q E s) :
    OpR X f (rI0 fun i j => .int (g i j)) := by
  intro pins s σ H x y v u Q I rx ry h
  obtain ⟨i, j, rfl, rfl, q⟩ := h
  obtain ⟨t, rfl⟩ := rx
  obtain ⟨t', rfl⟩ := ry
  exact rule i j t t' s _ _ ⟨.int (g i j), H, I.tok _, ⟨_, rfl⟩, q⟩
theorem opB0 {f : Value → Value → Sem Value} {g : Int → Int → Bool}
    (rule : ∀ (i j : Int) (t u : Tok) (s : Shared) (Q : Value → Shared → Prop) (E : Value → Shared → Prop), Q (.bool (g i j)) s → wpAny (model X.prog X.w) X.A (f (.int i t) (.int j u)) Q E s) :
    OpR X f (rI0 fun i j => .bl (g i j)) := by
  intro pins s σ H x y v u Q I rx ry h
  obtain ⟨i, j, rfl, rfl, q⟩ := h
  obtain ⟨t, rfl⟩ := rx
  obtain ⟨t', rfl⟩ := ry
  exact rule i j t t' s _ _ ⟨.bl (g i j), H, I, rfl, q⟩

def CDiv (i j : Int) : Prop := 0 < j ∧ j < 1073741824
def CPow (i j : Int) : Prop := 0 ≤ j ∧ j ≤ 1000000 ∧ i.natAbs < 2 ^ 64
def CMul (i j : Int) : Prop := (-(2 ^ 64) < i ∧ i < 2 ^ 64) ∨ (-(2 ^ 64) < j ∧ j < 2 ^ 64)
theorem CMul.ok {i j : Int} (h : CMul i j) : IntMulOk i j := by
  rcases h with ⟨h1, h2⟩ | ⟨h1, h2⟩
  · exact .of_left (intBits_le_64 h1 h2)
  · exact .of_right (intBits_le_64 h1 h2)
theorem op_add : OpR X (binaryOp .Add) (rI0 fun i j => .int (i + j)) := opI0 fun _ _ _ _ _ _ _ q => add_int q
theorem op_sub : OpR X (binaryOp .Sub) (rI0 fun i j => .int (i - j)) := opI0 fun _ _ _ _ _ _ _ q => sub_int q
theorem op_mul : OpR X (binaryOp .Mult) (rI CMul fun i j => .int (i * j)) := opI fun _ _ _ _ _ _ _ hc q => mul_int q hc.ok
/-- // by a positive divisor -/
theorem op_fdiv : OpR X (binaryOp .FloorDiv) (rI CDiv fun i j => .int (i / j)) := opI fun i j _ _ _ _ _ hc q => by
  have h1 : (0 : Int) < j := hc.1
  have h2 : j < 1073741824 := hc.2
  exact floordiv_int (by omega) (by rw [Int.fdiv_eq_ediv_of_nonneg i (by omega)]; exact q) (.inl (PyProof.noPylong_small (by omega)))
/-- % by a positive divisor of any size -/
theorem op_mod : OpR X (binaryOp .Mod) (rI (fun _ j => 0 < j) fun i j => .int (i % j)) := opI fun i j _ _ _ _ _ hc q => by
  have h1 : (0 : Int) < j := hc
  exact mod_int' (by omega) (by rw [Int.fmod_eq_emod_of_nonneg i (by omega)]; exact q)
theorem op_pow : OpR X (binaryOp .Pow) (rI CPow fun i j => .int (i ^ j.toNat)) := opI fun _ _ _ _ _ _ _ hc q => pow_int_small hc.1 hc.2.1 hc.2.2 q
theorem unI {f : Value → Sem Value} {g : Int → Int}
    (rule : ∀ (i : Int) (t : Tok) (s : Shared) (Q : Value → Shared → Prop) (E : Value → Shared → Prop), Q (.int (g i) s.toks) { s with toks := s.toks + 1 } → wpAny (model X.prog X.w) X.A (f (.int i t)) Q E s) :
    UnR X f (rU fun i => .int (g i)) := by
  intro pins s σ H x v Q I rx h
  obtain ⟨i, rfl, q⟩ := h
  obtain ⟨t, rfl⟩ := rx
  exact rule i t s _ _ ⟨.int (g i), H, I.tok _, ⟨_, rfl⟩, q⟩
theorem un_neg : UnR X (unaryOp .USub) (rU fun i => .int (-i)) := unI fun _ _ _ _ _ q => neg_int q
/-! ### bools among ints: n += (a < b) -/
end

/-! ### comparisons -/
/-- the scalars that == tells apart as data does -/
def scal : V → V → Bool
  | .non, .non => true | .non, .int _ => true | .int _, .non => true | .non, .bl _ => true | .bl _, .non => true | .non, .str _ => true | .str _, .non => true
  | .int _, .int _ => true | .bl _, .bl _ => true | .str _, .str _ => true | .byt _, .byt _ => true
  | .int _, .str _ => true | .str _, .int _ => true | .bl _, .str _ => true | .str _, .bl _ => true
  | _, _ => false
def rEq : R2 := fun x y H Q => scal x y = true ∧ Q (.bl (decide (x = y))) H
def rNe : R2 := fun x y H Q => scal x y = true ∧ Q (.bl (!decide (x = y))) H

theorem dec_int {i j : Int} : decide (V.int i = V.int j) = (i == j) := by
  rw [Bool.eq_iff_iff]
  simp
theorem dec_bl {i j : Bool} : decide (V.bl i = V.bl j) = (i == j) := by
  rw [Bool.eq_iff_iff]
  simp
theorem dec_str {i j : Str} : decide (V.str i = V.str j) = (i == j) := by
  rw [Bool.eq_iff_iff]
  simp
theorem dec_byt {i j : Array UInt8} : decide (V.byt i = V.byt j) = (i.toList == j.toList) := by
  rw [Bool.eq_iff_iff]
  cases i
  cases j
  simp

section
variable {X : Cx} {a b c : Expr} {ta tb tc : TE} {pos : Pos}
theorem fin_bl {pins : List (Addr × Obj)} {σ : St} {H : Hp} {s : Shared} {Q : VK} {k k' : Bool} (I : Inv X pins σ H s) (q : Q (.bl k) H) (e : k = k') : EP X pins σ Q (.bool k') s := by
  subst e
  exact ⟨.bl k, H, I, rfl, q⟩
theorem op_eq : OpR X (compareOp .Eq) rEq := by
  intro pins s σ H x y v u Q I rx ry h
  obtain ⟨hs, q⟩ := h
  cases x with
  | non =>
    cases rx
    cases y with
    | non => cases ry; exact PySem.EqNone.eq_none_none (fin_bl I q (by simp))
    | bl j => cases ry; exact PySem.EqNone.eq_none_bool (fin_bl I q (by simp))
    | int j => obtain ⟨t', rfl⟩ := ry; exact PySem.EqNone.eq_none_int (fin_bl I q (by simp))
    | str j => obtain ⟨t', rfl⟩ := ry; exact PySem.EqNone.eq_none_str (fin_bl I q (by simp))
    | _ => exact absurd (show false = true from hs) Bool.false_ne_true
  | bl i =>
    cases rx
    cases y with
    | non => cases ry; exact PySem.EqNone.eq_bool_none (fin_bl I q (by simp))
    | bl j => cases ry; exact eq_bool (fin_bl I q dec_bl)
    | str j => obtain ⟨t', rfl⟩ := ry; exact PySem.EqMixed.eq_bool_str (fin_bl I q (by simp))
    | _ => exact absurd (show false = true from hs) Bool.false_ne_true
  | int i =>
    obtain ⟨t, rfl⟩ := rx
    cases y with
    | non => cases ry; exact PySem.EqNone.eq_int_none (fin_bl I q (by simp))
    | int j => obtain ⟨t', rfl⟩ := ry; exact eq_int (fin_bl I q dec_int)
    | str j => obtain ⟨t', rfl⟩ := ry; exact PySem.EqMixed.eq_int_str (fin_bl I q (by simp))
    | _ => exact absurd (show false = true from hs) Bool.false_ne_true
  | str i =>
    obtain ⟨t, rfl⟩ := rx
    cases y with
    | non => cases ry; exact PySem.EqNone.eq_str_none (fin_bl I q (by simp))
    | bl j => cases ry; exact PySem.EqMixed.eq_str_bool (fin_bl I q (by simp))
    | int j => obtain ⟨t', rfl⟩ := ry; exact PySem.EqMixed.eq_str_int (fin_bl I q (by simp))
    | str j => obtain ⟨t', rfl⟩ := ry; exact eq_str (fin_bl I q dec_str)
    | _ => exact absurd (show false = true from hs) Bool.false_ne_true
  | byt i =>
    obtain ⟨t, rfl⟩ := rx
    cases y with
    | byt j => obtain ⟨t', rfl⟩ := ry; exact PySem.W.eq_bytes (fin_bl I q dec_byt)
    | _ => exact absurd (show false = true from hs) Bool.false_ne_true
  | _ => cases y <;> exact absurd (show false = true from hs) Bool.false_ne_true
theorem op_ne : OpR X (compareOp .NotEq) rNe := by
  intro pins s σ H x y v u Q I rx ry h
  obtain ⟨hs, q⟩ := h
  cases x with
  | non =>
    cases rx
    cases y with
    | non => cases ry; exact PySem.EqNone.ne_none_none (fin_bl I q (by simp))
    | bl j => cases ry; exact PySem.EqNone.ne_none_bool (fin_bl I q (by simp))
    | int j => obtain ⟨t', rfl⟩ := ry; exact PySem.EqNone.ne_none_int (fin_bl I q (by simp))
    | str j => obtain ⟨t', rfl⟩ := ry; exact PySem.EqNone.ne_none_str (fin_bl I q (by simp))
    | _ => exact absurd (show false = true from hs) Bool.false_ne_true
  | bl i =>
    cases rx
    cases y with
    | non => cases ry; exact PySem.EqNone.ne_bool_none (fin_bl I q (by simp))
    | bl j => cases ry; exact ne_bool (fin_bl I q (congrArg not dec_bl))
    | str j => obtain ⟨t', rfl⟩ := ry; exact PySem.EqMixed.ne_bool_str (fin_bl I q (by simp))
    | _ => exact absurd (show false = true from hs) Bool.false_ne_true
  | int i =>
    obtain ⟨t, rfl⟩ := rx
    cases y with
    | non => cases ry; exact PySem.EqNone.ne_int_none (fin_bl I q (by simp))
    | int j => obtain ⟨t', rfl⟩ := ry; exact ne_int (fin_bl I q (congrArg not dec_int))
    | str j => obtain ⟨t', rfl⟩ := ry; exact PySem.EqMixed.ne_int_str (fin_bl I q (by simp))
    | _ => exact absurd (show false = true from hs) Bool.false_ne_true
  | str i =>
    obtain ⟨t, rfl⟩ := rx
    cases y with
    | non => cases ry; exact PySem.EqNone.ne_str_none (fin_bl I q (by simp))
    | bl j => cases ry; exact PySem.EqMixed.ne_str_bool (fin_bl I q (by simp))
    | int j => obtain ⟨t', rfl⟩ := ry; exact PySem.EqMixed.ne_str_int (fin_bl I q (by simp))
    | str j => obtain ⟨t', rfl⟩ := ry; exact ne_str (fin_bl I q (congrArg not dec_str))
    | _ => exact absurd (show false = true from hs) Bool.false_ne_true
  | byt i =>
    obtain ⟨t, rfl⟩ := rx
    cases y with
    | byt j => obtain ⟨t', rfl⟩ := ry; exact PySem.W.ne_bytes (fin_bl I q (congrArg not dec_byt))
    | _ => exact absurd (show false = true from hs) Bool.false_ne_true
  | _ => cases y <;> exact absurd (show false = true from hs) Bool.false_ne_true

theorem op_lt : OpR X (compareOp .Lt) (rI0 fun i j => .bl (decide (i < j))) := opB0 fun _ _ _ _ _ _ _ q => lt_int q
theorem op_le : OpR X (compareOp .LtE) (rI0 fun i j => .bl (decide (i ≤ j))) := opB0 fun _ _ _ _ _ _ _ q => le_int q
theorem op_gt : OpR X (compareOp .Gt) (rI0 fun i j => .bl (decide (j < i))) := opB0 fun _ _ _ _ _ _ _ q => gt_int q
theorem op_ge : OpR X (compareOp .GtE) (rI0 fun i j => .bl (decide (j ≤ i))) := opB0 fun _ _ _ _ _ _ _ q => ge_int q
/-- the one string within the other -/
theorem op_in_str : OpR X (compareOp .In) (fun x y H Q => ∃ i j, x = .str i ∧ y = .str j ∧ Q (.bl (!(Builtin.Str.occurrences j i 0 j.length 1).isEmpty)) H) := by
  intro pins s σ H x y v u Q I rx ry h
  obtain ⟨i, j, rfl, rfl, q⟩ := h
  obtain ⟨t, rfl⟩ := rx
  obtain ⟨t', rfl⟩ := ry
  exact in_str (fin_bl I q rfl)

/-- two rules for one operation: by cases -/
theorem OpR.or {f : Value → Value → Sem Value} {r r' : R2} (h : OpR X f r) (h' : OpR X f r') : OpR X f (fun x y H Q => r x y H Q ∨ r' x y H Q) := by
  intro pins s σ H x y v u Q I rx ry q
  rcases q with q | q
  · exact h pins s σ H x y v u Q I rx ry q
  · exact h' pins s σ H x y v u Q I rx ry q

theorem nomark (b : Expr) {op : CmpOp} (h : op ≠ .In := by decide) (h2 : op ≠ .NotIn := by decide) : behindInMarks op b = false := by
  have e1 : (op == CmpOp.In) = false := by cases op <;> first | rfl | exact absurd rfl h
  have e2 : (op == CmpOp.NotIn) = false := by cases op <;> first | rfl | exact absurd rfl h2
  cases b <;> simp [behindInMarks, e1, e2]
/-- a comparison as a value; hm: nomark b, or (for in, not in) by with_unfolding_all rfl -/
theorem pe_cmpR {op : CmpOp} {r : R2} (ho : OpR X (compareOp op) r) (ha : PE X a ta) (hb : PE X b tb) (hm : behindInMarks op b = false) : PE X (.Compare a [op] [b] pos) (tOp r ta tb) := by
  refine ⟨?_⟩
  intro pins s σ H Q I h
  exact wpAny_Compare1 (binT ha hb I h fun v u s2 x y H2 I2 rx ry q => ho pins s2 σ H2 x y v u Q I2 rx ry q) hm
/-- a reading of a value as a test -/
def tTest (t : TE) : TT := fun σ H Q => t σ H fun x H' => ∃ k, x = .bl k ∧ Q k H'
theorem pt_cmpR {op : CmpOp} {r : R2} (ho : OpR X (compareOp op) r) (ha : PE X a ta) (hb : PE X b tb) (hm : behindInMarks op b = false) : PT X (.Compare a [op] [b] pos) (tTest (tOp r ta tb)) := by
  refine ⟨?_⟩
  intro pins s σ H Q I h
  refine wpAny_isTrue_Compare1 (thn (ha pins s σ H _ I h) fun v s1 ⟨x, H1, I1, r1, q1⟩ => thn (hb pins s1 σ H1 _ I1 q1) fun u s2 ⟨y, H2, I2, r2, q2⟩ =>
    thn (ho pins s2 σ H2 x y v u _ I2 r1 r2 q2) fun c s3 ⟨z, H3, I3, r3, k, e, q3⟩ => ?_) hm
  subst e
  cases r3
  exact wpAny_truthy_bool ⟨H3, I3, q3⟩
/-- a op1 b op2 c -/
def tChain (r r' : R2) (ta tb tc : TE) : TE := fun σ H Q => ta σ H fun x H1 => tb σ H1 fun y H2 => r x y H2 fun z H3 => ∃ k, z = .bl k ∧
  (if k = true then tc σ H3 fun w' H4 => r' y w' H4 Q else Q (.bl false) H3)
theorem pt_chain {op op' : CmpOp} {r r' : R2} (ho : OpR X (compareOp op) r) (ho' : OpR X (compareOp op') r') (ha : PE X a ta) (hb : PE X b tb) (hc : PE X c tc)
    (hm : lastMarks [op, op'] [b, c] = false := by with_unfolding_all rfl) : PT X (.Compare a [op, op'] [b, c] pos) (tTest (tChain r r' ta tb tc)) := by
  refine ⟨?_⟩
  intro pins s σ H Q I h
  refine isTrue_chain (thn (ha pins s σ H _ I h) fun v s1 ⟨x, H1, I1, r1, q1⟩ => test_link (thn (hb pins s1 σ H1 _ I1 q1) fun u s2 ⟨y, H2, I2, r2, q2⟩ =>
    thn (ho pins s2 σ H2 x y v u _ I2 r1 r2 q2) fun d s3 ⟨z, H3, I3, r3, k, e, q3⟩ => ?_)) hm
  subst e
  cases r3
  refine wpAny_truthy_bool ?_
  cases k with
  | false =>
    obtain ⟨k', e', q'⟩ := q3
    cases e'
    exact ite_ff ⟨H3, I3, q'⟩
  | true =>
    refine ite_tt (test_last (thn (hc pins s3 σ H3 _ I3 q3) fun w' s4 ⟨z', H4, I4, r4, q4⟩ => thn (ho' pins s4 σ H4 y z' u w' _ I4 r2 r4 q4) fun d' s5 ⟨z2, H5, I5, r5, k2, e2, q5⟩ => ?_))
    subst e2
    cases r5
    exact wpAny_truthy_bool ⟨H5, I5, q5⟩

/-! ### truth -/
theorem line63 : (sizeLine : Nat) < 2 ^ 63 := by rw [sizeLine_eq]; decide
/-! ### strs and bytes -/
theorem op_add_str : OpR X (binaryOp .Add) (fun x y H Q => ∃ i j, x = .str i ∧ y = .str j ∧ i.length + j.length ≤ sizeLine ∧ Q (.str (i ++ j)) H) := by
  intro pins s σ H x y v u Q I rx ry h
  obtain ⟨i, j, rfl, rfl, hz, q⟩ := h
  obtain ⟨t, rfl⟩ := rx
  obtain ⟨t', rfl⟩ := ry
  exact add_str (fun t' tk => ⟨.str (i ++ j), H, I.tok _, ⟨_, rfl⟩, q⟩) hz
/-! ### scalar builtins, by CallR -/
theorem vals1 {x : V} {us : List Value} (r : Vals [x] us) : ∃ u, us = [u] ∧ RelV x u := by
  cases r with
  | cons r1 r2 => cases r2; exact ⟨_, rfl, r1⟩
theorem vals2 {x y : V} {us : List Value} (r : Vals [x, y] us) : ∃ u w', us = [u, w'] ∧ RelV x u ∧ RelV y w' := by
  cases r with
  | cons r1 r2 =>
    cases r2 with
    | cons r3 r4 => cases r4; exact ⟨_, _, rfl, r1, r3⟩
theorem call_max2 (hc : X.calm = true) : CallR X (.builtin "max") (fun xs H Q => ∃ i j, xs = [.int i, .int j] ∧ Q (.int (if j > i then j else i)) H) := by
  intro pins s σ H xs us Q I r h
  obtain ⟨i, j, rfl, q⟩ := h
  obtain ⟨u, w', rfl, ⟨t, rfl⟩, ⟨t', rfl⟩⟩ := vals2 r
  refine max_two_ints (I.ok.hd hc) fun h' tk k => ⟨_, H, I.kept k, ?_, q⟩
  by_cases hj : j > i
  · rw [if_pos hj, if_pos hj]; exact ⟨_, rfl⟩
  · rw [if_neg hj, if_neg hj]; exact ⟨_, rfl⟩
theorem call_int1 : CallR X (.type "int") (fun xs H Q => (∃ i, xs = [.int i] ∧ Q (.int i) H) ∨ ∃ k, xs = [.bl k] ∧ Q (.int (if k then 1 else 0)) H) := by
  intro pins s σ H xs us Q I r h
  rcases h with ⟨i, rfl, q⟩ | ⟨k, rfl, q⟩
  · obtain ⟨u, rfl, t, rfl⟩ := vals1 r
    exact call_int_int ⟨.int i, H, I, ⟨_, rfl⟩, q⟩
  · obtain ⟨u, rfl, r1⟩ := vals1 r
    cases r1
    exact call_int_bool ⟨.int (if k then 1 else 0), H, I.tok _, ⟨_, rfl⟩, q⟩
end
end L2

namespace L2
open PySem PySem.Spec PyProof.Rows

/-! ### an instance, its attributes a map -/
structure ObjM (h : Heap) (x dx C : Addr) (mA : Str → Option Value) : Prop where
  obj : h.get? x = some (PySem.W.instObj C dx)
  ns : h.Ns1 dx mA
  ne : dx ≠ x

theorem lookIn_ns {h : Heap} {dx : Addr} {mA : Str → Option Value} (n : h.Ns1 dx mA) : ∃ od, h.get? dx = some od ∧ ∀ name, PySem.W.lookIn name od = some (mA name) := by
  obtain ⟨o, es, ep, ho, hd, hk, _, hm⟩ := n
  refine ⟨o, ho, fun name => ?_⟩
  have e := hm name
  unfold nsFind findBy at e
  rw [← Array.find?_toList] at e
  unfold PySem.W.lookIn
  rw [hd]
  dsimp only
  split
  · rename_i y q
    rw [q] at e
    exact congrArg some e
  · rename_i q
    rw [q] at e
    have a : es.toList.any (·.refKey) = false := by
      rw [List.any_eq_false]
      intro y hy
      obtain ⟨z, t, hkey⟩ := hk y (Array.mem_toList_iff.mp hy)
      simp [DictEntry.refKey, hkey]
    have a' : ¬ es.toList.any (·.refKey) = true := by rw [a]; exact Bool.false_ne_true
    rw [if_neg a']
    exact congrArg some e

theorem ObjM.look {h : Heap} {x dx C : Addr} {mA : Str → Option Value} (I : ObjM h x dx C mA) : ∃ od, PySem.W.InstAt h x (PySem.W.instObj C dx) C (some od) ∧ ∀ name, PySem.W.lookIn name od = some (mA name) :=
  let ⟨od, ho, hl⟩ := lookIn_ns I.ns
  ⟨od, ⟨I.obj, rfl, rfl, ho⟩, hl⟩

section
variable {prog : Program} {w : World} {A : Around} {E : Value → Shared → Prop} {s : Shared} {K : PySem.W.Frag} {x dx C f : Addr} {mA : Str → Option Value} {name : Str} {v : Value}

theorem get_map {expr : Bool} {Q : Value → Shared → Prop} (X : K.In s.heap) (I : ObjM s.heap x dx C mA) (hg : PySem.W.plainGet K C name = true) (hh : PySem.W.hasDictIn K C = true)
    (ha : PySem.W.findIn K (.ref C) name = some none) (hv : mA name = some v) (hv' : PySem.W.handedIn v = true) (h : Q v { s with toks := s.toks + 1 }) :
    wpAny (model prog w) A (getAttr (.ref x) name expr) Q E s := by
  obtain ⟨od, J, hl⟩ := I.look
  exact PySem.W.get_value X J (PySem.W.plainGet_of hg).1 (PySem.W.findObj_own hh ha rfl (by rw [hl, hv])) hv' h

theorem get_meth {pl : Sem Bool} {Q : Value × List Value → Shared → Prop} (X : K.In s.heap) (I : ObjM s.heap x dx C mA) (hg : PySem.W.plainGet K C name = true)
    (hf : PySem.W.findIn K (.ref C) name = some (some (.ref f))) (ht : PySem.W.isFn K (.ref f) = true) (hv : mA name = none) (h : Q (.ref f, [.ref x]) s) :
    wpAny (model prog w) A (getMethod (.ref x) name pl) Q E s := by
  obtain ⟨od, J, hl⟩ := I.look
  exact PySem.W.method_fn X J (PySem.W.plainGet_of hg).1 (PySem.W.plainGet_of hg).2 hf (beq_iff_eq.mp ht) (by show (PySem.W.lookIn name od).map (·.isSome) = some false; rw [hl, hv]; rfl) h

theorem set_map {ns : List Str} {Q : Unit → Shared → Prop} (X : K.In s.heap) (I : ObjM s.heap x dx C mA)
    (hs : PySem.W.findIn K (.ref C) "__setattr__" = some (some (.builtin "object.__setattr__"))) (hp : PySem.W.plainOver K C = true) (ht : PySem.W.takerIn K C name = some none) (hh : PySem.W.hasDictIn K C = true)
    (hw : PySem.Within mA ns) (hsz : ns.length ≤ sizeLine)
    (h : ∀ h', ObjM h' x dx C (fun y => if y = name then some v else mA y) → Heap.SameBut dx s.heap h' → Q () { s with heap := h', toks := s.toks + 2 }) :
    wpAny (model prog w) A (setAttr (.ref x) name v) Q E s := by
  obtain ⟨od, J, hl⟩ := I.look
  refine PySem.W.set_plain X J hs (PySem.W.osa_open (s := { s with toks := s.toks + 1 }) (r := none) X J hp ht fun b => ?_)
  obtain ⟨cd, hc, hd'⟩ := PySem.W.any_some hh
  have hx : s.heap.get? x = some ⟨.ref C, some dx, .plain, #[]⟩ := I.obj
  refine wpAny_bind (wpAny_pure (wpAny_bind (wpAny_bind (wpAny_loadPart hx (wpAny_bind (PySem.W.Looks.here (s := { s with toks := s.toks + 1 }) (PySem.W.looks_clsIn X hc) ?_))))))
  rw [hd']
  refine wpAny_pure (a := some dx) (wpAny_bind (wpAny_pure (wpAny_bind ?_)))
  refine wpAny_nsSet1 (s := { s with toks := s.toks + 1 }) I.ns fun h' hn2 hs2 => ?_
  obtain ⟨oD, esD, epD, hoD, hdD, hcD⟩ := hn2.count (PySem.Within.cons name v hw)
  refine wpAny_bind (wpAny_lookBehind hoD (by rw [hdD]; exact pastItsLine_dict (Nat.le_trans hcD (by rw [List.length_cons]; omega))) ?_)
  exact wpAny_pure (h _ ⟨(hs2.2 _ (Ne.symm I.ne)).trans I.obj, hn2, I.ne⟩ hs2)

/-- C(..): the dict at the heap's end, the instance behind it; then its __init__ -/
theorem make_map {R : Result → Shared → Prop} {vs : List Value} {kw : List (Str × Value)} (X : K.In s.heap) (hm : PySem.W.makesIn K C = true)
    (hi : PySem.W.findIn K (.ref C) "__init__" = some (some (.ref f))) (hf : PySem.W.typeIn K (.ref f) = some (.type "function"))
    (h : codeAny (model prog w) (A.under (.builtin "type.__call__" ⟨.ref C :: vs, kw⟩)) (.call (.ref f) ⟨.ref (s.heap.objs.size + 1) :: vs, kw⟩) (PySem.W.InitBack (s.heap.objs.size + 1) R)
      { s with heap := (s.heap.push PySem.W.emptyDict).push (PySem.W.instObj C s.heap.objs.size) }) :
    codeAny (model prog w) A (.call (.ref C) ⟨vs, kw⟩) R s := by
  obtain ⟨hh, g, d, t, os⟩ := s
  exact PySem.W.make_core (PySem.W.makes_of X hm) (PySem.W.looks_findIn X hi) (fun self => PySem.W.bind_fn X self hf) (.inl rfl) h
/-- C() where there is no __init__ but object's -/
theorem make_map0 {R : Result → Shared → Prop} (X : K.In s.heap) (hm : PySem.W.makesIn K C = true)
    (hi : PySem.W.findIn K (.ref C) "__init__" = some (some (.builtin "object.__init__")))
    (hb : ∀ self, PySem.W.Looks (model prog w) s.heap (bindSpecial (.builtin "object.__init__") self) (.builtin "object.__init__", [self]))
    (h : codeAny (model prog w) (A.under (.builtin "type.__call__" ⟨[.ref C], []⟩)) (.call (.builtin "object.__init__") ⟨[.ref (s.heap.objs.size + 1)], []⟩) (PySem.W.InitBack (s.heap.objs.size + 1) R)
      { s with heap := (s.heap.push PySem.W.emptyDict).push (PySem.W.instObj C s.heap.objs.size) }) :
    codeAny (model prog w) A (.call (.ref C) ⟨[], []⟩) R s := by
  obtain ⟨hh, g, d, t, os⟩ := s
  exact PySem.W.make_core (PySem.W.makes_of X hm) (PySem.W.looks_findIn X hi) hb (.inr ⟨rfl, rfl⟩) h
end

/-! ### the attributes as a list of pairs -/
def putF (f : Str) (v : V) : List (Str × V) → List (Str × V)
  | [] => [(f, v)]
  | (g, x) :: r => if g = f then (g, v) :: r else (g, x) :: putF f v r
theorem lookup_putF (f g : Str) (v : V) : ∀ fs : List (Str × V), (putF f v fs).lookup g = if g = f then some v else fs.lookup g
  | [] => by
    show List.lookup g [(f, v)] = _
    by_cases h : g = f
    · have hb : (g == f) = true := beq_iff_eq.mpr h
      simp only [List.lookup, hb, if_pos h]
    · have hb : (g == f) = false := beq_eq_false_iff_ne.mpr h
      simp only [List.lookup, hb, if_neg h]
  | (k, x) :: r => by
    have ih := lookup_putF f g v r
    rw [show putF f v ((k, x) :: r) = (if k = f then (k, v) :: r else (k, x) :: putF f v r) from rfl]
    by_cases hk : k = f
    · rw [if_pos hk]
      by_cases h : g = k
      · have hb : (g == k) = true := beq_iff_eq.mpr h
        simp only [List.lookup, hb, if_pos (h.trans hk)]
      · have hb : (g == k) = false := beq_eq_false_iff_ne.mpr h
        simp only [List.lookup, hb, if_neg (fun e : g = f => h (e.trans hk.symm))]
    · rw [if_neg hk]
      by_cases h : g = k
      · have hb : (g == k) = true := beq_iff_eq.mpr h
        simp only [List.lookup, hb, if_neg (fun e : g = f => hk (h.symm.trans e))]
      · have hb : (g == k) = false := beq_eq_false_iff_ne.mpr h
        simp only [List.lookup, hb]
        exact ih
theorem keys_putF (f : Str) (v : V) : ∀ fs : List (Str × V), f ∈ (putF f v fs).map (·.1) ∧ ∀ g, g ∈ fs.map (·.1) → g ∈ (putF f v fs).map (·.1)
  | [] => ⟨by simp [putF], fun g h => by simp at h⟩
  | (k, x) :: r => by
    obtain ⟨i1, i2⟩ := keys_putF f v r
    rw [show putF f v ((k, x) :: r) = (if k = f then (k, v) :: r else (k, x) :: putF f v r) from rfl]
    by_cases hk : k = f
    · rw [if_pos hk]
      subst hk
      exact ⟨by simp, fun g h => by simpa using h⟩
    · rw [if_neg hk]
      refine ⟨?_, fun g h => ?_⟩
      · rw [List.map_cons]
        exact List.mem_cons_of_mem _ i1
      · rw [List.map_cons] at h ⊢
        rcases List.mem_cons.mp h with e | e
        · exact List.mem_cons.mpr (.inl e)
        · exact List.mem_cons_of_mem _ (i2 g e)
theorem length_putF (f : Str) (v : V) : ∀ fs : List (Str × V), (putF f v fs).length ≤ fs.length + 1
  | [] => by simp [putF]
  | (k, x) :: r => by
    have ih := length_putF f v r
    rw [show putF f v ((k, x) :: r) = (if k = f then (k, v) :: r else (k, x) :: putF f v r) from rfl]
    by_cases hk : k = f
    · rw [if_pos hk, List.length_cons, List.length_cons]; omega
    · rw [if_neg hk, List.length_cons, List.length_cons]; omega

theorem RelO.some_of {v : V} {o : Option Value} (r : RelO (some v) o) : ∃ u, o = some u ∧ RelV v u := by
  cases o with
  | none => exact (show False from r).elim
  | some u => exact ⟨u, rfl, r⟩
theorem RelO.none_of {o : Option Value} (r : RelO none o) : o = none := by
  cases o with
  | none => rfl
  | some u => exact (show False from r).elim
theorem handed_of {v : V} {u : Value} (r : RelV v u) : PySem.W.handedIn u = true := by
  cases v with
  | non => cases (show u = Value.none from r); rfl
  | bl b => cases (show u = Value.bool b from r); rfl
  | int i => obtain ⟨t, e⟩ := (show ∃ t, u = Value.int i t from r); cases e; rfl
  | str x => obtain ⟨t, e⟩ := (show ∃ t, u = Value.str x t from r); cases e; rfl
  | byt b => obtain ⟨t, e⟩ := (show ∃ t, u = Value.bytes b t from r); cases e; rfl
  | flt b => obtain ⟨t, e⟩ := (show ∃ t, u = Value.float b t from r); cases e; rfl
  | ref a => cases (show u = Value.ref a from r); rfl
  | ty n => cases (show u = Value.type n from r); rfl

section
variable {P : Program} {w : World} {H H' : Hp} {h h' : Heap} {a C dx : Addr} {fs fs' : List (Str × V)}
theorem ins_get (hok : HOk P w H h) (e : H a = some (.ins C dx fs)) : ∃ mA, ObjM h a dx C mA ∧ (∀ f, RelO (fs.lookup f) (mA f)) ∧ PySem.Within mA (fs.map (·.1)) ∧ fs.length ≤ 1000 ∧ H dx = some (.own a) := by
  obtain ⟨d, z, ne, ob, mA, n, r, q⟩ := (show ObjOk P w H h a (.ins C dx fs) from hok a _ e)
  exact ⟨mA, ⟨ob, n, ne⟩, r, q, z, d⟩
end

/-! ### what of the text a class must have -/
structure Cls (K : PySem.W.Frag) (C : Addr) : Prop where
  pg : PySem.W.plainGet K C Str.empty = true
  hd : PySem.W.hasDictIn K C = true
  po : PySem.W.plainOver K C = true
  sa : PySem.W.findIn K (.ref C) "__setattr__" = some (some (.builtin "object.__setattr__"))
theorem Cls.get {K : PySem.W.Frag} {C : Addr} (c : Cls K C) (f : Str) : PySem.W.plainGet K C f = true := c.pg
/-- no class of it has the name -/
def NoAttr (K : PySem.W.Frag) (C : Addr) (f : Str) : Prop := PySem.W.findIn K (.ref C) f = some none
theorem NoAttr.taker {K : PySem.W.Frag} {C : Addr} {f : Str} (n : NoAttr K C f) : PySem.W.takerIn K C f = some none := by
  unfold PySem.W.takerIn
  rw [show PySem.W.findIn K (.ref C) f = some none from n]
  rfl
/-- a method: a plain def of the class or of one above it -/
structure Meth (K : PySem.W.Frag) (C : Addr) (m : Str) (f : Addr) : Prop where
  at_ : PySem.W.findIn K (.ref C) m = some (some (.ref f))
  fn : PySem.W.isFn K (.ref f) = true
  kp : PySem.W.keepIn K (.ref f) = true

section
variable {X : Cx} {pins : List (Addr × Obj)} {σ : St} {H : Hp} {s : Shared} {a C dx : Addr} {fs : List (Str × V)} {f : Str} {v : V} {A : Around} {E : Value → Shared → Prop}

theorem getattr_ok {b : Bool} {Q : Value → Shared → Prop} (I : Inv X pins σ H s) (e : H a = some (.ins C dx fs)) (c : Cls X.K C) (n : NoAttr X.K C f) (l : fs.lookup f = some v)
    (h : ∀ u s', Inv X pins σ H s' → RelV v u → Q u s') : wpAny (model X.prog X.w) A (getAttr (.ref a) f b) Q E s := by
  obtain ⟨mA, O, r, _, _, _⟩ := ins_get I.hok e
  obtain ⟨u, hu, ru⟩ := RelO.some_of (v := v) (o := mA f) (by rw [← l]; exact r f)
  exact get_map I.kIn O (c.get f) c.hd n hu (handed_of ru) (h u _ (I.tok _) ru)

theorem getmeth_ok {m : Str} {g : Addr} {pl : Sem Bool} {Q : Value × List Value → Shared → Prop} (I : Inv X pins σ H s) (e : H a = some (.ins C dx fs)) (c : Cls X.K C) (k : Meth X.K C m g) (l : fs.lookup m = none)
    (h : Q (.ref g, [.ref a]) s) : wpAny (model X.prog X.w) A (getMethod (.ref a) m pl) Q E s := by
  obtain ⟨mA, O, r, _, _, _⟩ := ins_get I.hok e
  have hn : mA m = none := RelO.none_of (by rw [← l]; exact r m)
  exact get_meth I.kIn O (c.get m) k.at_ k.fn hn h

theorem setattr_ok {y : V} {u : Value} {Q : Unit → Shared → Prop} (I : Inv X pins σ H s) (e : H a = some (.ins C dx fs)) (c : Cls X.K C) (n : NoAttr X.K C f) (hl : fs.length < 1000) (ry : RelV y u)
    (h : ∀ s', Inv X pins σ (upd H a (.ins C dx (putF f y fs))) s' → Q () s') : wpAny (model X.prog X.w) A (setAttr (.ref a) f u) Q E s := by
  obtain ⟨mA, O, r, wi, _, ho⟩ := ins_get I.hok e
  have hz : (fs.map (·.1)).length ≤ sizeLine := by rw [List.length_map, sizeLine_eq]; omega
  refine set_map I.kIn O c.sa c.po n.taker c.hd wi hz fun h' O' sb => h _ ?_
  have hd : ∃ o, h'.get? dx = some o := let ⟨o, _, _, e', _⟩ := O'.ns; ⟨o, e'⟩
  refine I.write (x := a) (e := dx) (by rw [e]; exact True.intro) (.inr ho) (fun b q hb z => (sb.2 b hb).trans z) hd ?_
  refine ⟨by rw [upd_ne O.ne]; exact ho, ?_, O.ne, O'.obj, _, O'.ns, fun g => ?_, fun g hg => ?_⟩
  · have := length_putF f y fs; omega
  · show RelO ((putF f y fs).lookup g) (if g = f then some u else mA g)
    rw [lookup_putF]
    by_cases q : g = f
    · rw [if_pos q, if_pos q]; exact ry
    · rw [if_neg q, if_neg q]; exact r g
  · by_cases q : g = f
    · rw [q]; exact (keys_putF f y fs).1
    · refine (keys_putF f y fs).2 g (wi g fun z => hg ?_)
      show (if g = f then some u else mA g) = none
      rw [if_neg q]; exact z

/-- a new instance, tracked, without attributes -/
theorem Inv.made (I : Inv X pins σ H s) : Inv X pins σ (upd (upd H s.heap.objs.size (.own (s.heap.objs.size + 1))) (s.heap.objs.size + 1) (.ins C s.heap.objs.size []))
    { s with heap := (s.heap.push PySem.W.emptyDict).push (PySem.W.instObj C s.heap.objs.size) } := by
  have e1 : (s.heap.push PySem.W.emptyDict).get? s.heap.objs.size = some PySem.W.emptyDict := Heap.get?_push_size s.heap rfl
  have e2 : ((s.heap.push PySem.W.emptyDict).push (PySem.W.instObj C s.heap.objs.size)).get? (s.heap.objs.size + 1) = some (PySem.W.instObj C s.heap.objs.size) := by
    have := Heap.get?_push_size (s.heap.push PySem.W.emptyDict) (o := PySem.W.instObj C s.heap.objs.size) rfl
    rwa [Heap.size_push] at this
  have e3 : (s.heap.push PySem.W.emptyDict).Ns s.heap.objs.size (fun _ => none) := ⟨PySem.W.emptyDict, #[], _, e1, rfl, (fun e he => absurd he (by simp)), fun _ => rfl⟩
  have I1 := I.laid (a := s.heap.objs.size) (o := .own (s.heap.objs.size + 1)) (h' := s.heap.push PySem.W.emptyDict) (t' := s.toks) (fun b u q => Heap.get?_push_of_some _ q) (Nat.le_refl _) ⟨_, e1⟩
  refine I1.laid (a := s.heap.objs.size + 1) (o := .ins C s.heap.objs.size []) (t' := s.toks) (fun b u q => Heap.get?_push_of_some _ q) (Nat.le_of_eq (Heap.size_push _ _)) ?_
  have ne : s.heap.objs.size ≠ s.heap.objs.size + 1 := Nat.ne_of_lt (Nat.lt_succ_self _)
  refine ⟨by rw [upd_ne ne, upd_same], Nat.zero_le _, ne, e2, fun _ => none, (Heap.Ns1.of_empty e3).at fun o q => Heap.get?_push_of_some _ q, fun _ => True.intro, fun y hy => absurd rfl hy⟩

/-- e.f where nothing but the object is asked: through attributeBase (super) and the last hold -/
theorem attr_of {prog : Program} {w : World} {env : Env} {e : Expr} {f : Str} {pos : Pos} {s : Shared} {Q : Value → Shared → Prop} (hb : attributeBase e f env (eval e env) = eval e env)
    (h : wpAny (model prog w) A (eval e env) (fun o s₁ => wpAny (model prog w) A (getAttr o f true) Q E s₁) E s) : wpAny (model prog w) A (eval (.Attribute e f pos) env) Q E s :=
  Attribute_any_ h (by rw [arm_eval_Attribute, hb])
end

/-! ### readings and rules -/
/-- e.f, an attribute of the instance -/
def tFld (K : PySem.W.Frag) (ta : TE) (f : Str) : TE := fun σ H Q => ta σ H fun x H1 => ∃ a C dx fs v, x = .ref a ∧ H1 a = some (.ins C dx fs) ∧ Cls K C ∧ NoAttr K C f ∧ fs.lookup f = some v ∧ Q v H1
/-- e.f = value -/
def sFld (K : PySem.W.Frag) (ta tv : TE) (f : Str) : TS := fun D σ H => tv σ H fun y H1 => ta σ H1 fun x H2 => ∃ a C dx fs, x = .ref a ∧ H2 a = some (.ins C dx fs) ∧ Cls K C ∧ NoAttr K C f ∧ fs.length < 1000 ∧
  D.nx σ (upd H2 a (.ins C dx (putF f y fs)))
/-- an augmented operator on two values -/
def InOp (X : Cx) (op : Operator) (rd : V → V → Hp → VK → Prop) : Prop :=
  ∀ (pins : List (Addr × Obj)) (s : Shared) (σ : St) (H : Hp) (x y : V) (u v : Value) (Q : VK), Inv X pins σ H s → RelV x u → RelV y v → rd x y H Q → wpAny (model X.prog X.w) X.A (inplaceOp op u v) (EP X pins σ Q) X.xe s
/-- e.f op= value -/
def sFldAug (K : PySem.W.Frag) (ta tv : TE) (rd : V → V → Hp → VK → Prop) (f : Str) : TS := fun D σ H => ta σ H fun x H1 => ∃ a C dx fs v, x = .ref a ∧ H1 a = some (.ins C dx fs) ∧ Cls K C ∧ NoAttr K C f ∧ fs.lookup f = some v ∧
  tv σ H1 fun y H2 => rd v y H2 fun z H3 => ∃ dx' fs', H3 a = some (.ins C dx' fs') ∧ fs'.length < 1000 ∧ D.nx σ (upd H3 a (.ins C dx' (putF f z fs')))

section
variable {X : Cx} {o e value : Expr} {f : Str} {pos pos' tpos : Pos} {ta tv : TE}
theorem pe_fld (he : PE X e ta) (hb : attributeBase e f X.env (eval e X.env) = eval e X.env) : PE X (.Attribute e f pos) (tFld X.K ta f) := by
  refine ⟨?_⟩
  intro pins s σ H Q I h
  refine attr_of hb (thn (he pins s σ H _ I h) fun u s1 ⟨x, H1, I1, rx, a, C, dx, fs, v, ex, ea, c, n, l, q⟩ => ?_)
  subst ex
  obtain rfl : u = Value.ref a := rx
  exact getattr_ok I1 ea c n l fun u' s2 I2 ru => ⟨v, H1, I2, ru, q⟩
theorem ps_fld (ha : PE X o ta) (hv : PE X value tv) (hs : swapsWith value (some (.Attribute o f pos')) pos.line X.env = pure false) : PS X (.Assign [.Attribute o f pos'] value pos) (sFld X.K ta tv f) := by
  refine ⟨?_⟩
  intro pins s σ H D I h
  refine plainObj_wpAny_Assign_Attribute (thn (hv pins s σ H _ I h) fun u s1 ⟨y, H1, I1, ry, q⟩ => thn (ha pins s1 σ H1 _ I1 q) fun ov s2 ⟨x, H2, I2, rx, a, C, dx, fs, ex, ea, c, n, l, q2⟩ => ?_) hs
  subst ex
  obtain rfl : ov = Value.ref a := rx
  exact setattr_ok I2 ea c n l ry fun s3 I3 => ⟨σ, _, I3, q2⟩
theorem ps_fldaug {op : Operator} {rd : V → V → Hp → VK → Prop} (ha : PE X o ta) (hv : PE X value tv) (hop : InOp X op rd) : PS X (.AugAssign (.Attribute o f tpos) op value pos) (sFldAug X.K ta tv rd f) := by
  refine ⟨?_⟩
  intro pins s σ H D I h
  refine wpAny_AugAssign_AttributeAny (thn (ha pins s σ H _ I h) fun ov s1 ⟨x, H1, I1, rx, a, C, dx, fs, v, ex, ea, c, n, l, q⟩ => ?_)
  subst ex
  obtain rfl : ov = Value.ref a := rx
  refine getattr_ok I1 ea c n l fun u s2 I2 ru => thn (hv pins s2 σ H1 _ I2 q) fun w3 s3 ⟨y, H2, I3, ry, q3⟩ => thn (hop pins s3 σ H2 v y u w3 _ I3 ru ry q3) fun w4 s4 ⟨z, H3, I4, rz, dx', fs', ea', l', q4⟩ => ?_
  exact setattr_ok I4 ea' c n l' rz fun s5 I5 => ⟨σ, _, I5, q4⟩
def rAdd : V → V → Hp → VK → Prop := fun x y H Q => ∃ i j, x = .int i ∧ y = .int j ∧ Q (.int (i + j)) H
theorem in_add : InOp X .Add rAdd := by
  rintro pins s σ H x y u v Q I rx ry ⟨i, j, rfl, rfl, q⟩
  obtain ⟨t, rfl⟩ := (show ∃ t, u = Value.int i t from rx)
  obtain ⟨t', rfl⟩ := (show ∃ t', v = Value.int j t' from ry)
  exact PyProof.Rows.iadd_int ⟨.int (i + j), H, I.tok _, ⟨_, rfl⟩, q⟩
/-- what is between an instance and its method: the tree of a method call -/
theorem methcall_of {pl : Sem Bool} {m : Str} {apos : Pos} {args : List Expr} {pins : List (Addr × Obj)} {s : Shared} {σ : St} {H : Hp} {Q : Value → Shared → Prop} {te : TE} (he : PE X e te) (I : Inv X pins σ H s)
    (h : te σ H fun x H1 => ∃ a C dx fs g, x = .ref a ∧ H1 a = some (.ins C dx fs) ∧ Cls X.K C ∧ Meth X.K C m g ∧ fs.lookup m = none ∧
      ∀ s1, Inv X pins σ H1 s1 → wpAny (model X.prog X.w) X.A (callWith pos (.ref g) [.ref a] (backTo pos (starEach args X.env)) (backToKw pos (keywordEach [] X.env))) Q X.xe s1)
    (ht : eval (.Call (.Attribute e m apos) args [] pos) X.env = (do
      let ov ← eval e X.env
      standAt apos.atName
      let (f, first) ← holding [ov] (getMethod ov m pl)
      callWith pos f first (backTo pos (starEach args X.env)) (backToKw pos (keywordEach [] X.env)))) :
    wpAny (model X.prog X.w) X.A (eval (.Call (.Attribute e m apos) args [] pos) X.env) Q X.xe s := by
  refine PySem.W.methodCall_KW (pl := pl) (thn (he pins s σ H _ I h) fun u s1 ⟨x, H1, I1, rx, a, C, dx, fs, g, ex, ea, c, k, l, q⟩ => ?_) ht
  subst ex
  obtain rfl : u = Value.ref a := rx
  exact getmeth_ok I1 ea c k l (q s1 I1)
end

/-! ### isinstance -/
section
variable {X : Cx} {pins : List (Addr × Obj)} {σ : St} {H : Hp} {s : Shared} {A : Around} {E : Value → Shared → Prop} {Q : Value → Shared → Prop} {c : Value} {b : Bool}
/-- the type of a value, as the fragment's deciders take it; for an instance its class -/
inductive TyOf (K : PySem.W.Frag) (H : Hp) : V → Value → Prop where
  | non : TyOf K H .non (.type "NoneType")
  | bl (x : Bool) : TyOf K H (.bl x) (.type "bool")
  | int (i : Int) : TyOf K H (.int i) (.type "int")
  | str (x : Str) : TyOf K H (.str x) (.type "str")
  | flt (x : UInt64) : TyOf K H (.flt x) (.type "float")
  | lst {a : Addr} {xs : List V} (e : H a = some (.lst xs)) : TyOf K H (.ref a) (.type "list")
  | frz {a : Addr} {o : Obj} {xs : List V} (e : H a = some (.frz o (.lst xs))) : TyOf K H (.ref a) (.type "list")
  | tup {a : Addr} {xs : List V} (e : H a = some (.tup xs)) : TyOf K H (.ref a) (.type "tuple")
  | dK {a : Addr} {kvs : List (Key × V)} (e : H a = some (.dK kvs)) : TyOf K H (.ref a) (.type "dict")
  | dT {a : Addr} {kvs : List (List Key × V)} (e : H a = some (.dT kvs)) : TyOf K H (.ref a) (.type "dict")
  | ins {a C dx : Addr} {fs : List (Str × V)} (e : H a = some (.ins C dx fs)) (cl : Cls K C) (ha : PySem.W.findIn K (.ref C) "__class__" = some (some (.builtin "object.__class__")))
      (hn : PySem.W.specialIn K (.builtin "object.__class__") "__get__" = some (some (.builtin "getset_descriptor.__get__"))) (htk : PySem.W.takesIn K (.builtin "object.__class__") = some true)
      (hm : PySem.W.mroIn K C (.type "object") = some true) : TyOf K H (.ref a) (.ref C)
/-- isinstance(x, c) for one class c, a built-in or an own one: kitOne's answer -/
theorem isinst_ok {x : V} {u t : Value} (I : Inv X pins σ H s) (rx : RelV x u) (ty : TyOf X.K H x t) (e : PySem.W.kitOne X.K t c = some b) (h : ∀ tk, Q (.bool b) { s with toks := tk }) :
    wpAny (model X.prog X.w) A (call (.builtin "isinstance") [u, c]) Q E s := by
  cases ty with
  | non => cases (show u = Value.none from rx); exact PySem.W.kia_one PySem.W.kitx_none I.kIn True.intro e (fun z => nomatch z) h
  | bl y => cases (show u = Value.bool y from rx); exact PySem.W.kia_one PySem.W.kitx_bool I.kIn True.intro e (fun z => nomatch z) h
  | int i => obtain ⟨t, q⟩ := (show ∃ t, u = Value.int i t from rx); cases q; exact PySem.W.kia_one PySem.W.kitx_int I.kIn True.intro e (fun z => nomatch z) h
  | str y => obtain ⟨t, q⟩ := (show ∃ t, u = Value.str y t from rx); cases q; exact PySem.W.kia_one PySem.W.kitx_str I.kIn True.intro e (fun z => nomatch z) h
  | flt y => obtain ⟨t, q⟩ := (show ∃ t, u = Value.float y t from rx); cases q; exact PySem.W.kia_one PySem.W.kitx_float I.kIn True.intro e (fun z => nomatch z) h
  | @lst a xs ea =>
    cases (show u = Value.ref a from rx)
    obtain ⟨_, _, n, _, h1⟩ := (show ObjOk X.prog X.w H s.heap a (.lst xs) from I.hok a _ ea)
    exact PySem.W.kia_one PySem.W.kitx_list I.kIn ⟨_, h1, rfl⟩ e (fun z => nomatch z) h
  | @frz a ob xs ea =>
    cases (show u = Value.ref a from rx)
    obtain ⟨_, _, _, n, _, h1⟩ := (show ObjOk X.prog X.w H s.heap a (.frz ob (.lst xs)) from I.hok a _ ea)
    exact PySem.W.kia_one PySem.W.kitx_list I.kIn ⟨_, h1, rfl⟩ e (fun z => nomatch z) h
  | @tup a xs ea =>
    cases (show u = Value.ref a from rx)
    obtain ⟨_, _, _, p⟩ := (show ObjOk X.prog X.w H s.heap a (.tup xs) from I.hok a _ ea)
    obtain ⟨o, h1, h2, _⟩ := p
    exact PySem.W.kia_one PySem.W.kitx_tuple I.kIn ⟨o, h1, h2⟩ e (fun z => nomatch z) h
  | @dK a kvs ea =>
    cases (show u = Value.ref a from rx)
    obtain ⟨_, _, vs, _, p⟩ := (show ObjOk X.prog X.w H s.heap a (.dK kvs) from I.hok a _ ea)
    obtain ⟨o, es, ep, h1, h2, _⟩ := p
    exact PySem.W.kia_one PySem.W.kitx_dict I.kIn ⟨o, h1, h2.1⟩ e (fun z => nomatch z) h
  | @dT a kvs ea =>
    cases (show u = Value.ref a from rx)
    obtain ⟨_, _, xs, _, o, es, ep, h1, h2, _⟩ := (show ObjOk X.prog X.w H s.heap a (.dT kvs) from I.hok a _ ea)
    exact PySem.W.kia_one PySem.W.kitx_dict I.kIn ⟨o, h1, h2.1⟩ e (fun z => nomatch z) h
  | @ins a C dx fs ea cl ha hn htk hm =>
    cases (show u = Value.ref a from rx)
    obtain ⟨mA, O, _⟩ := ins_get I.hok ea
    obtain ⟨od, J, _⟩ := O.look
    exact PySem.W.kia_one (PySem.W.kitx_own (cl.get _) cl.hd ha hn htk hm) I.kIn J e (fun z => nomatch z) h
end
end L2

namespace L2
open PySem PySem.Spec PyProof.Rows

/-! ### room -/
structure Room (k : Nat) (A : Around) : Prop where
  hd : A.handled = none
  dp : A.depth + 3 * k + 5 < recursionLimit
  un : A.units + 16 * k + 200 < cLine
theorem Room.mono {j k : Nat} {A : Around} (r : Room k A) (h : j ≤ k) : Room j A := ⟨r.hd, by have := r.dp; omega, by have := r.un; omega⟩
theorem Room.deeper {k : Nat} {A : Around} (r : Room (k + 1) A) (env : Env) : Room k (A.deeper env) :=
  ⟨r.hd, by have := r.dp; show A.depth + 1 + 3 * k + 5 < _; omega, by have := r.un; show A.units + 3 + 16 * k + 200 < _; omega⟩
theorem make_depth {A : Around} {C : Addr} {us : List Value} {kw : List (Str × Value)} : (A.under (.builtin "type.__call__" ⟨.ref C :: us, kw⟩)).depth = A.depth + 1 := by
  first | rfl | simp [Around.under, Code.weight, Code.isCreation, Code.isGuard, Code.isCaller, Code.frames, Code.isFrame, guardIds]
theorem make_units {A : Around} {C : Addr} {us : List Value} {kw : List (Str × Value)} : (A.under (.builtin "type.__call__" ⟨.ref C :: us, kw⟩)).units = A.units + 1 := by
  first | rfl | simp [Around.under, Code.cUnits, Code.frames, Code.isFrame]
theorem Room.make {k : Nat} {A : Around} (r : Room (k + 1) A) (C : Addr) (us : List Value) (kw : List (Str × Value)) : Room k (A.under (.builtin "type.__call__" ⟨.ref C :: us, kw⟩)) :=
  ⟨r.hd, by have := r.dp; rw [make_depth]; omega, by have := r.un; rw [make_units]; omega⟩
theorem Room.depth {k : Nat} {A : Around} (r : Room k A) : A.depth < recursionLimit := by have := r.dp; omega
theorem Room.units {k : Nat} {A : Around} (r : Room k A) : A.units + 64 < cLine := by have := r.un; omega
theorem Room.units0 {k : Nat} {A : Around} (r : Room k A) : A.units < cLine := by have := r.un; omega

/-! ### argument lists and displays -/
def tNil : TA := fun _ H Q => Q [] H
def tCons (ta : TE) (tr : TA) : TA := fun σ H Q => ta σ H fun x H1 => tr σ H1 fun xs H2 => Q (x :: xs) H2
section
variable {X : Cx} {e : Expr} {es : List Expr} {te : TE} {t : TA} {pos : Pos}
theorem pa_nil : PA X [] tNil := ⟨fun _ _ _ _ H Q I h => Calls.spliced_nil ⟨[], H, I, .nil, h⟩⟩
theorem pa_cons (ha : PE X e te) (hr : PA X es t) (hs : starEach (e :: es) X.env = (false, eval e X.env) :: starEach es X.env := by rfl) : PA X (e :: es) (tCons te t) := by
  refine ⟨?_⟩
  intro pos pins s σ H Q I h
  rw [hs]
  show wpAny _ _ (spliced ((false, eval e X.env) :: backTo pos (starEach es X.env))) _ _ s
  refine Calls.spliced_cons (thn (ha pins s σ H _ I h) fun u s1 ⟨x, H1, I1, r1, q1⟩ => ?_)
  exact thn (hr pos pins s1 σ H1 _ I1 q1) fun us s2 ⟨xs, H2, I2, r2, q2⟩ => ⟨x :: xs, H2, I2, .cons r1 r2, q2⟩

/-- a tuple, a list of written items -/
def tTup (t : TA) : TE := fun σ H Q => t σ H fun xs H1 => xs.length ≤ sizeLine ∧ ∀ p, H1 p = none → Q (.ref p) (upd H1 p (.tup xs))
def tLst (t : TA) : TE := fun σ H Q => t σ H fun xs H1 => xs.length ≤ sizeLine ∧ ∀ p, H1 p = none → Q (.ref p) (upd H1 p (.lst xs))
theorem pe_tup {x1} (h : PA X es t) : PE X (.Tuple es x1 pos) (tTup t) := by
  refine ⟨?_⟩
  intro pins s σ H Q I hq
  refine wpAny_Tuple_spliced (thn (h pos pins s σ H _ I hq) fun us s1 ⟨xs, H1, I1, r, z, q⟩ => ⟨by rw [← r.length]; exact z, ?_⟩)
  have hf : H1 s1.heap.objs.size = none := I1.hok.fresh (Nat.le_refl _)
  refine ⟨.ref s1.heap.objs.size, upd H1 s1.heap.objs.size (.tup xs), I1.laid (t' := s1.toks) (fun b u e => Heap.get?_push_of_some _ e) (Nat.le_refl _) ?_, rfl, q _ hf⟩
  exact ⟨z, us, r, ⟨_, Heap.get?_push_size _ rfl, rfl, _, rfl⟩⟩
theorem pe_lst (h : PA X es t) : PE X (.List es pos) (tLst t) := by
  refine ⟨?_⟩
  intro pins s σ H Q I hq
  refine wpAny_List_spliced (thn (h pos pins s σ H _ I hq) fun us s1 ⟨xs, H1, I1, r, z, q⟩ => ⟨by rw [← r.length]; exact z, ?_⟩)
  have hf : H1 s1.heap.objs.size = none := I1.hok.fresh (Nat.le_refl _)
  refine ⟨.ref s1.heap.objs.size, upd H1 s1.heap.objs.size (.lst xs), I1.laid (t' := s1.toks) (fun b u e => Heap.get?_push_of_some _ e) (Nat.le_refl _) ?_, rfl, q _ hf⟩
  exact ⟨z, us, 0, r, Heap.get?_push_size _ rfl⟩
end

/-! ### what a def promises -/
/-- a def's promise: the bound arguments in the parameters' order, the heap, the wanted end, the wanted exception -/
abbrev Sp := List V → Hp → VK → XK → Prop
/-- how an exception lies behind a call (file 08 gives it): the callers' frames, abstract heap and state ahead of the call, the wish, the exception, the state -/
abbrev CXT := List Env → Hp → Shared → XK → Value → Shared → Prop

/-- the state at a call -/
structure Env0 (P : Program) (w : World) (K : PySem.W.Frag) (mg : Str → Option Value) (base : Heap) (A : Around) (outer : List Env) (s : Shared) (H : Hp) : Prop where
  frames : A.frames = some outer
  mod : Mod K mg base
  bs : ∀ b o, base.get? b = some o → s.heap.get? b = some o ∧ H b = none
  bsz : base.objs.size ≤ s.heap.objs.size
  funs : s.heap.FunFrames base outer
  frf : ∀ b ∈ frs outer, H b = none
  hok : HOk P w H s.heap
  bare : AllBare s.gens
/-- a call's end -/
def CE (outer : List Env) (P : Program) (w : World) (H : Hp) (s : Shared) (Q : VK) (u : Value) (s' : Shared) : Prop :=
  ∃ v H', s'.os = s.os ∧ AllBare s'.gens ∧ Un (frs outer) [] H H' s.heap s'.heap ∧ HOk P w H' s'.heap ∧ RelV v u ∧ Q v H'
def CR (CX : CXT) (outer : List Env) (P : Program) (w : World) (H : Hp) (s : Shared) (Q : VK) (E : XK) (r : Result) (s' : Shared) : Prop :=
  match r with
  | .ok (.ret u) => CE outer P w H s Q u s'
  | .ok _ => False
  | .error e => CX outer H s E e s'
structure FnOk (P : Program) (w : World) (K : PySem.W.Frag) (mg : Str → Option Value) (base : Heap) (CX : CXT) (k : Nat) (f : Addr) (fd : FuncData) (ps : List Str) (sp : Sp) : Prop where
  len : ∀ vs H Q E, sp vs H Q E → vs.length = ps.length
  run : ∀ (A : Around) (outer : List Env) (s : Shared) (H : Hp) (args : Args) (us : List Value) (vs : List V) (Q : VK) (E : XK), Room k A → Env0 P w K mg base A outer s H → BindsTo s fd args (ps.zip us) → Vals vs us → sp vs H Q E →
    codeAny (model P w) A (.call (.ref f) args) (CR CX outer P w H s Q E) s
theorem Env0.make {P : Program} {w : World} {K : PySem.W.Frag} {mg : Str → Option Value} {base : Heap} {A : Around} {outer : List Env} {s : Shared} {H : Hp} (e : Env0 P w K mg base A outer s H) (C : Addr) (us : List Value) (kw : List (Str × Value)) :
    Env0 P w K mg base (A.under (.builtin "type.__call__" ⟨.ref C :: us, kw⟩)) outer s H := ⟨by first | exact e.frames | (simpa [Around.under, Code.envs, Code.isFrame, pushEnvs] using e.frames), e.mod, e.bs, e.bsz, e.funs, e.frf, e.hok, e.bare⟩
section
variable {X : Cx} {pins : List (Addr × Obj)} {σ : St} {H : Hp} {s s' : Shared}
/-- from a body: what a callee wants -/
theorem Inv.env0 (I : Inv X pins σ H s) : Env0 X.prog X.w X.K X.mg X.base X.A X.stack s H :=
  ⟨I.ok.frames, I.ok.mod, I.bs, Nat.le_trans I.ok.bsz I.sz, I.stack, I.stkFree, I.hok, I.bare⟩
/-- behind a call -/
theorem Inv.after {Q : VK} {u : Value} (I : Inv X pins σ H s) (h : CE X.stack X.prog X.w H s Q u s') : EP X pins σ Q u s' := by
  obtain ⟨v, H', os, bare, un, hok, r, q⟩ := h
  obtain ⟨hh, g, d, t, os'⟩ := s'
  obtain rfl : os' = s.os := os
  exact ⟨v, H', I.call (h' := hh) (g' := g) (d' := d) (t' := t) (ch := []) un hok bare (fun b z => absurd z (by simp)), r, q⟩
end

/-! ### calls -/
/-- f(..): the written arguments, then the defaults dvs; E: what is wanted of an exception -/
def tCall (sp : Sp) (dvs : List V) (E : XK) (t : TA) : TE := fun σ H Q => t σ H fun vs H1 => sp (vs ++ dvs) H1 Q E
/-- o.m(..) of an instance of the class at C -/
def tMeth (C : Addr) (m : Str) (sp : Sp) (dvs : List V) (E : XK) (ta : TE) (t : TA) : TE := fun σ H Q => ta σ H fun x H1 => ∃ a dx fs, x = .ref a ∧ H1 a = some (.ins C dx fs) ∧ fs.lookup m = none ∧
  t σ H1 fun vs H2 => sp (x :: (vs ++ dvs)) H2 Q E
/-- C(..): a new instance and its dict, then __init__ -/
def tMake (C : Addr) (sp : Sp) (dvs : List V) (E : XK) (t : TA) : TE := fun σ H Q => t σ H fun vs H1 => ∀ x dx, H1 x = none → H1 dx = none → dx ≠ x →
  sp (.ref x :: (vs ++ dvs)) (upd (upd H1 dx (.own x)) x (.ins C dx [])) (fun v H2 => v = .non ∧ Q (.ref x) H2) E

/-- how the parameters are bound: us the positional arguments, kw the keywords' values by name, ds the defaults that fill up -/
def Binds (K : PySem.W.Frag) (fd : FuncData) (ps : List Str) (ds : List Value) : Prop :=
  ∀ (s : Shared) (us : List Value), K.In s.heap → (us ++ ds).length = ps.length → BindsTo s fd ⟨us, []⟩ (ps.zip (us ++ ds))
/-- every parameter is given -/
theorem Binds.all {K : PySem.W.Frag} {fd : FuncData} {ps : List Str} (h : ∀ us : List Value, us.length = ps.length → bindArgs fd ⟨us, []⟩ = pure (ps.zip us)) : Binds K fd ps [] := fun s us _ hl => by
  rw [List.append_nil] at hl ⊢
  exact .of_eq (h us hl)

/-- an exception of a callee reaches what this body wants of exceptions -/
def Passes (CX : CXT) (X : Cx) (E : XK) : Prop := ∀ (pins : List (Addr × Obj)) (σ : St) (H : Hp) (s : Shared) (e : Value) (s' : Shared), Inv X pins σ H s → CX X.stack H s E e s' → X.xe e s'

section
variable {X : Cx} {CX : CXT} {k : Nat} {f C : Addr} {fd : FuncData} {ps : List Str} {sp : Sp} {dvs : List V} {ds : List Value} {E : XK} {x m : Str} {p pos apos : Pos} {e o : Expr} {es : List Expr} {ta : TE} {t : TA}

/-- the callee runs -/
theorem run_fn {pins : List (Addr × Obj)} {σ : St} {H : Hp} {s : Shared} {Q : VK} {us : List Value} {vs : List V} (F : FnOk X.prog X.w X.K X.mg X.base CX k f fd ps sp) (hr : Room k X.A) (hb : Binds X.K fd ps ds) (hd : Vals dvs ds) (hx : Passes CX X E)
    (I : Inv X pins σ H s) (r : Vals vs us) (h : sp (vs ++ dvs) H Q E) : wpAny (model X.prog X.w) X.A (call (.ref f) us) (EP X pins σ Q) X.xe s := by
  have r2 : Vals (vs ++ dvs) (us ++ ds) := r.append hd
  have hl : (us ++ ds).length = ps.length := by rw [← r2.length]; exact F.len _ _ _ _ h
  refine wpAny_call (codeAny_mono (F.run X.A X.stack s H ⟨us, []⟩ (us ++ ds) (vs ++ dvs) Q E hr I.env0 (hb s us I.kIn hl) r2 h) fun r s' hq => ?_)
  cases r with
  | error e => exact hx pins σ H s e s' I hq
  | ok fl =>
    cases fl with
    | ret u => exact I.after hq
    | next => exact False.elim hq
    | brk => exact False.elim hq
    | cont => exact False.elim hq

theorem pe_call (F : FnOk X.prog X.w X.K X.mg X.base CX k f fd ps sp) (hr : Room k X.A) (hg : Gl X x) (hm : X.mg x = some (.ref f)) (hk : PySem.W.keepIn X.K (.ref f) = true) (hb : Binds X.K fd ps ds) (hd : Vals dvs ds) (hx : Passes CX X E)
    (ha : PA X (e :: es) t) (hdb : (x == ("__debug__" : Str)) = false := by decide) (he : starEach (e :: es) X.env = (false, eval e X.env) :: starEach es X.env := by rfl) (hpl : (backTo pos (starEach es X.env)).any (·.1) = false := by rfl) :
    PE X (.Call (.Name x p) (e :: es) [] pos) (tCall sp dvs E t) := by
  refine ⟨?_⟩
  intro pins s σ H Q I h
  refine wpAny_Call_Name_kw (ld_glob I hg hm ?_ hdb)
  refine PySem.W.callWith_K (h₀ := X.base) I.ok.mod.kin hk (thn (ha pos pins s σ H _ I h) fun us s1 ⟨vs, H1, I1, r, q⟩ => ⟨I1.kIn, ?_⟩) he hpl
  exact run_fn F hr hb hd hx I1 r q
/-- o.m(e, ..) -/
theorem pe_meth {pl : Sem Bool} (he : PE X o ta) (c : Cls X.K C) (hm : Meth X.K C m f) (F : FnOk X.prog X.w X.K X.mg X.base CX k f fd ps sp) (hr : Room k X.A) (hb : Binds X.K fd ps ds) (hd : Vals dvs ds) (hx : Passes CX X E) (ha : PA X (e :: es) t)
    (hst : starEach (e :: es) X.env = (false, eval e X.env) :: starEach es X.env := by rfl) (hpl : (backTo pos (starEach es X.env)).any (·.1) = false := by rfl)
    (ht : eval (.Call (.Attribute o m apos) (e :: es) [] pos) X.env = (do
      let ov ← eval o X.env
      standAt apos.atName
      let (f, first) ← holding [ov] (getMethod ov m pl)
      callWith pos f first (backTo pos (starEach (e :: es) X.env)) (backToKw pos (keywordEach [] X.env))) := by rfl) :
    PE X (.Call (.Attribute o m apos) (e :: es) [] pos) (tMeth C m sp dvs E ta t) := by
  refine ⟨?_⟩
  intro pins s σ H Q I h
  refine PySem.W.methodCall_KW (pl := pl) (thn (he pins s σ H _ I h) fun u s1 ⟨x, H1, I1, rx, a, dx, fs, ex, ea, l, q⟩ => ?_) ht
  subst ex
  obtain rfl : u = Value.ref a := rx
  refine getmeth_ok I1 ea c hm l ?_
  refine PySem.W.callWith_K (first := [.ref a]) (h₀ := X.base) I.ok.mod.kin hm.kp (thn (ha pos pins s1 σ H1 _ I1 q) fun us s2 ⟨vs, H2, I2, r, q2⟩ => ⟨I2.kIn, ?_⟩) hst hpl
  exact run_fn (us := .ref a :: us) (vs := .ref a :: vs) F hr hb hd hx I2 (.cons rfl r) q2
/-- o.m() -/
theorem pe_meth0 {pl : Sem Bool} (he : PE X o ta) (c : Cls X.K C) (hm : Meth X.K C m f) (F : FnOk X.prog X.w X.K X.mg X.base CX k f fd ps sp) (hr : Room k X.A) (hb : Binds X.K fd ps ds) (hd : Vals dvs ds) (hx : Passes CX X E)
    (ht : eval (.Call (.Attribute o m apos) [] [] pos) X.env = (do
      let ov ← eval o X.env
      standAt apos.atName
      let (f, first) ← holding [ov] (getMethod ov m pl)
      callWith pos f first (backTo pos (starEach [] X.env)) (backToKw pos (keywordEach [] X.env))) := by rfl) :
    PE X (.Call (.Attribute o m apos) [] [] pos) (tMeth C m sp dvs E ta tNil) := by
  refine ⟨?_⟩
  intro pins s σ H Q I h
  refine PySem.W.methodCall_KW (pl := pl) (thn (he pins s σ H _ I h) fun u s1 ⟨x, H1, I1, rx, a, dx, fs, ex, ea, l, q⟩ => ?_) ht
  subst ex
  obtain rfl : u = Value.ref a := rx
  refine getmeth_ok I1 ea c hm l ?_
  exact PySem.W.callWith_K0 (first := [.ref a]) I1.kIn hm.kp (run_fn (us := [.ref a]) (vs := [.ref a]) F hr hb hd hx I1 (.cons rfl .nil) q)

/-- what a class must have to be made -/
structure Mk (K : PySem.W.Frag) (C f : Addr) : Prop where
  makes : PySem.W.makesIn K C = true
  init : PySem.W.findIn K (.ref C) "__init__" = some (some (.ref f))
  fn : PySem.W.isFn K (.ref f) = true
  kp : PySem.W.keepIn K (.ref C) = true

theorem run_make {pins : List (Addr × Obj)} {σ : St} {H : Hp} {s : Shared} {Q : VK} {us : List Value} {vs : List V} (M : Mk X.K C f) (F : FnOk X.prog X.w X.K X.mg X.base CX k f fd ps sp) (hr : Room (k + 1) X.A) (hb : Binds X.K fd ps ds) (hd : Vals dvs ds)
    (hx : Passes CX X E) (I : Inv X pins σ H s) (r : Vals vs us)
    (h : ∀ x dx, H x = none → H dx = none → dx ≠ x → sp (.ref x :: (vs ++ dvs)) (upd (upd H dx (.own x)) x (.ins C dx [])) (fun v H2 => v = .non ∧ Q (.ref x) H2) E) :
    wpAny (model X.prog X.w) X.A (call (.ref C) us) (EP X pins σ Q) X.xe s := by
  have hq := h (s.heap.objs.size + 1) s.heap.objs.size (I.hok.fresh (Nat.le_succ _)) (I.hok.fresh (Nat.le_refl _)) (Nat.ne_of_lt (Nat.lt_succ_self _))
  have I2 := Inv.made (C := C) I
  have r2 : Vals (V.ref (s.heap.objs.size + 1) :: (vs ++ dvs)) (Value.ref (s.heap.objs.size + 1) :: (us ++ ds)) := .cons rfl (r.append hd)
  have hl : (Value.ref (s.heap.objs.size + 1) :: us ++ ds).length = ps.length := by
    have e := r2.length
    rw [F.len _ _ _ _ hq] at e
    exact e.symm
  refine wpAny_call (make_map (f := f) I.kIn M.makes M.init (beq_iff_eq.mp M.fn) (codeAny_mono (F.run _ X.stack _ _ ⟨Value.ref (s.heap.objs.size + 1) :: us, []⟩ (Value.ref (s.heap.objs.size + 1) :: (us ++ ds)) _ _ E (hr.make C us [])
    (I2.env0.make C us []) (hb _ (Value.ref (s.heap.objs.size + 1) :: us) I2.kIn hl) r2 hq) fun r s' hq' => ?_))
  cases r with
  | error e => exact hx pins σ _ _ e s' I2 hq'
  | ok fl =>
    cases fl with
    | ret u =>
      obtain ⟨v, H', I3, rv, ev, q3⟩ := I2.after hq'
      subst ev
      exact ⟨rv, ⟨V.ref (s.heap.objs.size + 1), H', I3, rfl, q3⟩⟩
    | next => exact False.elim hq'
    | brk => exact False.elim hq'
    | cont => exact False.elim hq'
theorem pe_make (M : Mk X.K C f) (F : FnOk X.prog X.w X.K X.mg X.base CX k f fd ps sp) (hr : Room (k + 1) X.A) (hg : Gl X x) (hm : X.mg x = some (.ref C)) (hb : Binds X.K fd ps ds) (hd : Vals dvs ds) (hx : Passes CX X E)
    (ha : PA X (e :: es) t) (hdb : (x == ("__debug__" : Str)) = false := by decide) (he : starEach (e :: es) X.env = (false, eval e X.env) :: starEach es X.env := by rfl) (hpl : (backTo pos (starEach es X.env)).any (·.1) = false := by rfl) :
    PE X (.Call (.Name x p) (e :: es) [] pos) (tMake C sp dvs E t) := by
  refine ⟨?_⟩
  intro pins s σ H Q I h
  refine wpAny_Call_Name_kw (ld_glob I hg hm ?_ hdb)
  refine PySem.W.callWith_K (h₀ := X.base) I.ok.mod.kin M.kp (thn (ha pos pins s σ H _ I h) fun us s1 ⟨vs, H1, I1, r, q⟩ => ⟨I1.kIn, ?_⟩) he hpl
  exact run_make M F hr hb hd hx I1 r q
end

/-! ### keywords -/
section
variable {X : Cx} {CX : CXT} {k : Nat} {f C : Addr} {fd : FuncData} {ps ks : List Str} {sp : Sp} {E : XK} {x m : Str} {p pos apos kpos : Pos} {e o : Expr} {es : List Expr} {kws : List Keyword} {te ta : TE} {t tk : TA} {nm : Option Str}
/-- how a call with keywords binds: g puts the positional values us and the keywords' values ws (names ks) in the parameters' order, defaults among them -/
structure KBinds (K : PySem.W.Frag) (fd : FuncData) (ps ks : List Str) (g : List Value → List Value → List Value) (gV : List V → List V → List V) : Prop where
  to : ∀ (s : Shared) (us ws : List Value), K.In s.heap → (g us ws).length = ps.length → BindsTo s fd ⟨us, ks.zip ws⟩ (ps.zip (g us ws))
  rel : ∀ {vs : List V} {us : List Value} {zs : List V} {ws : List Value}, Vals vs us → Vals zs ws → Vals (gV vs zs) (g us ws)
variable {g : List Value → List Value → List Value} {gV : List V → List V → List V}
end

/-! ### a def's body keeps its promise -/
/-- names: the parameters first -/
structure FnScope (N P : List Str) (sc : Scope) : Prop where
  kind : sc.kind = .function
  co : sc.isCoroutine = false
  gen : sc.isGenerator = false
  nd : N.Nodup
  pre : N.take P.length = P
  par : ∀ x ∈ P, sc.names.lookup x = some .local ∨ sc.names.lookup x = some .cell
  nofree : ∀ y ∈ sc.names, y.2 ≠ .free

theorem bindL_out {kindOf : Str → Option NameKind} {x : Str} : ∀ {binds : List (Str × Value)} {m : Str → Option Value}, (∀ v, (x, v) ∉ binds) → bindL kindOf binds m x = m x
  | [], _, _ => rfl
  | (n, v) :: r, m, h => by
    unfold bindL
    rw [bindL_out fun w hw => h w (List.mem_cons_of_mem _ hw)]
    split
    · have : x ≠ n := by rintro rfl; exact h v List.mem_cons_self
      simp [this]
    · rfl
theorem bindC_out {kindOf : Str → Option NameKind} {x : Str} : ∀ {binds : List (Str × Value)} {m : Str → Option Value}, (∀ v, (x, v) ∉ binds) → bindC kindOf binds m x = m x
  | [], _, _ => rfl
  | (n, v) :: r, m, h => by
    unfold bindC
    rw [bindC_out fun w hw => h w (List.mem_cons_of_mem _ hw)]
    split
    · rfl
    · have : x ≠ n := by rintro rfl; exact h v List.mem_cons_self
      simp [this]
theorem bindL_get {kindOf : Str → Option NameKind} {x : Str} {v : Value} : ∀ {P : List Str} {vs : List Value} {i : Nat} {m : Str → Option Value}, P.Nodup → P[i]? = some x → vs[i]? = some v → kindOf x = some .local →
    bindL kindOf (P.zip vs) m x = some v
  | [], _, _, _, _, h, _, _ => by simp at h
  | _ :: _, [], _, _, _, _, h, _ => by simp at h
  | p :: P, w :: vs, 0, m, nd, h1, h2, hk => by
    simp at h1 h2; subst h1; subst h2
    show bindL kindOf ((p, w) :: P.zip vs) m p = _
    unfold bindL
    rw [bindL_out fun v hv => (List.nodup_cons.mp nd).1 (List.of_mem_zip hv).1, if_pos hk]
    simp
  | p :: P, w :: vs, i + 1, m, nd, h1, h2, hk => by
    show bindL kindOf ((p, w) :: P.zip vs) m x = _
    unfold bindL
    exact bindL_get (i := i) (List.nodup_cons.mp nd).2 (by simpa using h1) (by simpa using h2) hk
theorem bindC_get {kindOf : Str → Option NameKind} {x : Str} {v : Value} : ∀ {P : List Str} {vs : List Value} {i : Nat} {m : Str → Option Value}, P.Nodup → P[i]? = some x → vs[i]? = some v → kindOf x ≠ some .local →
    bindC kindOf (P.zip vs) m x = some v
  | [], _, _, _, _, h, _, _ => by simp at h
  | _ :: _, [], _, _, _, _, h, _ => by simp at h
  | p :: P, w :: vs, 0, m, nd, h1, h2, hk => by
    simp at h1 h2; subst h1; subst h2
    show bindC kindOf ((p, w) :: P.zip vs) m p = _
    unfold bindC
    rw [bindC_out fun v hv => (List.nodup_cons.mp nd).1 (List.of_mem_zip hv).1, if_neg hk]
    simp
  | p :: P, w :: vs, i + 1, m, nd, h1, h2, hk => by
    show bindC kindOf ((p, w) :: P.zip vs) m x = _
    unfold bindC
    exact bindC_get (i := i) (List.nodup_cons.mp nd).2 (by simpa using h1) (by simpa using h2) hk

/-- the names' values at the entry -/
def start (N : List Str) (vs : List V) : St := vs.map some ++ List.replicate (N.length - vs.length) none

/-- the context of a def's body, at its entry; an exception leaves the frame, then lies as CX says -/
def cxOf (CX : CXT) (P : Program) (w : World) (K : PySem.W.Frag) (mg : Str → Option Value) (base : Heap) (N : List Str) (qual : Str) (scope : Scope) (f : Addr) (cd : Value) (A : Around) (outer : List Env) (s : Shared) (H : Hp) (E : XK) : Cx where
  prog := P
  w := w
  K := K
  mg := mg
  base := base
  A := A.deeper (envOfC qual scope s.heap.objs.size f cd)
  N := N
  s₀ := s
  H₀ := H
  env := envOfC qual scope s.heap.objs.size f cd
  outer := outer
  stack := envOfC qual scope s.heap.objs.size f cd :: outer
  ex := []
  calm := true
  fn := fun _ => true
  pn := []
  xe := fun e s' => wpAny (model P w) (A.deeper (envOfC qual scope s.heap.objs.size f cd)) (leaving (envOfC qual scope s.heap.objs.size f cd) e) (fun _ s'' => CX outer H s E e s'') (fun e' s'' => CX outer H s E e' s'') s'

theorem cell_has {sc : Scope} {n : Nat} {x : Str} (h : sc.names.lookup x = some .cell) : ∃ c, (cellsFrom n sc.names []).lookup x = some c := by
  have q := PySem.W.cellsFrom_some sc.names n [] (.inl h)
  exact Option.isSome_iff_exists.mp q

theorem inv_start {CX : CXT} {P : Program} {w : World} {K : PySem.W.Frag} {mg : Str → Option Value} {base : Heap} {N ps : List Str} {qual : Str} {scope : Scope} {f : Addr} {cd : Value} {A : Around} {outer : List Env} {s s1 : Shared} {H : Hp} {E : XK} {us : List Value} {vs : List V}
    (S : FnScope N ps scope) (hd : A.handled = none) (e0 : Env0 P w K mg base A outer s H) (hl : vs.length = ps.length) (r : Vals vs us)
    (x : InCallC s s.heap.objs.size (bindL (envOfC qual scope s.heap.objs.size f cd).kindOf (ps.zip us) fun _ => none) (cellsFrom (s.heap.objs.size + 1) scope.names []) (bindC (envOfC qual scope s.heap.objs.size f cd).kindOf (ps.zip us) fun _ => none) s1) :
    Inv (cxOf CX P w K mg base N qual scope f cd A outer s H E) [] (start N vs) H s1 := by
  have hpl : ps.length ≤ N.length := by have := congrArg List.length S.pre; rw [List.length_take] at this; omega
  obtain ⟨h1, tk, rfl, hk⟩ := x.done
  have noA : ∀ b : Addr, b ∉ (cxOf CX P w K mg base N qual scope f cd A outer s H E).ex := fun b z => absurd (show b ∈ ([] : List Addr) from z) (by simp)
  refine ⟨⟨e0.mod, S.kind, rfl, rfl, Nat.le_refl _, fun y z c h1 h2 => ?_, fun y hy => ?_, fun y c _ h => ?_, fun _ => hd, Around.frames_deeper e0.frames, .inr ⟨rfl, rfl⟩, fun b z => absurd z (noA b), e0.bs, e0.bsz, fun b _ _ => noA b, fun b z => absurd z (noA b), e0.funs, e0.frf⟩,
    rfl, e0.bare, Un.kept hk, ⟨_, x.toInCall.ns, fun i y v h1 h2 h3 => ?_⟩, fun y c h => ⟨_, x.cell y c h⟩, e0.hok.fresh (Nat.le_refl _), fun y c h => ?_, fun p hp => absurd (show p ∈ ([] : List (Addr × Obj)) from hp) (by simp), e0.hok.kept hk, ?_⟩
  · exact name_of_addr x.apart (PySem.mem_of_lookup h1) (PySem.mem_of_lookup h2)
  · have hy : scope.names.lookup y = some .cell ∨ scope.names.lookup y = some .free := hy
    rcases hy with hy | hy
    · exact cell_has hy
    · exact absurd rfl (S.nofree _ (PySem.mem_of_lookup hy))
  · exact Nat.le_of_lt (x.above y c (PySem.mem_of_lookup h))
  · have hi : i < vs.length := by
      unfold start at h2
      by_cases hi : i < vs.length
      · exact hi
      · rw [List.getElem?_append_right (by simpa using hi)] at h2
        rw [List.getElem?_replicate] at h2
        split at h2 <;> cases h2
    have ha : vs[i]? = some v := by
      unfold start at h2
      rw [List.getElem?_append_left (by simpa using hi), List.getElem?_map] at h2
      cases e : vs[i]? with
      | none => rw [e] at h2; cases h2
      | some a => rw [e] at h2; cases h2; rfl
    obtain ⟨u, hu, rv⟩ := r.get ha
    have hp : ps[i]? = some y := by
      rw [← S.pre, List.getElem?_take_of_lt (by omega)]; exact h1
    have ndP : ps.Nodup := by rw [← S.pre]; exact S.nd.sublist (List.take_sublist _ _)
    refine ⟨u, rv, ?_⟩
    rcases S.par y (List.mem_of_getElem? hp) with k | k
    · exact .inl ⟨k, bindL_get ndP hp hu k⟩
    · obtain ⟨c, e⟩ := cell_has (n := s.heap.objs.size + 1) k
      refine .inr ⟨.inl k, c, e, ?_⟩
      have q := x.cell y c e
      rw [bindC_get ndP hp hu (by show scope.names.lookup y ≠ _; rw [k]; decide)] at q
      exact q
  · exact e0.hok.fresh (Nat.le_of_lt (x.above y c (PySem.mem_of_lookup h)))
  · unfold start
    show _ = N.length
    rw [List.length_append, List.length_map, List.length_replicate]
    omega

/-- THE RULE: a def (or a method) of the text, by its body. The body's reading t is chosen for each entry; it is run at the parameters' values -/
theorem fn_of {CX : CXT} {P : Program} {w : World} {K : PySem.W.Frag} {mg : Str → Option Value} {base : Heap} {k : Nat} {f : Addr} {name qual : Str} {params : Arguments} {body : List Stmt} {scope : Scope} {dV kV doc pm cdv ct oc : Value} {an od : Option Addr}
    {osl : Array (Option Value)} {N ps : List Str} {sp : Sp} (lk : K.lookup f = some ⟨oc, od, .func (PySem.W.fnOf name qual params body scope dV kV doc pm an cdv ct), osl⟩) (hcd : PySem.W.codeIn K cdv qual = true) (S : FnScope N ps scope)
    (len : ∀ vs H Q E, sp vs H Q E → vs.length = ps.length)
    (hbody : ∀ (A : Around) (outer : List Env) (s : Shared) (H : Hp) (vs : List V) (Q : VK) (E : XK), Room k (A.deeper (envOfC qual scope s.heap.objs.size f cdv)) → sp vs H Q E →
      ∃ t, PSs (cxOf CX P w K mg base N qual scope f cdv A outer s H E) body t ∧ t { nx := fun _ H' => Q .non H', rt := Q } (start N vs) H) :
    FnOk P w K mg base CX (k + 1) f (PySem.W.fnOf name qual params body scope dV kV doc pm an cdv ct) ps sp := by
  refine ⟨len, fun A outer s H args us vs Q E hr e0 hb r hsp => ?_⟩
  have hl := len _ _ _ _ hsp
  have KX : K.In s.heap := e0.mod.kin.keeps fun b o e => (e0.bs b o e).1
  have lim : s.heap.NoLimit := e0.mod.nolimit.keeps fun b o e => (e0.bs b o e).1
  have hkind : ∀ y ∈ ps.zip us, scope.names.lookup y.1 = some .local ∨ (scope.names.lookup y.1 = some .cell ∧ ((cellsFrom (s.heap.objs.size + 1) scope.names []).lookup y.1).isSome = true) := fun ⟨n, v⟩ hy => by
    rcases S.par n (List.of_mem_zip hy).1 with q | q
    · exact .inl q
    · exact .inr ⟨q, PySem.W.cellsFrom_some _ _ _ (.inl q)⟩
  refine codeAny_call_function hr.depth (KX _ _ lk) rfl S.co S.gen rfl (PySem.W.codeRec_of KX hcd) (hb _ _ _ _ ?_)
  refine wpAny_newFunctionEnv_cells S.kind hkind fun env he s1 x => ?_
  subst he
  refine ⟨lim.keeps x.toInCall.keep, codeAny_func ?_⟩
  obtain ⟨t, ht, hq⟩ := hbody A outer s H vs Q E (hr.deeper _) hsp
  have I : Inv (cxOf CX P w K mg base N qual scope f cdv A outer s H E) [] (start N vs) H s1 := inv_start S hr.hd e0 hl r x
  refine wpAny_mono (ht [] s1 (start N vs) H _ I hq) (fun fl s' hs => ?_) fun e s' hs => hs
  have fin : ∀ {σ' : St} {H' : Hp} {v : V} {u : Value}, Inv (cxOf CX P w K mg base N qual scope f cdv A outer s H E) [] σ' H' s' → RelV v u → Q v H' → CE outer P w H s Q u s' :=
    fun {σ' H' v u} J rv q => ⟨v, H', J.os, J.bare, J.base, J.hok, rv, q⟩
  cases fl with
  | ret u =>
    obtain ⟨v, σ', H', J, rv, q⟩ := hs
    exact fin J rv q
  | next =>
    obtain ⟨σ', H', J, q⟩ := hs
    exact fin (v := V.non) (u := Value.none) J rfl q
  | brk =>
    obtain ⟨_, _, _, q⟩ := hs
    exact False.elim q
  | cont =>
    obtain ⟨_, _, _, q⟩ := hs
    exact False.elim q
end L2

namespace L2
open PySem PySem.Spec PyProof.Rows
section
variable {X : Cx} {x : Str} {p pos : Pos} {e : Expr} {es : List Expr} {t : TA} {id T : String} {r : List V → Hp → VK → Prop}

def tCB (r : List V → Hp → VK → Prop) (t : TA) : TE := fun σ H Q => t σ H fun vs H1 => r vs H1 Q
/-- f(e, ..), f a built-in function -/
theorem pe_callB (hc : CallR X (.builtin id) r) (hg : Gl X x) (hm : X.mg x = none) (hv : bootBuiltins x = some (.builtin id)) (ha : PA X (e :: es) t) (hn : x ≠ "__name__" := by decide) (hdb : (x == ("__debug__" : Str)) = false := by decide)
    (he : starEach (e :: es) X.env = (false, eval e X.env) :: starEach es X.env := by rfl) (hpl : (backTo pos (starEach es X.env)).any (·.1) = false := by rfl) : PE X (.Call (.Name x p) (e :: es) [] pos) (tCB r t) := by
  refine ⟨?_⟩
  intro pins s σ H Q I h
  refine wpAny_Call_Name_kw (ld_blt I hg hm hv ?_ hn hdb)
  exact PyProof.Rows.callWith_builtin1 (thn (ha pos pins s σ H _ I h) fun us s1 ⟨vs, H1, I1, r1, q1⟩ => hc pins s1 σ H1 vs us Q I1 r1 q1) he hpl
/-- T(e, ..), T a built-in type -/
theorem pe_callTy (hc : CallR X (.type T) r) (hg : Gl X x) (hm : X.mg x = none) (hv : bootBuiltins x = some (.type T)) (ha : PA X (e :: es) t) (hn : x ≠ "__name__" := by decide) (hdb : (x == ("__debug__" : Str)) = false := by decide)
    (he : starEach (e :: es) X.env = (false, eval e X.env) :: starEach es X.env := by rfl) (hpl : (backTo pos (starEach es X.env)).any (·.1) = false := by rfl) : PE X (.Call (.Name x p) (e :: es) [] pos) (tCB r t) := by
  refine ⟨?_⟩
  intro pins s σ H Q I h
  refine wpAny_Call_Name_kw (ld_blt I hg hm hv ?_ hn hdb)
  exact PyProof.Rows.callWith_type1 (thn (ha pos pins s σ H _ I h) fun us s1 ⟨vs, H1, I1, r1, q1⟩ => hc pins s1 σ H1 vs us Q I1 r1 q1) he hpl
/-- T() -/
theorem pe_callTy0 (hc : CallR X (.type T) r) (hg : Gl X x) (hm : X.mg x = none) (hv : bootBuiltins x = some (.type T)) (hn : x ≠ "__name__" := by decide) (hdb : (x == ("__debug__" : Str)) = false := by decide) :
    PE X (.Call (.Name x p) [] [] pos) (tCB r tNil) := by
  refine ⟨?_⟩
  intro pins s σ H Q I h
  refine wpAny_Call_Name_kw (ld_blt I hg hm hv ?_ hn hdb)
  exact PyProof.Rows.callWith_type0 (hc pins s σ H [] [] Q I .nil h)
end
end L2

namespace HT
open PySem PyProof.Rows

section
open PySem.SeqAt
open PySem.AutoSeq1 (wpAny_loadPart')
open PySem.MeetsSeq PySem.MeetsSeq2 PySem.MeetsSeq3

end

section
variable {prog : Program} {w : World} {A : Around} {E : Value → Shared → Prop} {s : Shared}

/-! ### t[a:b], not the whole -/
/-- a slice's bound as a place among n (d where it is left out) -/
def sIx (n d : Nat) : Option Int → Nat
  | none => d
  | some v => if v < 0 then (v + (n : Int)).toNat else min v.toNat n
theorem sIx_nat (n d k : Nat) : sIx n d (some (k : Int)) = min k n := by
  show (if (k : Int) < 0 then ((k : Int) + (n : Int)).toNat else min (k : Int).toNat n) = min k n
  rw [if_neg (by omega), Int.toNat_natCast]
end
end HT

namespace L2
open PySem PySem.Spec PyProof.Rows

/-! ### the parts of a slice -/
abbrev TO := St → Hp → (Option Int → Hp → Prop) → Prop
/-- a slice's part (left out, or an int) -/
structure PO (X : Cx) (e : Option Expr) (t : TO) : Prop where
  run : ∀ (pins : List (Addr × Obj)) (s : Shared) (σ : St) (H : Hp) (Q : Option Int → Hp → Prop), Inv X pins σ H s → t σ H Q →
    wpAny (model X.prog X.w) X.A (evalPart e X.env) (fun u s' => ∃ o H', Inv X pins σ H' s' ∧ IsPart u o ∧ Q o H') X.xe s
instance {X : Cx} {e : Option Expr} {t : TO} : CoeFun (PO X e t) (fun _ => ∀ (pins : List (Addr × Obj)) (s : Shared) (σ : St) (H : Hp) (Q : Option Int → Hp → Prop), Inv X pins σ H s → t σ H Q →
    wpAny (model X.prog X.w) X.A (evalPart e X.env) (fun u s' => ∃ o H', Inv X pins σ H' s' ∧ IsPart u o ∧ Q o H') X.xe s) := ⟨PO.run⟩

def tPart (t : TE) : TO := fun σ H Q => t σ H fun x H1 => ∃ i, x = .int i ∧ Q (some i) H1

section
variable {X : Cx} {e : Expr} {te : TE} {lo hi : Option Expr} {tl th : TO} {pos p2 : Pos}

theorem po_some (h : PE X e te) : PO X (some e) (tPart te) := by
  refine ⟨?_⟩
  intro pins s σ H Q I hw
  rw [evalPart_some]
  refine thn (h pins s σ H _ I hw) fun u s1 ⟨x, H1, I1, r1, q1⟩ => ?_
  obtain ⟨i, rfl, q⟩ := q1
  obtain ⟨t, rfl⟩ := r1
  exact ⟨some i, H1, I1, .int i t, q⟩

/-- what a slice of a value is, by values: the slice object stands at sl -/
def SlR (X : Cx) (r : V → Option Int → Option Int → Hp → VK → Prop) : Prop :=
  ∀ (pins : List (Addr × Obj)) (s : Shared) (σ : St) (H : Hp) (x : V) (v vl vu : Value) (lo hi : Option Int) (sl : Addr) (Q : VK), Inv X pins σ H s → RelV x v → s.heap.IsSliceOf sl vl vu .none → IsPart vl lo → IsPart vu hi → r x lo hi H Q →
    ∃ T id, typeLookup (.type T) "__getitem__" = pure (some (.builtin id)) ∧ s.TypeIs v T ∧ wpAny (model X.prog X.w) X.A (getItem v (.ref sl)) (EP X pins σ Q) X.xe s
def tSl (r : V → Option Int → Option Int → Hp → VK → Prop) (te : TE) (tl th : TO) : TE := fun σ H Q => te σ H fun x H1 => tl σ H1 fun l H2 => th σ H2 fun u H3 => r x l u H3 Q
/-- a[lo:hi], any a -/
theorem pe_slice {r : V → Option Int → Option Int → Hp → VK → Prop} (hr : SlR X r) (he : PE X e te) (hl : PO X lo tl) (hu : PO X hi th) : PE X (.Subscript e (.Slice lo hi none p2) pos) (tSl r te tl th) := by
  refine ⟨?_⟩
  intro pins s σ H Q I h
  refine Subscript_ (thn (he pins s σ H _ I h) fun v s1 ⟨x, H1, I1, r1, q1⟩ => ?_)
  refine wpAny_Slice (thn (hl pins s1 σ H1 _ I1 q1) fun vl s2 ⟨l, H2, I2, pl, q2⟩ => thn (hu pins s2 σ H2 _ I2 q2) fun vu s3 ⟨u, H3, I3, pu, q3⟩ => ?_)
  rw [evalPart_none]
  refine wpAny_pure ?_
  have I4 : Inv X pins σ H3 { s3 with heap := s3.heap.push { cls := .type "slice", data := .fields #[vl, vu, .none] } } := I3.kept (t' := s3.toks) fun b ob q => Heap.get?_push_of_some _ q
  obtain ⟨T, id, hT, ht, hg⟩ := hr pins { s3 with heap := s3.heap.push { cls := .type "slice", data := .fields #[vl, vu, .none] } } σ H3 x v vl vu l u s3.heap.objs.size Q I4 r1 (Heap.IsSliceOf.new ..) pl pu q3
  show wpAny (model X.prog X.w) X.A (subscriptTail e (.Slice lo hi none p2) v (.ref s3.heap.objs.size)) (EP X pins σ Q) X.xe { s3 with heap := s3.heap.push { cls := .type "slice", data := .fields #[vl, vu, .none] } }
  exact tail_any (ops := [.ref s3.heap.objs.size, v]) ht hT hg (by with_unfolding_all rfl)

/-- the items of xs[lo:hi] -/
def cutV (xs : List V) (lo hi : Option Int) : List V := (xs.drop (HT.sIx xs.length 0 lo)).take (HT.sIx xs.length xs.length hi - HT.sIx xs.length 0 lo)
theorem cutV_length (xs : List V) (lo hi : Option Int) : (cutV xs lo hi).length ≤ xs.length := by
  unfold cutV
  rw [List.length_take, List.length_drop]
  omega
/-! ### t < u, t + u -/
end
end L2

namespace L2
open PySem PySem.Spec PyProof.Rows

/-! ### places -/
/-- the place that an index of any sign means -/
def ixN (n : Nat) (i : Int) : Option Nat := if 0 ≤ i then (if i < n then some i.toNat else none) else if -(n : Int) ≤ i then some (i + n).toNat else none
def atI {α : Type} (xs : List α) (i : Int) : Option α := (ixN xs.length i).bind fun j => xs[j]?
theorem ixN_seq {n : Nat} {i : Int} {j : Nat} (h : ixN n i = some j) : seqIndex? i n = some j ∧ j < n ∧ -(n : Int) ≤ i ∧ i < n := by
  unfold ixN at h
  by_cases h0 : 0 ≤ i
  · rw [if_pos h0] at h
    by_cases h1 : i < n
    · rw [if_pos h1] at h
      have e : i.toNat = j := Option.some.inj h
      exact ⟨by rw [seqIndex_of h0 h1, e], by omega, by omega, h1⟩
    · rw [if_neg h1] at h; cases h
  · rw [if_neg h0] at h
    by_cases h1 : -(n : Int) ≤ i
    · rw [if_pos h1] at h
      have e : (i + n).toNat = j := Option.some.inj h
      exact ⟨by rw [seqIndex_neg (by omega) h1, e], by omega, h1, by omega⟩
    · rw [if_neg h1] at h; cases h
theorem atI_get {α : Type} {xs : List α} {i : Int} {v : α} (h : atI xs i = some v) : ∃ j, seqIndex? i xs.length = some j ∧ xs[j]? = some v ∧ j < xs.length ∧ -(xs.length : Int) ≤ i ∧ i < xs.length := by
  unfold atI at h
  cases e : ixN xs.length i with
  | none => rw [e] at h; cases h
  | some j =>
    rw [e] at h
    obtain ⟨h1, h2, h3, h4⟩ := ixN_seq e
    exact ⟨j, h1, h, h2, h3, h4⟩
theorem atI_nat {α : Type} {xs : List α} {j : Nat} {v : α} (h : xs[j]? = some v) : atI xs (j : Int) = some v := by
  have hj : j < xs.length := (List.getElem?_eq_some_iff.mp h).1
  have e : ixN xs.length (j : Int) = some j := by
    unfold ixN
    rw [if_pos (by omega), if_pos (by omega)]; simp
  unfold atI; rw [e]; exact h
/-! ### what may be subscripted -/
/-- what stands as an index of a plain subscript -/
def PlainIx (b : Expr) : Prop := ∀ o i, subscripted b false o i = operate [o, i] (getItem o i)
/-- a subscript by values -/
def IxR (X : Cx) (r : R2) : Prop :=
  ∀ (value slice : Expr) (pins : List (Addr × Obj)) (s : Shared) (σ : St) (H : Hp) (x y : V) (v u : Value) (Q : VK), Inv X pins σ H s → RelV x v → RelV y u → r x y H Q →
    subscripted slice false v u = operate [v, u] (getItem v u) → wpAny (model X.prog X.w) X.A (subscriptTail value slice v u) (EP X pins σ Q) X.xe s
/-- a call of a builtin's method by values: the receiver, the arguments -/
def MtR (X : Cx) (id : String) (r : V → List V → Hp → VK → Prop) : Prop :=
  ∀ (pins : List (Addr × Obj)) (s : Shared) (σ : St) (H : Hp) (x : V) (xs : List V) (v : Value) (us : List Value) (Q : VK), Inv X pins σ H s → RelV x v → Vals xs us → r x xs H Q →
    wpAny (model X.prog X.w) X.A (call (.builtin id) (v :: us)) (EP X pins σ Q) X.xe s
section
variable {X : Cx} {a b : Expr} {ta tb : TE} {pos : Pos}
/-- a[b] -/
theorem pe_ix {r : R2} (hr : IxR X r) (ha : PE X a ta) (hb : PE X b tb) (hs : PlainIx b) : PE X (.Subscript a b pos) (tOp r ta tb) := by
  refine ⟨?_⟩
  intro pins s σ H Q I h
  exact Subscript_ (binT ha hb I h fun v u s2 x y H2 I2 rx ry q => hr a b pins s2 σ H2 x y v u Q I2 rx ry q (hs _ _))

def rIxL (K : PySem.W.Frag) : R2 := fun x y H Q => ∃ p xs i v, x = .ref p ∧ y = .int i ∧ SqL K H p xs ∧ atI xs i = some v ∧ Q v H
def rIxT (K : PySem.W.Frag) : R2 := fun x y H Q => ∃ p xs i v, x = .ref p ∧ y = .int i ∧ SqT K H p xs ∧ atI xs i = some v ∧ Q v H
def rIxS : R2 := fun x y H Q => ∃ z i c, x = .str z ∧ y = .int i ∧ z.length ≤ sizeLine ∧ atI z.cps.toList i = some c ∧ Q (.str ⟨#[c]⟩) H
theorem ix_list : IxR X (rIxL X.K) := by
  intro value slice pins s σ H x y v u Q I rx ry h hs
  obtain ⟨p, xs, i, z, rfl, rfl, hq, he, q⟩ := h
  cases rx
  obtain ⟨t, rfl⟩ := ry
  obtain ⟨its, r, pl, hz⟩ := I.list hq
  obtain ⟨j, h1, h2, h3, h4, h5⟩ := atI_get he
  obtain ⟨w, ew, rw'⟩ := r.get h2
  have hl := r.length
  have hn := line63
  have fin : EP X pins σ Q w s := ⟨z, H, I, rw', q⟩
  by_cases h0 : 0 ≤ i
  · have hj : i.toNat = j := by
      rw [seqIndex_of h0 h5] at h1
      exact Option.some.inj h1
    exact item_listR pl.isList h0 (by omega) (by rw [hj]; simpa using ew) fin hs
  · have hj : (i + (its.toArray.size : Int)).toNat = j := by
      rw [seqIndex_neg (by omega) h4] at h1
      rw [List.size_toArray, ← hl]
      exact Option.some.inj h1
    exact subscriptTail_builtinR (x := w) pl.isList.typeIs slot_list_getitem.lookup
      (wpAny_getItem_list_neg (Q := fun r s' => r = w ∧ EP X pins σ Q r s') pl.isList (by omega) (by rw [List.size_toArray] <;> omega) (by omega) (by rw [hj]; simpa using ew) ⟨rfl, fin⟩) hs
theorem ix_tup : IxR X (rIxT X.K) := by
  intro value slice pins s σ H x y v u Q I rx ry h hs
  obtain ⟨p, xs, i, z, rfl, rfl, hq, he, q⟩ := h
  cases rx
  obtain ⟨t, rfl⟩ := ry
  obtain ⟨its, r, pl, hz⟩ := I.tuple hq
  obtain ⟨j, h1, h2, h3, h4, h5⟩ := atI_get he
  obtain ⟨w, ew, rw'⟩ := r.get h2
  have hl := r.length
  have hn := line63
  have fin : EP X pins σ Q w s := ⟨z, H, I, rw', q⟩
  exact subscriptTail_builtinR (x := w) pl.typeIs slot_tuple_getitem.lookup
    (getItem_tuple (j := j) (Q := fun r s' => r = w ∧ EP X pins σ Q r s') pl (by omega) (by omega) (by rw [List.size_toArray, ← hl]; exact h1) (by simpa using ew) ⟨rfl, fin⟩) hs
theorem ix_str : IxR X rIxS := by
  intro value slice pins s σ H x y v u Q I rx ry h hs
  obtain ⟨z, i, c, rfl, rfl, hz, he, q⟩ := h
  obtain ⟨t, rfl⟩ := rx
  obtain ⟨t', rfl⟩ := ry
  obtain ⟨j, h1, h2, h3, h4, h5⟩ := atI_get he
  have hl : z.cps.toList.length = z.length := by simp [Str.length]
  rw [hl] at h1 h4 h5
  have hn := line63
  exact tail_any (typeIs_str s z t) slot_str_getitem.lookup (getItem_str (c := c) (by
    have e1 : decide (i < -(2 ^ 63 : Int)) = false := decide_eq_false (by omega)
    have e2 : decide (i ≥ 2 ^ 63) = false := decide_eq_false (by omega)
    rw [e1, e2, Bool.or_false]) (by rw [h1]; simpa using h2) ⟨.str ⟨#[c]⟩, H, I.tok _, ⟨_, rfl⟩, q⟩) hs
/-! ### xs[i] = v, any sign -/
/-! ### slices -/
theorem slice_bounds (lo hi : Option Int) (n : Nat) : (sliceBounds lo hi none n).1 = ((HT.sIx n 0 lo : Nat) : Int) ∧ (sliceBounds lo hi none n).2.1 = ((HT.sIx n n hi : Nat) : Int) ∧ (sliceBounds lo hi none n).2.2 = 1 := by
  refine ⟨?_, ?_, rfl⟩
  · cases lo with
    | none => simp [sliceBounds, HT.sIx]
    | some i =>
      simp only [sliceBounds, HT.sIx, Option.getD_none, show (1 : Int) > 0 by decide, if_true]
      by_cases h : i < 0
      · simp only [h, if_true] <;> omega
      · simp only [h, if_false] <;> omega
  · cases hi with
    | none => simp [sliceBounds, HT.sIx]
    | some i =>
      simp only [sliceBounds, HT.sIx, Option.getD_none, show (1 : Int) > 0 by decide, if_true]
      by_cases h : i < 0
      · simp only [h, if_true] <;> omega
      · simp only [h, if_false] <;> omega
theorem slicePick_cut (its : List Value) (lo hi : Option Int) : slicePick its.toArray lo hi none = ((its.drop (HT.sIx its.length 0 lo)).take (HT.sIx its.length its.length hi - HT.sIx its.length 0 lo)).toArray := by
  obtain ⟨h1, h2, h3⟩ := slice_bounds lo hi its.toArray.size
  unfold slicePick
  rw [h1, h2, h3]
  simp only [sliceRange_one, pick_run, List.size_toArray] <;> rfl
/-- xs[lo:hi] of a list: a new list -/
def rSlL (K : PySem.W.Frag) : V → Option Int → Option Int → Hp → VK → Prop := fun x lo hi H Q => ∃ a xs, x = .ref a ∧ SqL K H a xs ∧ ∀ p, H p = none → Q (.ref p) (upd H p (.lst (cutV xs lo hi)))
theorem sl_list : SlR X (rSlL X.K) := by
  intro pins s σ H x v vl vu lo hi sl Q I rx hs pl pu h
  obtain ⟨a, xs, rfl, hx, q⟩ := h
  cases rx
  obtain ⟨its, r, ht, hz⟩ := I.list hx
  have hlen := r.length
  refine ⟨"list", _, slot_list_getitem.lookup, ht.isList.typeIs, ?_⟩
  refine wpAny_getItem_list_slice ht.isList hs pl pu .none (by simp) ?_ (by rw [List.size_toArray] <;> omega)
  rw [slicePick_cut, ← hlen]
  refine ⟨.ref s.heap.objs.size, _, I.laid (t' := s.toks) (o := .lst (cutV xs lo hi)) (fun b ob q => Heap.get?_push_of_some _ q) (Nat.le_refl _) ?_, rfl, q _ (I.hok.fresh (Nat.le_refl _))⟩
  exact ⟨Nat.le_trans (cutV_length xs lo hi) hz, _, 0, (r.drop (HT.sIx xs.length 0 lo)).take (HT.sIx xs.length xs.length hi - HT.sIx xs.length 0 lo), Heap.get?_push_size _ rfl⟩

/-! ### in, not in: flat items -/
def flatV : V → Bool
  | .non => true
  | .bl _ => true
  | .int _ => true
  | .str _ => true
  | _ => false
/-- == of flat values -/
def eqV : V → V → Bool
  | .non, .non => true
  | .bl a, .bl b => a == b
  | .bl a, .int b => (if a then 1 else 0) == b
  | .int a, .bl b => a == (if b then 1 else 0)
  | .int a, .int b => a == b
  | .str a, .str b => a == b
  | _, _ => false
theorem eqAt_V {A : Around} {s : Shared} {y x : V} {u v : Value} (ry : RelV y u) (rx : RelV x v) (fy : flatV y = true) (fx : flatV x = true) : SeqAt.EqAt A s u v (eqV y x) := by
  cases y with
  | non =>
    cases ry
    cases x with
    | non => cases rx; exact SeqAt.EqAt.same _
    | bl b => cases rx; exact SeqAt.EqAt.none_bool b
    | int b => obtain ⟨t, rfl⟩ := rx; exact SeqAt.EqAt.none_int b t
    | str b => obtain ⟨t, rfl⟩ := rx; exact SeqAt.EqAt.none_str b t
    | _ => exact absurd (show false = true from fx) Bool.false_ne_true
  | bl a =>
    cases ry
    cases x with
    | non => cases rx; exact SeqAt.EqAt.bool_none a
    | bl b => cases rx; exact SeqAt.EqAt.bool_bool a b
    | int b => obtain ⟨t, rfl⟩ := rx; exact SeqAt.EqAt.bool_int a b t
    | str b => obtain ⟨t, rfl⟩ := rx; exact SeqAt.EqAt.bool_str a b t
    | _ => exact absurd (show false = true from fx) Bool.false_ne_true
  | int a =>
    obtain ⟨t', rfl⟩ := ry
    cases x with
    | non => cases rx; exact SeqAt.EqAt.int_none a t'
    | bl b => cases rx; exact SeqAt.EqAt.int_bool a t' b
    | int b => obtain ⟨t, rfl⟩ := rx; exact SeqAt.EqAt.int_int a t' b t
    | str b => obtain ⟨t, rfl⟩ := rx; exact SeqAt.EqAt.int_str a t' b t
    | _ => exact absurd (show false = true from fx) Bool.false_ne_true
  | str a =>
    obtain ⟨t', rfl⟩ := ry
    cases x with
    | non => cases rx; exact SeqAt.EqAt.str_none a t'
    | bl b => cases rx; exact SeqAt.EqAt.str_bool a t' b
    | int b => obtain ⟨t, rfl⟩ := rx; exact SeqAt.EqAt.str_int a t' b t
    | str b => obtain ⟨t, rfl⟩ := rx; exact SeqAt.EqAt.str_str a t' b t
    | _ => exact absurd (show false = true from fx) Bool.false_ne_true
  | _ => exact absurd (show false = true from fy) Bool.false_ne_true
/-- the items' answers, read off the values (a value's own answer does not lean on its token) -/
def eqU (x : V) (u : Value) : Bool := match u with
  | .none => eqV .non x
  | .bool b => eqV (.bl b) x
  | .int i _ => eqV (.int i) x
  | .str z _ => eqV (.str z) x
  | _ => false
theorem eqU_of {x y : V} {u : Value} (r : RelV y u) (f : flatV y = true) : eqU x u = eqV y x := by
  cases y with
  | non => cases r; rfl
  | bl b => cases r; rfl
  | int i => obtain ⟨t, rfl⟩ := r; rfl
  | str z => obtain ⟨t, rfl⟩ := r; rfl
  | _ => exact absurd (show false = true from f) Bool.false_ne_true
theorem any_eqU {x : V} : ∀ {xs : List V} {us : List Value}, Vals xs us → xs.all flatV = true → us.any (eqU x) = xs.any fun y => eqV y x
  | _, _, .nil, _ => rfl
  | y :: xs, u :: us, .cons r t, f => by
    rw [List.all_cons, Bool.and_eq_true] at f
    rw [List.any_cons, List.any_cons, eqU_of r f.1, any_eqU t f.2]
theorem mem_eqAt {A : Around} {s : Shared} {x : V} {v : Value} (rx : RelV x v) (fx : flatV x = true) : ∀ {xs : List V} {us : List Value}, Vals xs us → xs.all flatV = true → ∀ u ∈ us, SeqAt.EqAt A s u v (eqU x u)
  | _, _, .nil, _ => fun u hu => by cases hu
  | y :: xs, u :: us, .cons r t, f => fun u' hu => by
    rw [List.all_cons, Bool.and_eq_true] at f
    rcases List.mem_cons.mp hu with rfl | hu
    · rw [eqU_of r f.1]; exact eqAt_V r rx f.1 fx
    · exact mem_eqAt rx fx t f.2 u' hu
def inV (x : V) (xs : List V) : Bool := xs.any fun y => eqV y x
/-- x in a list or tuple of flat items -/
def rIn (K : PySem.W.Frag) (neg : Bool) : R2 := fun x y H Q => ∃ p xs, y = .ref p ∧ (SqL K H p xs ∨ SqT K H p xs) ∧ flatV x = true ∧ xs.all flatV = true ∧ Q (.bl (if neg then !inV x xs else inV x xs)) H
theorem op_in_seq : OpR X (compareOp .In) (rIn X.K false) := by
  intro pins s σ H x y v u Q I rx ry h
  obtain ⟨p, xs, rfl, hq, fx, fs, q⟩ := h
  cases ry
  rcases hq with hq | hq
  · obtain ⟨its, r, pl, hz⟩ := I.list hq
    refine SeqAt.in_listAt (eqU x) pl.isList (fun w hw => mem_eqAt rx fx r fs w (by simpa using hw)) ⟨.bl _, H, I, rfl, ?_⟩
    rw [show its.toArray.any (eqU x) = its.any (eqU x) by simp, any_eqU r fs]
    exact q
  · obtain ⟨its, r, pl, hz⟩ := I.tuple hq
    refine SeqAt.in_tupleAt (eqU x) pl (fun w hw => mem_eqAt rx fx r fs w (by simpa using hw)) ⟨.bl _, H, I, rfl, ?_⟩
    rw [show its.toArray.any (eqU x) = its.any (eqU x) by simp, any_eqU r fs]
    exact q
theorem op_notIn_seq : OpR X (compareOp .NotIn) (rIn X.K true) := by
  intro pins s σ H x y v u Q I rx ry h
  obtain ⟨p, xs, rfl, hq, fx, fs, q⟩ := h
  cases ry
  rcases hq with hq | hq
  · obtain ⟨its, r, pl, hz⟩ := I.list hq
    refine SeqAt.notIn_listAt (eqU x) pl.isList (fun w hw => mem_eqAt rx fx r fs w (by simpa using hw)) ⟨.bl _, H, I, rfl, ?_⟩
    rw [show its.toArray.any (eqU x) = its.any (eqU x) by simp, any_eqU r fs]
    exact q
  · obtain ⟨its, r, pl, hz⟩ := I.tuple hq
    refine SeqAt.notIn_tupleAt (eqU x) pl (fun w hw => mem_eqAt rx fx r fs w (by simpa using hw)) ⟨.bl _, H, I, rfl, ?_⟩
    rw [show its.toArray.any (eqU x) = its.any (eqU x) by simp, any_eqU r fs]
    exact q
/-! ### len, list(x), tuple(x) of any list or tuple that is read -/
theorem call_len_seq : CallR X (.builtin "len") (fun xs H Q => ∃ p ys, xs = [.ref p] ∧ (SqL X.K H p ys ∨ SqT X.K H p ys) ∧ Q (.int ys.length) H) := by
  intro pins s σ H xs us Q I r h
  obtain ⟨p, ys, rfl, hq, q⟩ := h
  obtain ⟨u, rfl, rx⟩ := vals1 r
  cases rx
  have hn := line63
  rcases hq with hq | hq
  · obtain ⟨its, r', pl, hz⟩ := I.list hq
    have hlen := r'.length
    exact Calls.call_len_list pl.isList (by simp only [List.size_toArray] <;> omega) ⟨.int ys.length, H, I.tok _, ⟨s.toks + 1, by rw [List.size_toArray, hlen]⟩, q⟩
  · obtain ⟨its, r', pl, hz⟩ := I.tuple hq
    have hlen := r'.length
    exact len_tuple pl (by simp only [List.size_toArray] <;> omega) ⟨.int ys.length, H, I.tok _, ⟨s.toks + 1, by rw [List.size_toArray, hlen]⟩, q⟩
theorem call_len_str : CallR X (.builtin "len") (fun xs H Q => ∃ z, xs = [.str z] ∧ z.length ≤ sizeLine ∧ Q (.int z.length) H) := by
  intro pins s σ H xs us Q I r h
  obtain ⟨z, rfl, hz, q⟩ := h
  obtain ⟨u, rfl, t, rfl⟩ := vals1 r
  have hn := line63
  exact len_str (by omega) ⟨.int z.length, H, I.tok _, ⟨_, rfl⟩, q⟩
theorem call_list_of : CallR X (.type "list") (fun xs H Q => ∃ p ys, xs = [.ref p] ∧ (SqL X.K H p ys ∨ SqT X.K H p ys) ∧ ∀ l, H l = none → Q (.ref l) (upd H l (.lst ys))) := by
  intro pins s σ H xs us Q I r h
  obtain ⟨p, ys, rfl, hq, q⟩ := h
  obtain ⟨u, rfl, rx⟩ := vals1 r
  cases rx
  have fin : ∀ (its : List Value), Vals ys its → ys.length ≤ sizeLine → ∀ (h' : Heap) (c' : Nat), (∀ b o', s.heap.get? b = some o' → h'.get? b = some o') →
      h'.get? s.heap.objs.size = some { cls := .type "list", dict := none, data := .seq its.toArray c', slots := #[] } → EP X pins σ Q (.ref s.heap.objs.size) { s with heap := h' } := fun its r' hz h' c' kp e =>
    ⟨.ref s.heap.objs.size, _, I.laid (t' := s.toks) kp (Nat.le_refl _) (show ObjOk X.prog X.w _ h' _ (.lst ys) from ⟨hz, its, c', r', e⟩), rfl, q _ (I.hok.fresh (Nat.le_refl _))⟩
  rcases hq with hq | hq
  · obtain ⟨its, r', pl, hz⟩ := I.list hq
    have hlen := r'.length
    obtain ⟨o, ho, hc, n, hd⟩ := pl.isList
    exact call_list_seq p (.inl rfl) ho hc hd (fun h' c' kp e => fin its r' hz h' c' kp e) (by simp only [List.size_toArray] <;> omega)
  · obtain ⟨its, r', pl, hz⟩ := I.tuple hq
    have hlen := r'.length
    obtain ⟨o, ho, hc, n, hd⟩ := pl
    exact call_list_seq p (.inr rfl) ho hc hd (fun h' c' kp e => fin its r' hz h' c' kp e) (by simp only [List.size_toArray] <;> omega)
/-! ### the call of a builtin's method: o.m(..) -/
/-- the value is of that builtin type -/
def tyV (K : PySem.W.Frag) (T : String) (x : V) (H : Hp) : Prop := match x with
  | .str _ => T = "str"
  | .int _ => T = "int"
  | .ref p => (T = "list" ∧ ∃ xs, SqL K H p xs) ∨ (T = "tuple" ∧ ∃ o, K.lookup p = some o ∧ o.cls = .type "tuple" ∧ o.dict = none) ∨
      (T = "dict" ∧ ((∃ kvs, H p = some (.dK kvs)) ∨ ∃ kvs, H p = some (.dT kvs))) ∨ (T = "set" ∧ ∃ S n, H p = some (.set S n))
  | _ => False
theorem tyV_is {pins : List (Addr × Obj)} {σ : St} {H : Hp} {s : Shared} {T : String} {x : V} {v : Value} (I : Inv X pins σ H s) (r : RelV x v) (ty : tyV X.K T x H) :
    s.TypeIs v T ∧ ∀ a, v = .ref a → ∃ ob, s.heap.get? a = some ob ∧ ob.dict = none := by
  cases x with
  | str z =>
    obtain ⟨t, rfl⟩ := r
    cases (show T = "str" from ty)
    exact ⟨typeIs_str s z t, fun _ e => nomatch e⟩
  | int i =>
    obtain ⟨t, rfl⟩ := r
    cases (show T = "int" from ty)
    exact ⟨typeIs_int s i t, fun _ e => nomatch e⟩
  | ref p =>
    cases r
    rcases ty with ⟨rfl, xs, hq⟩ | ⟨rfl, o, hk, hc, hd⟩ | ⟨rfl, hk⟩ | ⟨rfl, S, n, hk⟩
    · obtain ⟨its, _, pl, _⟩ := I.list hq
      refine ⟨pl.isList.typeIs, fun a e => ?_⟩
      cases e
      obtain ⟨o, n, e, c, hd, _⟩ := pl
      exact ⟨o, e, hd⟩
    · refine ⟨⟨o, I.kIn p o hk, hc⟩, fun a e => ?_⟩
      cases e
      exact ⟨o, I.kIn _ o hk, hd⟩
    · have z : ∃ o, s.heap.get? p = some o ∧ o.ExactDict := by
        rcases hk with ⟨kvs, hk⟩ | ⟨kvs, hk⟩
        · obtain ⟨_, _, _, _, o, _, _, e, ex, _⟩ := I.hok p _ hk
          exact ⟨o, e, ex⟩
        · obtain ⟨_, _, _, _, o, _, _, e, ex, _⟩ := I.hok p _ hk
          exact ⟨o, e, ex⟩
      obtain ⟨o, e, ex⟩ := z
      refine ⟨⟨o, e, ex.1⟩, fun a e2 => ?_⟩
      cases e2
      exact ⟨o, e, ex.2.1⟩
    · obtain ⟨o, _, _, _, e, ex, _⟩ := I.hok p _ hk
      refine ⟨⟨o, e, ex.1⟩, fun a e2 => ?_⟩
      cases e2
      exact ⟨o, e, ex.2.1⟩
  | _ => exact False.elim ty
def tBM0 (K : PySem.W.Frag) (T : String) (r : V → List V → Hp → VK → Prop) (to : TE) : TE := fun σ H Q => to σ H fun x H1 => tyV K T x H1 ∧ r x [] H1 Q
def tBM (K : PySem.W.Frag) (T : String) (r : V → List V → Hp → VK → Prop) (to : TE) (t : TA) : TE := fun σ H Q => to σ H fun x H1 => tyV K T x H1 ∧ t σ H1 fun xs H2 => r x xs H2 Q
variable {o e : Expr} {es : List Expr} {to : TE} {t : TA} {name : Str} {apos cpos : Pos} {T id : String} {r : V → List V → Hp → VK → Prop}
theorem pe_bm0 (pa : PlainAttrs T) (slot : Slot T name id) (hty : typeOf (.builtin id) = pure (.type "method_descriptor")) (hm : MtR X id r) (ho : PE X o to)
    (hbase : attributeBase o name X.env (eval o X.env) = eval o X.env := by rfl) (hline : (apos.endLine == cpos.line) = true := by rfl) : PE X (.Call (.Attribute o name apos) [] [] cpos) (tBM0 X.K T r to) := by
  refine ⟨?_⟩
  intro pins s σ H Q I h
  refine wpAny_Call_method0_late hbase hline (thn (ho pins s σ H _ I h) fun v s1 ⟨x, H1, I1, r1, ty, q1⟩ => ?_)
  obtain ⟨h1, h2⟩ := tyV_is I1 r1 ty
  exact ⟨T, id, pa, slot, hty, h1, h2, Calls.callWith_builtin rfl (PySem.evalArgs_none (hm pins s1 σ H1 x [] v [] Q I1 r1 .nil q1))⟩
theorem pe_bm (pa : PlainAttrs T) (slot : Slot T name id) (hty : typeOf (.builtin id) = pure (.type "method_descriptor")) (hm : MtR X id r) (ho : PE X o to) (ha : PA X (e :: es) t)
    (hbase : attributeBase o name X.env (eval o X.env) = eval o X.env := by rfl)
    (hfew : ((backTo cpos (starEach (e :: es) X.env)).all (fun x => !x.1) && (backToKw cpos (keywordEach [] X.env)).all (fun x => x.1.isSome)
      && decide ((e :: es).length + ([] : List Keyword).length + (if ([] : List Keyword).isEmpty then 0 else 1) < 30)) = true := by rfl)
    (hline : (apos.endLine == cpos.line) = true := by rfl) (hs : starEach (e :: es) X.env = (false, eval e X.env) :: starEach es X.env := by rfl) (hplain : (backTo cpos (starEach es X.env)).any (·.1) = false := by rfl) :
    PE X (.Call (.Attribute o name apos) (e :: es) [] cpos) (tBM X.K T r to t) := by
  refine ⟨?_⟩
  intro pins s σ H Q I h
  refine wpAny_Call_method_late hbase hfew hline rfl (thn (ho pins s σ H _ I h) fun v s1 ⟨x, H1, I1, r1, ty, q1⟩ => ?_)
  obtain ⟨h1, h2⟩ := tyV_is I1 r1 ty
  refine ⟨T, id, pa, slot, hty, h1, h2, ?_⟩
  have hA := ha cpos pins s1 σ H1 _ I1 q1
  rw [hs] at hA ⊢
  refine Calls.callWith_builtin (by show (false || (backTo cpos (starEach es X.env)).any (·.1)) = false; rw [hplain] <;> rfl) (Calls.evalArgs_plain ?_)
  exact thn hA fun us s2 ⟨vs, H2, I2, r2, q2⟩ => hm pins s2 σ H2 x vs v us Q I2 r1 r2 q2
/- xs.append(e), list.index on a module's tuple .. are MtR facts of 06m -/
end
end L2

namespace L2
open PySem PySem.Spec PyProof.Rows

def MtM (X : Cx) (id : String) (r : V → List V → Hp → VK → Prop) : Prop :=
  ∀ (pins : List (Addr × Obj)) (s : Shared) (σ : St) (H : Hp) (x : V) (xs : List V) (v : Value) (us : List Value) (Q : VK), Inv X pins σ H s → RelV x v → Vals xs us → r x xs H Q →
    wpAny (model X.prog X.w) X.A (call (.builtin id) (v :: us)) (EP X pins σ Q) X.xe s

/-! ### lists of values -/
theorem Vals.one : ∀ {x : V} {us : List Value}, Vals [x] us → ∃ u, us = [u] ∧ RelV x u
  | _, _, .cons r .nil => ⟨_, rfl, r⟩
theorem Vals.zero : ∀ {us : List Value}, Vals [] us → us = []
  | _, .nil => rfl
section
variable {X : Cx} {pins : List (Addr × Obj)} {σ : St} {H : Hp} {s : Shared} {l b : Addr} {xs ys zs : List V}

/-! ### the two steps: a tracked list is rewritten, a new list is laid -/
theorem Inv.lset {its its' : List Value} {n : Nat} {f : Array Value → Array Value} {t' : Nat} (I : Inv X pins σ H s) (hH : H l = some (.lst xs))
    (e : s.heap.get? l = some { cls := .type "list", data := .seq its.toArray n }) (hf : f its.toArray = its'.toArray) (hv : Vals ys its') (hz : ys.length ≤ sizeLine) :
    Inv X pins σ (upd H l (.lst ys)) { s with heap := s.heap.update l (Obj.mapSeq f), toks := t' } := by
  have q := PySem.IsL.update e f
  rw [hf] at q
  refine I.write (x := l) (e := l) (by rw [hH]; exact trivial) (.inl rfl) (fun b' u hb hu => (Heap.get?_update_other s.heap (Obj.mapSeq f) (Ne.symm hb)).trans hu) ⟨_, q⟩ ?_
  exact ⟨hz, its', _, hv, q⟩
theorem Inv.lnew {its : List Value} {t' : Nat} (I : Inv X pins σ H s) (hv : Vals ys its) (hz : ys.length ≤ sizeLine) :
    Inv X pins σ (upd H s.heap.objs.size (.lst ys)) { s with heap := s.heap.push { cls := .type "list", data := .seq its.toArray }, toks := t' } :=
  I.laid (fun _ _ q => Heap.get?_push_of_some _ q) (Nat.le_refl _) ⟨hz, its, 0, hv, Heap.get?_push_size _ rfl⟩
theorem Inv.fresh (I : Inv X pins σ H s) : H s.heap.objs.size = none := I.hok.fresh (Nat.le_refl _)
theorem Inv.lstM (I : Inv X pins σ H s) (hH : H l = some (.lst xs)) : xs.length ≤ sizeLine ∧ ∃ (its : List Value) (n : Nat), Vals xs its ∧ xs.length = its.length ∧ s.heap.get? l = some { cls := .type "list", data := .seq its.toArray n } := by
  obtain ⟨z, its, n, r, e⟩ := I.hok l _ hH
  exact ⟨z, its, n, r, r.length, e⟩

end

section
variable {X : Cx}

/-! ### methods -/
def rAppend : V → List V → Hp → VK → Prop := fun x vs H Q => ∃ l xs y, x = .ref l ∧ vs = [y] ∧ H l = some (.lst xs) ∧ xs.length < sizeLine ∧ Q .non (upd H l (.lst (xs ++ [y])))
theorem mt_append : MtM X "list.append" rAppend := by
  intro pins s σ H x vs v us Q I rx rv h
  obtain ⟨l, xs, y, rfl, rfl, hH, hz, q⟩ := h
  cases rx
  obtain ⟨u, rfl, ru⟩ := rv.one
  obtain ⟨z, its, n, r, hl, e⟩ := I.lstM hH
  refine call_meets F.slot_list_append ⟨_, e, rfl⟩ F.entry_list_append (F.args_list_append_2 _ _) (PySem.list_append l its.toArray n u (by rw [List.size_toArray]; omega)) ⟨e, ?_⟩
  refine ⟨.non, _, I.lset (its' := its ++ [u]) hH e (by simp) (r.append (.cons ru .nil)) ?_, rfl, q⟩
  rw [List.length_append, List.length_singleton]
  omega

def rClear : V → List V → Hp → VK → Prop := fun x vs H Q => ∃ l xs, x = .ref l ∧ vs = [] ∧ H l = some (.lst xs) ∧ Q .non (upd H l (.lst []))
theorem mt_clear : MtM X "list.clear" rClear := by
  intro pins s σ H x vs v us Q I rx rv h
  obtain ⟨l, xs, rfl, rfl, hH, q⟩ := h
  cases rx
  have hus := rv.zero
  subst hus
  obtain ⟨z, its, n, r, hl, e⟩ := I.lstM hH
  refine call_meets F.slot_list_clear ⟨_, e, rfl⟩ F.entry_list_clear (F.args_list_clear_1 _) (AutoSeq1.list_clear_list_0 l its.toArray n (by rw [List.size_toArray]; omega)) ⟨e, ?_⟩
  exact ⟨.non, _, I.lset (its' := []) (ys := []) hH e rfl .nil (Nat.zero_le _), rfl, q⟩

/-! ### list + list, list += list, list * int -/
def rCat : R2 := fun x y H Q => ∃ l b xs zs, x = .ref l ∧ y = .ref b ∧ H l = some (.lst xs) ∧ H b = some (.lst zs) ∧ xs.length + zs.length ≤ sizeLine ∧ ∀ p, H p = none → Q (.ref p) (upd H p (.lst (xs ++ zs)))
theorem op_cat : OpR X (binaryOp .Add) rCat := by
  intro pins s σ H x y v u Q I rx ry h
  obtain ⟨l, b, xs, zs, rfl, rfl, hH, hB, hz, q⟩ := h
  cases rx
  cases ry
  obtain ⟨z, its, n, r, hl, e⟩ := I.lstM hH
  obtain ⟨z2, its2, n2, r2, hl2, e2⟩ := I.lstM hB
  refine PySem.P.add_list e e2 ?_ (by rw [List.size_toArray, List.size_toArray]; omega)
  have ea : its.toArray ++ its2.toArray = (its ++ its2).toArray := by simp
  rw [ea]
  exact ⟨.ref _, _, I.lnew (t' := s.toks) (r.append r2) (by rw [List.length_append]; omega), rfl, q _ I.fresh⟩
/-! ### del xs[i] -/
end

/-! ### xs[a:b] = ys -/
section
variable {prog : Program} {w : World} {A : Around} {E : Value → Shared → Prop} {s : Shared}
end

section
variable {X : Cx}
end
end L2

namespace L2
open PySem PySem.Spec PyProof.Rows

/-! ### lists of pairs as tables -/
section
variable {κ : Type} [DecidableEq κ]
def valV (kvs : List (κ × V)) (k : κ) : Option V := (kvs.find? fun kv => decide (kv.1 = k)).map (·.2)
/-- in its place, or at the end -/
def putK (kvs : List (κ × V)) (k : κ) (v : V) : List (κ × V) :=
  if (kvs.any fun kv => decide (kv.1 = k)) = true then kvs.map (fun kv => if kv.1 = k then (kv.1, v) else kv) else kvs ++ [(k, v)]
theorem valV_pos {p : κ × V} {r : List (κ × V)} {k : κ} (e : p.1 = k) : valV (p :: r) k = some p.2 := by simp [valV, List.find?_cons, e]
theorem valV_neg {p : κ × V} {r : List (κ × V)} {k : κ} (e : ¬ p.1 = k) : valV (p :: r) k = valV r k := by simp [valV, List.find?_cons, e]
theorem valV_any (k : κ) : ∀ kvs : List (κ × V), (kvs.any fun kv => decide (kv.1 = k)) = (valV kvs k).isSome
  | [] => rfl
  | p :: r => by
    rw [List.any_cons]
    by_cases e : p.1 = k
    · simp only [valV_pos e, decide_eq_true e, Bool.true_or, Option.isSome_some]
    · rw [valV_neg e, decide_eq_false e, Bool.false_or]; exact valV_any k r
theorem length_putK (kvs : List (κ × V)) (k : κ) (v : V) : (putK kvs k v).length ≤ kvs.length + 1 := by
  unfold putK
  split
  · rw [List.length_map]; omega
  · rw [List.length_append, List.length_cons, List.length_nil]; omega
theorem RelO.isSome_eq {o : Option V} {u : Option Value} (r : RelO o u) : o.isSome = u.isSome := by
  cases o with
  | none => cases u with
    | none => rfl
    | some _ => exact (show False from r).elim
  | some _ => cases u with
    | none => exact (show False from r).elim
    | some _ => rfl
theorem KV.any {kvs : List (κ × V)} {vs : List (κ × Value)} (r : KV kvs vs) (k : κ) : (kvs.any fun kv => decide (kv.1 = k)) = vs.any fun kv => decide (kv.1 = k) := by
  unfold KV at r
  induction r with
  | nil => rfl
  | cons h t ih => rw [List.any_cons, List.any_cons, ih, h.1]
theorem KV.repl {kvs : List (κ × V)} {vs : List (κ × Value)} (r : KV kvs vs) (k : κ) {y : V} {u : Value} (ry : RelV y u) :
    KV (kvs.map fun kv => if kv.1 = k then (kv.1, y) else kv) (vs.map fun kv => if kv.1 = k then (kv.1, u) else kv) := by
  unfold KV at r ⊢
  induction r with
  | nil => exact .nil
  | @cons p q ps qs h t ih =>
    rw [List.map_cons, List.map_cons]
    refine .cons ?_ ih
    obtain ⟨h1, h2⟩ := h
    by_cases e : p.1 = k
    · rw [if_pos e, if_pos (h1.symm.trans e)]; exact ⟨h1, ry⟩
    · rw [if_neg e, if_neg (fun z => e (h1.trans z))]; exact ⟨h1, h2⟩
theorem KV.put {kvs : List (κ × V)} {vs : List (κ × Value)} (r : KV kvs vs) (k : κ) {y : V} {u : Value} (ry : RelV y u) : KV (putK kvs k y) (stored vs k u) := by
  unfold putK stored
  rw [r.any k]
  by_cases e : (vs.any fun kv => decide (kv.1 = k)) = true
  · rw [if_pos e, if_pos e]; exact r.repl k ry
  · rw [if_neg e, if_neg e]; exact Paired.snoc r ⟨rfl, ry⟩
theorem KV.length {kvs : List (κ × V)} {vs : List (κ × Value)} (r : KV kvs vs) : kvs.length = vs.length := Paired.length r
end


/-! ### a tracked dict, its keys ints and texts or tuples of these -/
theorem kV_is {P : Program} {w : World} {k : Key} {u : Value} (r : RelV (kV k) u) : (mixKind P w).is k u = true := by
  cases k with
  | inl i => obtain ⟨t, e⟩ := (show ∃ t, u = Value.int i t from r); subst e; exact mixKind_int P w i t
  | inr x => obtain ⟨t, e⟩ := (show ∃ t, u = Value.str x t from r); subst e; exact mixKind_str P w x t
theorem items_are {P : Program} {w : World} : ∀ {ks : List Key} {us : List Value}, Vals (ks.map kV) us → ItemsAre (mixKind P w) ks us
  | [], _, r => by rw [List.map_nil] at r; cases r; exact .nil
  | k :: ks, _, r => by
    rw [List.map_cons] at r
    cases r with
    | cons h t => exact .cons (kV_is h) (items_are t)

/-- raw entries of a dict with tuple keys -/
abbrev KT (H : Hp) : List (List Key × V) → List (List Key × Addr × Value) → Prop := Paired fun p q => p.1 = q.1 ∧ H q.2.1 = some (.tup (p.1.map kV)) ∧ RelV p.2 q.2.2
theorem KT.val {H : Hp} {kvs : List (List Key × V)} {xs : List (List Key × Addr × Value)} (r : KT H kvs xs) (k : List Key) : RelO (valV kvs k) ((atKey xs k).map (·.2)) := by
  induction r with
  | nil => exact True.intro
  | @cons p q ps qs h t ih =>
    obtain ⟨h1, _, h2⟩ := h
    by_cases e : p.1 = k
    · have e' : q.1 = k := h1.symm.trans e
      have b : atKey (q :: qs) k = some q.2 := by simp [atKey, List.find?_cons, e']
      rw [valV_pos e, b]; exact h2
    · have e' : ¬ q.1 = k := fun z => e (h1.trans z)
      have b : atKey (q :: qs) k = atKey qs k := by simp [atKey, List.find?_cons, e']
      rw [valV_neg e, b]; exact ih
theorem KT.repl {H : Hp} {kvs : List (List Key × V)} {xs : List (List Key × Addr × Value)} (r : KT H kvs xs) (k : List Key) {y : V} {u : Value} (ry : RelV y u) :
    KT H (kvs.map fun kv => if kv.1 = k then (kv.1, y) else kv) (xs.map (putAt k u)) := by
  induction r with
  | nil => exact .nil
  | @cons p q ps qs h t ih =>
    rw [List.map_cons, List.map_cons]
    refine .cons ?_ ih
    obtain ⟨h1, h2, h3⟩ := h
    unfold putAt
    by_cases e : p.1 = k
    · rw [if_pos e, if_pos (h1.symm.trans e)]; exact ⟨h1, h2, ry⟩
    · rw [if_neg e, if_neg (fun z => e (h1.trans z))]; exact ⟨h1, h2, h3⟩
theorem KT.put {H : Hp} {kvs : List (List Key × V)} {xs : List (List Key × Addr × Value)} (r : KT H kvs xs) (k : List Key) {b : Addr} {y : V} {u : Value} (hb : H b = some (.tup (k.map kV))) (ry : RelV y u) :
    KT H (putK kvs k y) (storedH xs k b u) := by
  have e : (kvs.any fun kv => decide (kv.1 = k)) = (atKey xs k).isSome := by
    rw [valV_any, (r.val k).isSome_eq, Option.isSome_map]
  unfold putK storedH
  rw [e]
  by_cases q : (atKey xs k).isSome = true
  · rw [if_pos q, if_pos q]; exact r.repl k ry
  · rw [if_neg q, if_neg q]; exact Paired.snoc r ⟨rfl, hb, ry⟩
theorem KT.keeps {H H' : Hp} {kvs : List (List Key × V)} {xs : List (List Key × Addr × Value)} (r : KT H kvs xs) (ht : ∀ b ys, H b = some (.tup ys) → H' b = some (.tup ys)) : KT H' kvs xs :=
  Paired.mapP r fun _ _ z => ⟨z.1, ht _ _ z.2.1, z.2.2⟩

section
variable {P : Program} {w : World} {H : Hp} {h : Heap} {a : Addr}
theorem rd_of {u : HO} (ok : HOk P w H h) (e : Rd H a u) : ObjOk P w H h a u := e.ok ok
theorem dk_rd {kvs : List (Key × V)} (ok : HOk P w H h) (e : Rd H a (.dK kvs)) : kvs.length ≤ sizeLine ∧ (a == sysModules) = false ∧ ∃ vs, KV kvs vs ∧ h.DictOf (mixKind P w) a vs :=
  show ObjOk P w H h a (.dK kvs) from rd_of ok e
theorem dk_of {kvs : List (Key × V)} (ok : HOk P w H h) (e : H a = some (.dK kvs)) : kvs.length ≤ sizeLine ∧ (a == sysModules) = false ∧ ∃ vs, KV kvs vs ∧ h.DictOf (mixKind P w) a vs := dk_rd ok (.inl e)
/-- a tracked tuple of ints and texts is a key -/
theorem key_of {ks : List Key} (ok : HOk P w H h) (e : H a = some (.tup (ks.map kV))) : (tupleKind (mixKind P w)).is h ks a := by
  obtain ⟨_, its, r, o, h1, h2, n, h3⟩ := (show ObjOk P w H h a (.tup (ks.map kV)) from ok a _ e)
  exact ⟨o, its.toArray, n, h1, h2, h3, by simpa using items_are r⟩
theorem dt_rd {kvs : List (List Key × V)} (ok : HOk P w H h) (e : Rd H a (.dT kvs)) : kvs.length ≤ sizeLine ∧ (a == sysModules) = false ∧
    ∃ xs, KT H kvs xs ∧ h.DictOfH (tupleKind (mixKind P w)) a xs := by
  obtain ⟨z, y, xs, r, o, es, ep, h1, h2, h3, h4, h5⟩ := (show ObjOk P w H h a (.dT kvs) from rd_of ok e)
  refine ⟨z, y, xs, r, o, es, ep, h1, h2, h3, h4, fun x hx => ?_, h5⟩
  have all : ∀ {l : List (List Key × V)} {m : List (List Key × Addr × Value)}, KT H l m → ∀ x ∈ m, (tupleKind (mixKind P w)).is h x.1 x.2.1 := by
    intro l m q
    induction q with
    | nil => intro x hx; exact nomatch hx
    | @cons p q ps qs hq t ih =>
      intro x hx
      rcases List.mem_cons.mp hx with e | hx
      · subst e
        exact key_of ok (by rw [← hq.1]; exact hq.2.1)
      · exact ih x hx
  exact all r x hx
theorem dt_of {kvs : List (List Key × V)} (ok : HOk P w H h) (e : H a = some (.dT kvs)) : kvs.length ≤ sizeLine ∧ (a == sysModules) = false ∧
    ∃ xs, KT H kvs xs ∧ h.DictOfH (tupleKind (mixKind P w)) a xs := dt_rd ok (.inl e)
end

/-- the heap behind a[y] = v -/
def DPut (H : Hp) (a : Addr) (y v : V) (H' : Hp) : Prop :=
  (∃ kvs k, H a = some (.dK kvs) ∧ y = kV k ∧ kvs.length < sizeLine ∧ H' = upd H a (.dK (putK kvs k v))) ∨
  ∃ kvs k b, H a = some (.dT kvs) ∧ y = .ref b ∧ H b = some (.tup (k.map kV)) ∧ kvs.length < sizeLine ∧ H' = upd H a (.dT (putK kvs k v))
theorem DPut.k {H : Hp} {a : Addr} {kvs : List (Key × V)} {k : Key} {v : V} (e : H a = some (.dK kvs)) (hl : kvs.length < sizeLine) : DPut H a (kV k) v (upd H a (.dK (putK kvs k v))) := .inl ⟨kvs, k, e, rfl, hl, rfl⟩
section
variable {X : Cx} {pins : List (Addr × Obj)} {σ : St} {H : Hp} {s : Shared} {a : Addr} {y v : V} {u r : Value} {o : Option V} {A : Around} {E : Value → Shared → Prop}

theorem Inv.big (I : Inv X pins σ H s) : sysModules < s.heap.objs.size := by
  have h : mainGlobals < s.heap.objs.size := (I.mod.glob.keeps I.bk).lt
  exact Nat.lt_trans (by decide) h

/-- a dict's object is replaced -/
theorem d_write {h' : Heap} {t' : Nat} {ob : HO} (I : Inv X pins σ H s) (mu : Mut (H a)) (hs : Heap.SameBut a s.heap h') (he : ∃ q, h'.get? a = some q) (new : ObjOk X.prog X.w (upd H a ob) h' a ob) :
    Inv X pins σ (upd H a ob) { s with heap := h', toks := t' } :=
  I.write (x := a) (e := a) mu (.inl rfl) (fun b q hb z => (hs.2 b hb).trans z) he new
theorem dk_new {P : Program} {w : World} {H' : Hp} {h' : Heap} {kvs : List (Key × V)} {vs : List (Key × Value)} (z : kvs.length ≤ sizeLine) (hd : (a == sysModules) = false) (rel : KV kvs vs) (dd : h'.DictOf (mixKind P w) a vs) :
    ObjOk P w H' h' a (.dK kvs) := ⟨z, hd, vs, rel, dd⟩
/-- d[y] = v -/
theorem d_setItem {H' : Hp} {Q : Unit → Shared → Prop} (hu : A.units + 1 < cLine) (I : Inv X pins σ H s) (g : DPut H a y v H') (ry : RelV y u) (rv : RelV v r) (h : ∀ s', Inv X pins σ H' s' → Q () s') :
    wpAny (model X.prog X.w) A (setItem (.ref a) u r) Q E s := by
  rcases g with ⟨kvs, k, e, ey, l, eH⟩ | ⟨kvs, k, b, e, ey, eb, l, eH⟩
  · subst ey eH
    obtain ⟨z, hd, vs, rel, dd⟩ := dk_of I.hok e
    have hz : vs.length ≤ sizeLine := by rw [← rel.length]; exact z
    have hl : (putK kvs k v).length ≤ sizeLine := by have := length_putK kvs k v; omega
    refine wpAny_setItem_pairs (hsz := hz) (kV_is ry) dd fun h' dd' hs => h _ ?_
    have he : ∃ q, h'.get? a = some q := let ⟨q, _, _, hq, _⟩ := dd'; ⟨q, hq⟩
    exact d_write I (by rw [e]; exact True.intro) hs he (dk_new hl hd (rel.put k rv) dd')
  · subst ey eH
    cases (show u = Value.ref b from ry)
    obtain ⟨z, hd, xs, rel, dd⟩ := dt_of I.hok e
    have hz : xs.length ≤ sizeLine := by rw [← Paired.length rel]; exact z
    have hl : (putK kvs k v).length ≤ sizeLine := by have := length_putK kvs k v; omega
    refine wpAny_setItem_heap (hsz := hz) (tupleKind_room_in1 hu) (key_of I.hok eb) dd fun h' dd' hs => h _ ?_
    obtain ⟨q, es, ep, hq, h2, h3, h4, _, h5⟩ := dd'
    refine d_write I (by rw [e]; exact True.intro) hs ⟨q, hq⟩ ⟨hl, hd, _, (rel.put k eb rv).keeps fun c ys ec => ?_, q, es, ep, hq, h2, h3, h4, h5⟩
    rw [upd_ne (ne_of ec e (fun z => nomatch z))]
    exact ec
end

section
variable {X : Cx} {pins : List (Addr × Obj)} {σ : St} {H : Hp} {s : Shared} {a : Addr} {kvs : List (Key × V)} {k : Key} {u : Value} {A : Around} {E : Value → Shared → Prop}
end


/-! ### readings and rules -/
/-- the element of a subscription, not a slice -/
def NoSl (i : Expr) : Prop := ∀ ov iv, subscripted i false ov iv = operate [ov, iv] (getItem ov iv)
theorem subD_of {prog : Program} {w : World} {A : Around} {E : Value → Shared → Prop} {s : Shared} {env : Env} {value slice : Expr} {pos : Pos} {T id : String} {Q : Value → Shared → Prop}
    (hl : typeLookup (.type T) "__getitem__" = pure (some (.builtin id))) (hs : NoSl slice)
    (h : wpAny (model prog w) A (eval value env) (fun o s₁ => wpAny (model prog w) A (eval slice env) (fun i s₂ => s₂.TypeIs o T ∧ wpAny (model prog w) A (getItem o i) Q E s₂) E s₁) E s) :
    wpAny (model prog w) A (eval (.Subscript value slice pos) env) Q E s := by
  refine Subscript_ (wpAny_mono h (fun o s₁ h₁ => wpAny_mono h₁ (fun i s₂ h₂ => ?_) fun _ _ x => x) fun _ _ x => x)
  obtain ⟨hT, h₂⟩ := h₂
  unfold subscriptTail
  refine wpAny_bind ?_
  rw [getitemInPython_of_ne hT.not_modules]
  refine wpAny_bind (wpAny_specialOf hT hl ?_)
  have fin : wpAny (model prog w) A (subscripted slice false o i) (fun r s₃ => wpAny (model prog w) A (letTemporaryGo value o r >>= fun _ => pure r) Q E s₃) E s₂ := by
    rw [hs o i]
    exact wpAny_operating (wpAny_mono h₂ (fun r s₃ h₃ => wpAny_bind (wpAny_letTemporaryGo (wpAny_pure h₃))) fun _ _ x => x)
  first
    | exact wpAny_pure (wpAny_bind fin)
    | exact wpAny_bind (wpAny_pure (wpAny_bind fin))
    | exact wpAny_bind fin

/-- d[y] = v -/
def sDPut (td ty tv : TE) : TS := fun D σ H => tv σ H fun v H1 => td σ H1 fun x H2 => ty σ H2 fun y H3 => ∃ a H4, x = .ref a ∧ DPut H3 a y v H4 ∧ D.nx σ H4
section
variable {X : Cx} {o i e value : Expr} {pos pos' tpos : Pos} {td ty tv : TE}
theorem ps_dput (hu : X.A.units + 1 < cLine) (ho : PE X o td) (hi : PE X i ty) (hv : PE X value tv) (hs : swapsWith value (some (.Subscript o i pos')) pos.line X.env = pure false) :
    PS X (.Assign [.Subscript o i pos'] value pos) (sDPut td ty tv) := by
  refine ⟨?_⟩
  intro pins s σ H D I h
  refine wpAny_Assign_Subscript (thn (hv pins s σ H _ I h) fun r s1 ⟨v, H1, I1, rv, q1⟩ => thn (ho pins s1 σ H1 _ I1 q1) fun u s2 ⟨x, H2, I2, rx, q2⟩ => thn (hi pins s2 σ H2 _ I2 q2) fun iv s3 ⟨y, H3, I3, ry, a, H4, ex, g, q3⟩ => ?_) hs
  subst ex
  obtain rfl : u = Value.ref a := rx
  exact d_setItem hu I3 g ry rv fun s4 I4 => ⟨σ, H4, I4, q3⟩
end


/-! ### displays -/
theorem dk_empty {P : Program} {w : World} {H : Hp} (h : Heap) (hb : sysModules < h.objs.size) : ObjOk P w H (h.push { cls := .type "dict", data := .dict #[] }) h.objs.size (.dK []) :=
  ⟨Nat.zero_le _, beq_eq_false_iff_ne.mpr (Ne.symm (Nat.ne_of_lt hb)), [], .nil, Heap.DictOf.new h⟩
/-- {}, to be a dict of the kind that is wanted -/
def tDNewK : TE := fun _ H Q => ∀ p, H p = none → Q (.ref p) (upd H p (.dK []))
section
variable {X : Cx} {pos : Pos}
theorem pe_dnewK : PE X (.Dict [] [] pos) tDNewK := ⟨fun pins s σ H Q I h =>
  wpAny_Dict_empty ⟨.ref s.heap.objs.size, _, I.laid (a := s.heap.objs.size) (o := .dK []) (t' := s.toks) (fun _ _ q => Heap.get?_push_of_some _ q) (Nat.le_refl _) (dk_empty s.heap I.big), rfl, h _ (I.hok.fresh (Nat.le_refl _))⟩⟩
end

/-- the pairs of a display, from the left -/
def tPairs : List (TE × TE) → St → Hp → (List (V × V) → Hp → Prop) → Prop
  | [], _, H, Q => Q [] H
  | (tk, tv) :: r, σ, H, Q => tk σ H fun x H1 => tv σ H1 fun y H2 => tPairs r σ H2 fun ps H3 => Q ((x, y) :: ps) H3
/-! ### methods -/
/-- a method call o.m(e) of a built-in, with one argument: what must be seen of the text -/
structure M1 (X : Cx) (o : Expr) (m : Str) (apos : Pos) (e : Expr) (cpos : Pos) : Prop where
  base : attributeBase o m X.env (eval o X.env) = eval o X.env
  few : ((backTo cpos (starEach [e] X.env)).all (fun x => !x.1) && (backToKw cpos (keywordEach [] X.env)).all (fun x => x.1.isSome)
    && decide (([e] : List Expr).length + ([] : List Keyword).length + (if ([] : List Keyword).isEmpty then 0 else 1) < 30)) = true
  line : (apos.endLine == cpos.line) = true
  trees : backTo cpos (starEach [e] X.env) = [(false, eval e X.env)]
section
variable {X : Cx} {pins : List (Addr × Obj)} {σ : St} {H : Hp} {s : Shared} {a : Addr} {y d : V} {u r : Value} {o : Option V} {A : Around} {E : Value → Shared → Prop}
end

section
variable {X : Cx} {o e f : Expr} {apos cpos : Pos} {td ty tx : TE}
end

/-! ### dict(d): a copy -/
section
variable {X : Cx} {pins : List (Addr × Obj)} {σ : St} {H : Hp} {s : Shared} {a : Addr} {kvs : List (Key × V)} {A : Around} {E : Value → Shared → Prop}
end


section
variable {X : Cx} {pins : List (Addr × Obj)} {σ : St} {H : Hp} {s : Shared} {a : Addr} {y : V} {u : Value} {A : Around} {E : Value → Shared → Prop}
end
end L2
namespace Att
open PySem PySem.W PySem.Calls PyProof.Rows

/-! ### the script -/
theorem ints_of_wellAll {P : Params} {h : Heap} : ∀ (ns : List Int) (vs : List Value), WellAll P h vs (ns.map WData.int) → IntsAre vs ns := by
  intro ns
  induction ns with
  | nil =>
    intro vs w
    rw [List.map_nil] at w
    cases w
    exact .nil
  | cons n ns ih =>
    intro vs w
    rw [List.map_cons] at w
    cases w with
    | cons a b =>
      cases a
      exact .cons _ _ (ih _ b)

theorem script_of {l : OpenLaw} {n : Nat} (hn : l.most = some n) {P : Params} {h : Heap} {args : List WData} {vals : List Value}
    (hpre : l.row.toRowW.claim.pre args = true) (hwl : WellAll P h vals args) :
    ∃ a vs ns, vals = [Value.ref a] ∧ args = [WData.list (ns.map WData.int)] ∧ h.get? a = some { cls := .type "list", data := .seq vs.toArray } ∧ IntsAre vs ns ∧ ns.length ≤ n := by
  have hsh : WShape.hasAll [] args [.list .int] = true := (pre_splitW hpre).1
  have hc : l.pre.holds [] { args := args } = true := (pre_splitW hpre).2
  obtain ⟨d, r, rfl, h1, h2⟩ := hasAllW_cons hsh
  obtain rfl := hasAllW_nil h2
  obtain ⟨xs, rfl, h3⟩ := hasW_list h1
  obtain ⟨ns, rfl⟩ := items_int h3
  have hlen : ns.length ≤ n := by
    unfold OpenLaw.pre at hc
    have h4 : (WTm.not (.lt (.lit (.int (n : Int))) (.len (.arg 0)))).holds [] { args := [.list (ns.map .int)] } = true := by
      have h4 := (holds_andW hc).1
      rw [hn] at h4
      exact h4
    have h5 := condW_of h4 (w_not (w_lt w_lit (w_len_list (w_arg rfl))))
    rw [List.length_map] at h5
    refine Nat.le_of_not_lt fun q => ?_
    have q' : (n : Int) < ((ns.length : Nat) : Int) := by omega
    first
      | (rw [decide_eq_true q'] at h5; exact absurd h5 (by decide))
      | (simp at h5; omega)
  cases hwl with
  | cons w1 w2 =>
    cases w2
    cases w1 with
    | list ho hall => exact ⟨_, _, ns, rfl, rfl, ho, ints_of_wellAll ns _ hall, hlen⟩

theorem post_true (l : OpenLaw) (args : List WData) : l.row.toRowW.claim.post args (.bool true) args = true :=
  postW_of (r := l.row.toRowW) (X := (true == true))
    (show WShape.has [] (.bool true) .bool = true by first | rfl | decide | simp [WShape.has, WShape.arms, WShape.armsAll])
    (show (WTm.eq .res (.lit (.bool true))).value [] { args := args, res := some (.bool true), after := args } = some (.bool (true == true)) from w_eq_bool (w_res rfl) w_lit) rfl

/-! ### the attachment: holds_open's last premise (the goal 'hc' behind k_head) from a wpAny of the law's body -/
/-- the same from a codeAny of the CALL (for a layer whose function contracts speak of calls) -/
theorem attach_call {l : OpenLaw} {n : Nat} {q : Program} {loose : List Str} {XP : (Str → Option Value) → Heap → Prop} {YP : World → Heap → Prop} {d : DefRec}
    (hn : l.most = some n) (hdf : d.params.defaults = [])
    (call : ∀ (w : World) (s₀ s₁ : Shared) (mg mb : Str → Option Value) (fa : Addr) (o : Obj) (pm cd doc : Value) (a : Addr) (vs : List Value) (ns : List Int),
      Ground q loose [] XP w s₀ mg mb s₁.heap → YP w s₁.heap →
      s₁.heap.get? fa = some o → o.data = .func (docDef d.name d.params d.body d.scope pm cd doc) → s₁.heap.CodeRec cd d.name → mg d.name = some (.ref fa) →
      s₁.heap.get? a = some { cls := .type "list", data := .seq vs.toArray } → IntsAre vs ns → ns.length ≤ n → s₁.gens = #[] →
      codeAny (model l.prog w) callerA (.call (.ref fa) ⟨[.ref a], []⟩) (fun r s' => r = .ok (.ret (.bool true)) ∧ OldK s₁.heap s'.heap ∧ s'.os = s₁.os ∧ AllBare s'.gens) s₁) :
    WalkO q loose XP YP l.row.toRowW d [] (fun f vs => PySem.call f vs) := by
  intro w s₀ s₁ mg mb G Y fa o pm cd doc dV kV ho hd hcd hD hmg hg args vals as hpre hlay hrd hwl hlo
  obtain rfl : dV = .none := Dflts.none hD hdf
  obtain rfl : kV = .none := Dflts.noKw hD
  obtain ⟨a, vs, ns, rfl, rfl, hobj, hints, hlen⟩ := script_of hn hpre hwl
  refine enter_call (codeAny_mono (call w s₀ s₁ mg mb fa o pm cd doc a vs ns G Y ho (fd_plain hd) hcd hmg hobj hints hlen hg) fun r s' hq => ?_)
  obtain ⟨rfl, h2, h3, h4⟩ := hq
  exact ⟨.inl ⟨.bool true, .bool true, [], rfl, fun _ => rfl, .bool true, post_true l _, fun _ => ⟨List.Pairwise.nil, fun _ hm => (nomatch hm)⟩⟩, h2, h3, h4⟩

/-! ### rules over ANY heap (no ledger) from facts about the written part K: the library's own take a ledger (News) for what they write -/
section
variable {prog : Program} {w : World} {A : Around} {E : Value → Shared → Prop} {s : Shared} {K : Frag}

/-! the whole heap as the ledger: makes every rule that writes through a ledger a rule over any heap -/
def ledger (h : Heap) (L d : Addr) : List (Addr × Obj) := (List.range h.objs.size).filterMap fun a => if a = L ∨ a = d then none else (h.get? a).map fun o => (a, o)
end
end Att

namespace L2
open PySem PySem.Spec PyProof.Rows

theorem vals_ints : ∀ {vs : List Value} {ns : List Int}, IntsAre vs ns → Vals (ns.map V.int) vs
  | _, _, .nil => .nil
  | _, _, .cons n t h => .cons ⟨t, rfl⟩ (vals_ints h)

/-- nothing is tracked but the script, known to the object (or it is an object of the module) -/
def Only (H : Hp) : Prop := ∀ b, H b = none ∨ ∃ o xs, H b = some (.frz o (.lst xs))

/-- THE HEAD: the law's promise, at the heap behind the top. F, the promise of the law's def, may use that base is part of the heap (so K.In base, base.Ns mainGlobals mg stand in Mod) -/
theorem law_call {P : Program} {w : World} {K : PySem.W.Frag} {mg mb : Str → Option Value} {CX : CXT} {k : Nat} {fa a : Addr} {fd : FuncData} {x : Str} {sp : Sp} {s₁ : Shared} {vs : List Value} {ns : List Int}
    (KX : K.In s₁.heap) (hns : s₁.heap.Ns mainGlobals mg) (hb : s₁.heap.Ns builtinsNs mb) (hbb : ∀ x : Str, x ≠ "__name__" → mb x = bootBuiltins x) (hlim : s₁.heap.NoLimit) (hg : s₁.gens = #[])
    (ha : s₁.heap.get? a = some { cls := .type "list", data := .seq vs.toArray }) (hi : IntsAre vs ns) (hl : ns.length ≤ sizeLine) (hr : Room k callerA)
    (F : ∀ base : Heap, K.In base → base.Ns mainGlobals mg → FnOk P w K mg base CX k fa fd [x] sp) (hbind : ∀ (s : Shared) (u : Value), BindsTo s fd ⟨[u], []⟩ [(x, u)])
    (hsp : ∀ H : Hp, Only H → SqL K H a (ns.map V.int) → sp [.ref a] H (fun v _ => v = .bl true) fun _ _ _ => False)
    (hCX : ∀ H e s', CX [] H s₁ (fun _ _ _ => False) e s' → False) :
    codeAny (model P w) callerA (.call (.ref fa) ⟨[.ref a], []⟩) (fun r s' => r = .ok (.ret (.bool true)) ∧ OldK s₁.heap s'.heap ∧ s'.os = s₁.os ∧ AllBare s'.gens) s₁ := by
  have rv := vals_ints hi
  have lenV := hi.length
  -- from an abstract heap in which nothing but the script may be tracked
  have core : ∀ H : Hp, Only H → SqL K H a (ns.map V.int) → HOk P w H s₁.heap → (∀ b, H b ≠ none → b = a) → (H a ≠ none → K.lookup a = none) →
      codeAny (model P w) callerA (.call (.ref fa) ⟨[.ref a], []⟩) (fun r s' => r = .ok (.ret (.bool true)) ∧ OldK s₁.heap s'.heap ∧ s'.os = s₁.os ∧ AllBare s'.gens) s₁ := by
    intro H hO hS hok hA hK
    have base_of : ∀ {b : Addr} {o : Obj}, s₁.heap.get? b = some o → H b = none → (hidT s₁.heap H).get? b = some o := fun e n => hidT_get e n
    have noA : ∀ {b : Addr} {o : Obj} {es : Array DictEntry} {ep : Nat}, s₁.heap.get? b = some o → o.data = .dict es ep → H b = none := fun {b o es ep} e d => by
      cases q : H b with
      | none => rfl
      | some u =>
        have e' : b = a := hA b (by rw [q]; simp)
        subst e'
        rw [ha] at e; cases e
        have d' : Data.seq vs.toArray _ = Data.dict es ep := d
        cases d'
    have nsK : ∀ {b : Addr} {m : Str → Option Value}, s₁.heap.Ns b m → (hidT s₁.heap H).Ns b m := fun {b m} ⟨o, es, ep, e, d, r⟩ => ⟨o, es, ep, base_of e (noA e d), d, r⟩
    have hKb : K.In (hidT s₁.heap H) := fun b o e => base_of (KX b o e) (by
      cases q : H b with
      | none => rfl
      | some u =>
        have e' : b = a := hA b (by rw [q]; simp)
        subst e'
        rw [hK (by rw [q]; simp)] at e; cases e)
    have hM : Mod K mg (hidT s₁.heap H) := ⟨hKb, nsK hns, ⟨mb, nsK hb, hbb⟩, let ⟨mc, h1, h2⟩ := hlim; ⟨mc, nsK h1, h2⟩⟩
    have e0 : Env0 P w K mg (hidT s₁.heap H) callerA [] s₁ H := ⟨rfl, hM, fun b o e => of_hidT e, Nat.le_of_eq (hidT_size _ _), trivial, fun b hb => absurd (show b ∈ ([] : List Addr) from hb) (by simp), hok, .of_eq hg⟩
    refine codeAny_mono ((F _ hKb (nsK hns)).run callerA [] s₁ H ⟨[.ref a], []⟩ [.ref a] [.ref a] _ _ hr e0 (hbind s₁ (.ref a)) (.cons rfl .nil) (hsp H hO hS)) fun r s' h => ?_
    cases r with
    | error e => exact (hCX H e s' h).elim
    | ok fl =>
      cases fl with
      | next => exact False.elim h
      | brk => exact False.elim h
      | cont => exact False.elim h
      | ret u =>
        obtain ⟨v, H', os, bare, un, hok', r', q⟩ := h
        have q' : v = .bl true := q
        subst q'
        obtain rfl : u = Value.bool true := r'
        refine ⟨rfl, OldK.of_keep fun b o e => ?_, os, bare⟩
        cases q : H b with
        | none => exact un.keep b o e q (by intro z; exact absurd (show b ∈ ([] : List Addr) from z) (by simp)) (by simp)
        | some u =>
          rcases hO b with z | ⟨ob, xs, z⟩
          · rw [q] at z; cases z
          · have z2 := un.frzs b ob _ z
            obtain ⟨e1, _⟩ := hok b _ z
            obtain ⟨e2, _⟩ := hok' b _ z2
            rw [e] at e1; cases e1
            exact e2
  cases hk : K.lookup a with
  | some o =>
    -- the script is one of the module's own objects
    have e := KX a o hk
    rw [ha] at e
    cases e
    refine core (fun _ => none) (fun _ => .inl rfl) (.inr ⟨_, vs.toArray, _, hk, rfl, rfl, rfl, by rw [List.size_toArray, lenV]; exact hl, by simpa using rv⟩) (fun b u z => by have z' : (none : Option HO) = some u := z; cases z') (fun b z => absurd rfl z) fun z => absurd rfl z
  | none =>
    refine core (fun b => if b = a then some (.frz { cls := .type "list", data := .seq vs.toArray } (.lst (ns.map V.int))) else none) (fun b => ?_) (.inl (.inr ⟨{ cls := .type "list", data := .seq vs.toArray }, if_pos rfl⟩)) (fun b u z => ?_) (fun b z => ?_) fun _ => hk
    · by_cases hb : b = a
      · exact .inr ⟨_, _, if_pos hb⟩
      · exact .inl (if_neg hb)
    · by_cases hb : b = a
      · have z' := (if_pos hb).symm.trans z
        cases z'
        subst hb
        exact ⟨ha, by rw [List.length_map]; exact hl, vs, _, rv, ha⟩
      · have z' := (if_neg hb).symm.trans z
        cases z'
    · by_cases hb : b = a
      · exact hb
      · exact absurd (if_neg hb) z
end L2

namespace L2
open PySem PySem.Spec PyProof.Rows

/-- the goal that k_head leaves (case hc), from the law's promise. F gives the function object fd (K's own) once, then the promise over every base -/
theorem walk_of {l : PySem.W.OpenLaw} {n k : Nat} {q : Program} {loose : List Str} {XP : (Str → Option Value) → Heap → Prop} {YP : World → Heap → Prop} {d : DefRec} {K : Params → PySem.W.Frag} {CX : World → CXT} {sp : World → Sp} {x : Str}
    (hn : l.most = some n) (hn2 : n ≤ sizeLine) (hdf : d.params.defaults = []) (hr : Room k callerA)
    (hY : ∀ (w : World) (h : Heap), YP w h → (K w.params).In h)
    (F : ∀ (w : World) (mg : Str → Option Value) (fa : Addr) (h : Heap), (K w.params).In h → h.Ns mainGlobals mg → mg d.name = some (.ref fa) →
      ∃ fd : FuncData, (∀ (s : Shared) (u : Value), BindsTo s fd ⟨[u], []⟩ [(x, u)]) ∧
        ∀ base : Heap, (K w.params).In base → base.Ns mainGlobals mg → FnOk l.prog w (K w.params) mg base (CX w) k fa fd [x] (sp w))
    (hsp : ∀ (w : World) (H : Hp) (a : Addr) (ns : List Int), ns.length ≤ n → Only H → SqL (K w.params) H a (ns.map V.int) → sp w [.ref a] H (fun v _ => v = .bl true) fun _ _ _ => False)
    (hCX : ∀ (w : World) (H : Hp) (s : Shared) (e : Value) (s' : Shared), CX w [] H s (fun _ _ _ => False) e s' → False) :
    PySem.W.WalkO q loose XP YP l.row.toRowW d [] (fun f vs => PySem.call f vs) := by
  refine Att.attach_call hn hdf fun w s₀ s₁ mg mb fa o pm cd doc a vs ns G Y ho hd hcd hmg hobj hints hlen hg => ?_
  have KX := hY w _ Y
  obtain ⟨fd, hb, hF⟩ := F w mg fa _ KX G.T.g hmg
  exact law_call KX G.T.g G.T.b G.T.builtins G.T.nolimit hg hobj hints (Nat.le_trans hlen hn2) hr hF hb (fun H hO hS => hsp w H a ns hlen hO hS) fun H e s' => hCX w H s₁ e s'
end L2


/-! SHORT WORDS over the layer: a def of the text, its body, what a loop and a test want. -/
namespace L2
open PySem PySem.Spec PyProof.Rows

/-! ### the text by places -/
/-- the j-th statement of a class's body -/
def inClass (s : Stmt) (j : Nat) : Stmt := match s with
  | .ClassDef _ _ _ body _ _ _ _ _ _ _ => body.getD j (.Pass ⟨0, 0, 0, 0⟩)
  | _ => .Pass ⟨0, 0, 0, 0⟩
def defArgs (s : Stmt) : Arguments := match s with
  | .FunctionDef _ a _ _ _ _ _ _ _ _ => a
  | _ => { posonlyargs := [], args := [], vararg := none, kwonlyargs := [], kw_defaults := [], kwarg := none, defaults := [] }
def defBody (s : Stmt) : List Stmt := match s with
  | .FunctionDef _ _ b _ _ _ _ _ _ _ => b
  | _ => []
def defScope (s : Stmt) : Scope := match s with
  | .FunctionDef _ _ _ _ _ _ sc _ _ _ => sc
  | _ => { kind := .function, names := [], isGenerator := false, isCoroutine := false }

/-! ### no exception leaves a def -/
abbrev CX0 : CXT := fun _ _ _ _ _ _ => False
abbrev E0 : XK := fun _ _ _ => False
theorem pass0 {X : Cx} : Passes CX0 X E0 := fun _ _ _ _ _ _ _ h => h.elim

/-! ### a def (or method) of the text as it stands behind the top -/
structure Fun (K : PySem.W.Frag) (x qual : Str) (st : Stmt) (f : Addr) (fd : FuncData) : Prop where
  ex : ∃ (oc : Value) (od : Option Addr) (kV doc pm : Value) (an : Option Addr) (cdv ct : Value) (osl : Array (Option Value)),
    fd = PySem.W.fnOf x qual (defArgs st) (defBody st) (defScope st) .none kV doc pm an cdv ct ∧ K.lookup f = some ⟨oc, od, .func fd, osl⟩ ∧ PySem.W.codeIn K cdv qual = true
  kp : PySem.W.keepIn K (.ref f) = true
section
variable {P : Program} {w : World} {K : PySem.W.Frag} {mg : Str → Option Value} {base : Heap}
/-- THE RULE for a def: its body as a term of rules, and the reading of that term -/
theorem Fun.ok {x qual : Str} {st : Stmt} {f : Addr} {fd : FuncData} {N ps : List Str} {k : Nat} {sp : Sp} (F : Fun K x qual st f fd) (S : FnScope N ps (defScope st)) (len : ∀ vs H Q E, sp vs H Q E → vs.length = ps.length)
    (hbody : ∀ (cdv : Value) (A : Around) (outer : List Env) (s : Shared) (H : Hp) (vs : List V) (Q : VK) (E : XK), Room k (A.deeper (envOfC qual (defScope st) s.heap.objs.size f cdv)) → sp vs H Q E →
      ∃ t, PSs (cxOf CX0 P w K mg base N qual (defScope st) f cdv A outer s H E).nox (defBody st) t ∧ t { nx := fun _ H' => Q .non H', rt := Q } (start N vs) H) : FnOk P w K mg base CX0 (k + 1) f fd ps sp := by
  obtain ⟨oc, od, kV, doc, pm, an, cdv, ct, osl, rfl, lk, hcd⟩ := F.ex
  refine fn_of lk hcd S len fun A outer s H vs Q E hr hsp => ?_
  obtain ⟨t, h, q⟩ := hbody cdv A outer s H vs Q E hr hsp
  exact ⟨t, h.nox, q⟩
/-- how its arguments bind (no defaults): h is «fun _ _ _ _ _ _ us hl => match us, hl with | [_, _], _ => rfl», one _ a parameter -/
theorem Fun.binds {x qual : Str} {st : Stmt} {f : Addr} {fd : FuncData} {ps : List Str} (F : Fun K x qual st f fd)
    (h : ∀ (kV doc pm : Value) (an : Option Addr) (cdv ct : Value) (us : List Value), us.length = ps.length → bindArgs (PySem.W.fnOf x qual (defArgs st) (defBody st) (defScope st) .none kV doc pm an cdv ct) ⟨us, []⟩ = pure (ps.zip us)) : Binds K fd ps [] := by
  obtain ⟨oc, od, kV, doc, pm, an, cdv, ct, osl, rfl, lk, hcd⟩ := F.ex
  exact .all (h kV doc pm an cdv ct)
theorem fun_mk {x qual : Str} {st : Stmt} {f : Addr} {oc : Value} {od an : Option Addr} {osl : Array (Option Value)} {kV doc pm cdv ct : Value} (l : K.lookup f = some ⟨oc, od, .func (PySem.W.fnOf x qual (defArgs st) (defBody st) (defScope st) .none kV doc pm an cdv ct), osl⟩)
    (c : PySem.W.codeIn K cdv qual = true) (k : PySem.W.keepIn K (.ref f) = true) : Fun K x qual st f (PySem.W.fnOf x qual (defArgs st) (defBody st) (defScope st) .none kV doc pm an cdv ct) := ⟨⟨oc, od, kV, doc, pm, an, cdv, ct, osl, rfl, l, c⟩, k⟩
end
theorem hu_of {A : Around} {k : Nat} (hr : Room k A) : A.units + 1 < cLine := Nat.lt_of_le_of_lt (Nat.add_le_add_left (by decide : 1 ≤ 64) _) hr.units
theorem small1000 {n : Nat} (h : n ≤ 1000) : n < sizeLine := Nat.lt_of_le_of_lt h (by decide)

/-! ### expressions in short: the name that stands in the i-th slot -/
section
variable {X : Cx}
theorem pv (i : Nat) {x : Str} {pos : Pos} (hN : X.N[i]? = some x := by rfl) (hv : Vis X.env.scope x := by first | exact Or.inl rfl | exact Or.inr (Or.inl rfl) | exact Or.inr (Or.inr rfl)) (hd : (x == ("__debug__" : Str)) = false := by decide)
    (hcd : (x == ("__classdict__" : Str)) = false := by decide) : PE X (.Name x pos) (tVar i) := pe_var hN hv hd hcd
end

/-! ### tests -/
theorem iteF {A B : Prop} (h : B) : if false = true then A else B := by
  rw [if_neg Bool.false_ne_true]
  exact h
theorem iteT {A B : Prop} (h : A) : if true = true then A else B := by
  rw [if_pos rfl]
  exact h
theorem ite2 {c A B : Prop} [Decidable c] (h1 : c → A) (h2 : ¬ c → B) : if c then A else B := by
  by_cases h : c
  · rw [if_pos h]
    exact h1 h
  · rw [if_neg h]
    exact h2 h
/-! ### heaps -/
/-- all that was tracked is as it was -/
def Same (H H' : Hp) : Prop := ∀ b o, H b = some o → H' b = some o
theorem Same.refl (H : Hp) : Same H H := fun _ _ h => h
theorem Same.trans {H H1 H2 : Hp} (a : Same H H1) (b : Same H1 H2) : Same H H2 := fun c o h => b c o (a c o h)
theorem Same.free {H H' : Hp} (e : Same H H') {l : Addr} (h : H' l = Option.none) : H l = Option.none := by
  cases q : H l with
  | none => rfl
  | some o =>
    rw [e l o q] at h
    cases h
theorem Same.seq {K : PySem.W.Frag} {H H' : Hp} {a : Addr} {xs : List V} (e : Same H H') (h : SqL K H a xs) : SqL K H' a xs := by
  rcases h with (h | ⟨o, h⟩) | h
  · exact .inl (.inl (e _ _ h))
  · exact .inl (.inr ⟨o, e _ _ h⟩)
  · exact .inr h

end L2

namespace L2
open PySem PySem.Spec PyProof.Rows
section
variable {X : Cx}
end
/-! ### a dict's pairs: keys that differ -/
section
variable {κ : Type} [DecidableEq κ]
end
end L2

set_option Elab.async false
set_option linter.all false
set_option maxRecDepth 100000
set_option maxHeartbeats 4000000
namespace L2
open PySem PySem.Spec PyProof.Rows

/-! ### a comprehension's block -/
/-- the cells that a block takes along -/
def clB (env : Env) (fr : List Str) : List (Str × Addr) := fr.map fun n => (n, (env.cells.lookup n).getD 0)
theorem clB_look {env : Env} : ∀ {fr : List Str} {x : Str} {c : Addr}, (clB env fr).lookup x = some c → x ∈ fr ∧ c = (env.cells.lookup x).getD 0
  | [], x, c, h => by simp [clB] at h
  | n :: r, x, c, h => by
    have h' : List.lookup x ((n, (env.cells.lookup n).getD 0) :: clB env r) = some c := h
    rw [List.lookup_cons] at h'
    cases e : x == n with
    | true =>
      rw [e] at h'
      have e' : x = n := by simpa using e
      subst e'
      exact ⟨List.mem_cons_self, (Option.some.inj h').symm⟩
    | false =>
      rw [e] at h'
      obtain ⟨h1, h2⟩ := clB_look h'
      exact ⟨List.mem_cons_of_mem _ h1, h2⟩
theorem clB_in {env : Env} : ∀ {fr : List Str} {x : Str}, x ∈ fr → (clB env fr).lookup x = some ((env.cells.lookup x).getD 0)
  | n :: r, x, h => by
    show List.lookup x ((n, (env.cells.lookup n).getD 0) :: clB env r) = _
    rw [List.lookup_cons]
    cases e : x == n with
    | true =>
      have e' : x = n := by simpa using e
      subst e'
      rfl
    | false =>
      rcases List.mem_cons.mp h with z | z
      · subst z; simp at e
      · exact clB_in z
/-- the names of the block as it runs -/
theorem relabel_mem {env : Env} : ∀ {names : List (Str × NameKind)} {x : Str} {k : NameKind},
    (names.map fun (n, k) => if (k == NameKind.free && env.scope.kind == .function && env.kindOf n == some .cell) then (n, NameKind.cell) else (n, k)).lookup x = some k →
    ∃ k0, (x, k0) ∈ names ∧ (k = k0 ∨ (k0 = .free ∧ k = .cell))
  | [], _, _, h => by simp at h
  | (n, k0) :: r, x, k, h => by
    have h' : List.lookup x ((if (k0 == NameKind.free && env.scope.kind == .function && env.kindOf n == some .cell) = true then (n, NameKind.cell) else (n, k0)) ::
      (r.map fun (n, k) => if (k == NameKind.free && env.scope.kind == .function && env.kindOf n == some .cell) then (n, NameKind.cell) else (n, k))) = some k := h
    by_cases hc : (k0 == NameKind.free && env.scope.kind == .function && env.kindOf n == some .cell) = true
    · rw [if_pos hc, List.lookup_cons] at h'
      cases e : x == n with
      | true =>
        rw [e] at h'
        have e' : x = n := by simpa using e
        subst e'
        simp only [Bool.and_eq_true] at hc
        exact ⟨k0, List.mem_cons_self, .inr ⟨by simpa using hc.1.1, (Option.some.inj h').symm⟩⟩
      | false =>
        rw [e] at h'
        obtain ⟨k1, h1, h2⟩ := relabel_mem h'
        exact ⟨k1, List.mem_cons_of_mem _ h1, h2⟩
    · rw [if_neg hc, List.lookup_cons] at h'
      cases e : x == n with
      | true =>
        rw [e] at h'
        have e' : x = n := by simpa using e
        subst e'
        exact ⟨k0, List.mem_cons_self, .inl (Option.some.inj h').symm⟩
      | false =>
        rw [e] at h'
        obtain ⟨k1, h1, h2⟩ := relabel_mem h'
        exact ⟨k1, List.mem_cons_of_mem _ h1, h2⟩
theorem relabel_free {env : Env} (hk : env.scope.kind = .function) : ∀ {names : List (Str × NameKind)} {x : Str}, names.lookup x = some .free → env.kindOf x = some .cell →
    (names.map fun (n, k) => if (k == NameKind.free && env.scope.kind == .function && env.kindOf n == some .cell) then (n, NameKind.cell) else (n, k)).lookup x = some .cell
  | [], _, h, _ => by simp at h
  | (n, k0) :: r, x, h, hx => by
    show List.lookup x ((if (k0 == NameKind.free && env.scope.kind == .function && env.kindOf n == some .cell) = true then (n, NameKind.cell) else (n, k0)) ::
      (r.map fun (n, k) => if (k == NameKind.free && env.scope.kind == .function && env.kindOf n == some .cell) then (n, NameKind.cell) else (n, k))) = some .cell
    rw [List.lookup_cons] at h
    cases e : x == n with
    | true =>
      rw [e] at h
      have e' : x = n := by simpa using e
      subst e'
      have h0 : k0 = .free := Option.some.inj h
      subst h0
      rw [if_pos (by rw [hk, hx]; decide), List.lookup_cons]
      simp
    | false =>
      rw [e] at h
      have ih := relabel_free hk h hx
      split
      · rw [List.lookup_cons, e]; exact ih
      · rw [List.lookup_cons, e]; exact ih

/-- the block's context: entered at s (the iterator and the list stand), its frame at C -/
abbrev compCx (X : Cx) (pins : List (Addr × Obj)) (sc : Scope) (fr Nc : List Str) (fp : List Addr) (s : Shared) (H : Hp) (C : Addr) : Cx :=
  { prog := X.prog, w := X.w, K := X.K, mg := X.mg, base := X.base, A := X.A, N := Nc, s₀ := s, H₀ := H, env := compEnvC sc (clB X.env fr) C X.env,
    outer := X.stack, stack := X.stack, ex := fp, fn := fun _ => false, calm := X.calm, pn := X.pn ++ pins, xe := fun _ _ => False }
/-- what is asked of the block's names -/
structure BlockOk (env : Env) (sc : Scope) (fr : List Str) : Prop where
  kind : sc.kind = .function
  clos : closureFor sc env = pure (clB env fr)
  cells : (fr.all fun n => (env.cells.lookup n).isSome) = true
  names : (sc.names.all fun y => (y.2 != .cell) && (y.2 != .free || fr.contains y.1) && (y.2 != .local || sc.names.lookup y.1 == some .local)) = true
/-- which of the block's names are the def's, at which slot -/
def capChk (N Nc : List Str) (caps : List (Option Nat)) (env : Env) (sc : Scope) (fr : List Str) : Bool :=
  (Nc.zip caps).all fun p => match p.2 with
    | none => true
    | some j => (N[j]? == some p.1) && (env.kindOf p.1 == some .cell) && (sc.names.lookup p.1 == some .free) && fr.contains p.1
def capS (caps : List (Option Nat)) (σ : St) : St := caps.map fun o => match o with
  | none => none
  | some j => (σ[j]?).join
section
variable {X : Cx} {pins : List (Addr × Obj)} {σ : St} {H : Hp} {s : Shared} {sc : Scope} {fr Nc : List Str} {fp : List Addr} {C : Addr}
theorem BlockOk.sub {env : Env} (B : BlockOk env sc fr) {x : Str} {c : Addr} (h : (clB env fr).lookup x = some c) : env.cells.lookup x = some c := by
  obtain ⟨h1, h2⟩ := clB_look h
  have h3 := List.all_eq_true.mp B.cells x h1
  obtain ⟨d, hd⟩ := Option.isSome_iff_exists.mp h3
  rw [hd] at h2 ⊢
  rw [h2]; rfl
theorem BlockOk.free {env : Env} (B : BlockOk env sc fr) {x : Str} {k : NameKind} (h : (relabel sc env).names.lookup x = some k) (hk : k = .cell ∨ k = .free) : x ∈ fr := by
  obtain ⟨k0, h1, h2⟩ := relabel_mem h
  have h3 := List.all_eq_true.mp B.names _ h1
  simp only [Bool.and_eq_true, Bool.or_eq_true, bne_iff_ne, ne_eq, List.contains_iff_mem] at h3
  have h4 : k0 = .free := by
    rcases h2 with h2 | ⟨h2, _⟩
    · subst h2
      rcases hk with z | z
      · exact absurd z h3.1.1
      · exact z
    · exact h2
  rcases h3.1.2 with z | z
  · exact absurd h4 z
  · exact z
theorem comp_ok (I : Inv X pins σ H s) (B : BlockOk X.env sc fr) (hf : ∀ b ∈ fp, FpOk X pins H b) (ho : ∀ b ∈ fp, ∃ o, s.heap.get? b = some o) (hC : s.heap.objs.size ≤ C) : (compCx X pins sc fr Nc fp s H C).Ok where
  mod := I.ok.mod
  kind := B.kind
  glob := I.ok.glob
  blt := I.ok.blt
  above := hC
  inj := fun x y c h1 h2 => I.ok.inj x y c (B.sub h1) (B.sub h2)
  has := fun x h => by
    have hx : x ∈ fr := by
      rcases h with h | h
      · exact B.free h (.inl rfl)
      · exact B.free h (.inr rfl)
    exact ⟨_, clB_in hx⟩
  cab := fun x c h => absurd h (by simp)
  hd := I.ok.hd
  frames := I.ok.frames
  stk := .inl rfl
  exf := fun b hb => by
    obtain ⟨o, e⟩ := ho b hb
    refine ⟨fun z => ?_, fun x c h => (hf b hb).2.2.2.2.1 x c (B.sub h)⟩
    have z' : b = C := z
    have := Heap.lt_size e
    rw [z'] at this
    exact absurd (Nat.lt_of_lt_of_le this hC) (Nat.lt_irrefl _)
  bs := I.bs
  bsz := Nat.le_trans I.ok.bsz I.sz
  noex := fun b o e hb => by
    rcases (hf b hb).2.2.2.1 with z | z
    · exact I.ok.noex b o e z
    · exact absurd (Nat.lt_of_lt_of_le (Heap.lt_size (I.ok.bs b o e).1) z) (Nat.lt_irrefl _)
  exfs := fun b hb h => by
    rcases List.mem_cons.mp (I.stkSub b h) with z | z
    · exact (hf b hb).2.1 z
    · exact (hf b hb).2.2.1 z
  funs := I.stack
  frf := I.stkFree
theorem Inv.pin_lt (I : Inv X pins σ H s) {p : Addr × Obj} (hp : p ∈ X.pn ++ pins) : p.1 < s.heap.objs.size := Heap.lt_size (I.pin p hp).1
/-- the block at its entry: the list at D, the frame at C, both new -/
theorem comp_start {caps : List (Option Nat)} {h' : Heap} {D : Addr} {m : Str → Option Value} {t' n0 : Nat} (I : Inv X pins σ H s) (B : BlockOk X.env sc fr) (hf : ∀ b ∈ fp, FpOk X pins H b) (ho : ∀ b ∈ fp, ∃ o, s.heap.get? b = some o)
    (hC : s.heap.objs.size ≤ C) (hD : s.heap.objs.size ≤ D) (hDC : D ≠ C) (keep : ∀ b o, s.heap.get? b = some o → h'.get? b = some o) (hl : h'.get? D = some { cls := .type "list", data := .seq ([] : List Value).toArray n0 }) (hn : h'.Ns C m)
    (hcap : capChk X.N Nc caps X.env sc fr = true) (hlen : caps.length = Nc.length) :
    Inv (compCx X pins sc fr Nc fp s H C) [] (capS caps σ) (upd H D (.lst [])) { s with heap := h', toks := t' } := by
  have hk : X.env.scope.kind = .function := I.ok.kind
  have fresh : ∀ a, s.heap.objs.size ≤ a → H a = none := fun a ha => I.hok.fresh ha
  refine ⟨comp_ok I B hf ho hC, rfl, I.bare, Un.laid keep hD (fresh D hD), ⟨m, hn, fun i x v e1 e2 e3 => ?_⟩, fun x c h => ?_, ?_, fun x c h => ?_, fun p hp => ?_, ?_, ?_⟩
  · -- a captured name
    have e2' : (caps[i]?).map (fun o => match o with | none => none | some j => (σ[j]?).join) = some (some v) := by
      have : (capS caps σ)[i]? = some (some v) := e2
      unfold capS at this
      rw [List.getElem?_map] at this
      exact this
    cases hc : caps[i]? with
    | none => rw [hc] at e2'; cases e2'
    | some o =>
      rw [hc] at e2'
      cases o with
      | none => simp at e2'
      | some j =>
        have e4 : (σ[j]?).join = some v := by simpa using e2'
        have e5 : σ[j]? = some (some v) := by
          cases q : σ[j]? with
          | none => rw [q] at e4; cases e4
          | some w' => rw [q] at e4; simp at e4; rw [e4]
        have e6 : (Nc.zip caps)[i]? = some (x, some j) := by
          rw [List.getElem?_zip_eq_some]
          exact ⟨e1, hc⟩
        have e7 := List.all_eq_true.mp hcap _ (List.mem_of_getElem? e6)
        simp only [Bool.and_eq_true, beq_iff_eq, List.contains_iff_mem] at e7
        obtain ⟨⟨⟨a1, a2⟩, a3⟩, a4⟩ := e7
        obtain ⟨m0, hn0, hl0⟩ := I.loc
        obtain ⟨u, r, l⟩ := hl0 j x v a1 e5 (.inr (.inl a2))
        refine ⟨u, r, .inr ⟨.inl (relabel_free hk a3 a2), _, clB_in a4, ?_⟩⟩
        rcases l with ⟨z, _⟩ | ⟨_, c, ec, hcell⟩
        · rw [a2] at z; cases z
        · have : (X.env.cells.lookup x).getD 0 = c := by rw [ec]; rfl
          rw [this]
          exact hcell.keeps keep
  · obtain ⟨v, hv⟩ := I.cell x c (B.sub h)
    exact ⟨v, hv.keeps keep⟩
  · show upd H D (.lst []) C = none
    rw [upd_ne (Ne.symm hDC)]; exact fresh C hC
  · obtain ⟨v, hv⟩ := I.cell x c (B.sub h)
    have : c ≠ D := fun z => by have := hv.lt; rw [z] at this; exact absurd (Nat.lt_of_lt_of_le this hD) (Nat.lt_irrefl _)
    rw [upd_ne this]; exact I.freeC x c (B.sub h)
  · have hp' : p ∈ X.pn ++ pins := by simpa using hp
    obtain ⟨e, n, ne, nf, d⟩ := I.pin p hp'
    have hlt := I.pin_lt hp'
    refine ⟨keep _ _ e, ?_, ?_, fun z => ?_, d⟩
    · rw [upd_ne (fun z => by rw [z] at hlt; exact absurd (Nat.lt_of_lt_of_le hlt hD) (Nat.lt_irrefl _))]; exact n
    · intro z
      have z' : p.1 = C := z
      rw [z'] at hlt; exact absurd (Nat.lt_of_lt_of_le hlt hC) (Nat.lt_irrefl _)
    · rcases List.mem_cons.mp (I.stkSub p.1 z) with q | q
      · exact ne q
      · exact nf q
  · exact I.hok.laid keep hD ⟨Nat.zero_le _, [], n0, .nil, hl⟩
  · show (capS caps σ).length = Nc.length
    unfold capS
    rw [List.length_map, hlen]
/-- back in the def -/
theorem comp_back {pl : List (Addr × Obj)} {σ' : St} {H' : Hp} {s' : Shared} (I : Inv X pins σ H s) (hf : ∀ b ∈ fp, FpOk X pins H b) (J : Inv (compCx X pins sc fr Nc fp s H C) pl σ' H' s') : Inv X pins σ H' s' :=
  I.call' J.os J.base J.hok J.bare fun b hb => ⟨(hf b hb).2.2.2.1, (hf b hb).2.1, (hf b hb).2.2.2.2.1, (hf b hb).2.2.2.2.2⟩
/-- .. the block's frame let go -/
theorem comp_gone {pl : List (Addr × Obj)} {σ' σ2 : St} {H' : Hp} {s' : Shared} {h2 : Heap} {t2 : Nat} (I : Inv X pins σ H s) (J : Inv (compCx X pins sc fr Nc fp s H C) pl σ' H' s') (J2 : Inv X pins σ2 H' s') (hs : Heap.SameBut C s'.heap h2) : Inv X pins σ2 H' { s' with heap := h2, toks := t2 } := by
  have hC : s.heap.objs.size ≤ C := J.ok.above
  refine J2.turned (it := C) (fun b o hb e => (hs.2 b hb).trans e) J.free ?_ (.inr (Nat.le_trans I.sz hC)) (fun x c h z => ?_) fun p hp z => ?_
  · intro z
    have := I.lt
    rw [← z] at this
    exact absurd (Nat.lt_of_lt_of_le this hC) (Nat.lt_irrefl _)
  · obtain ⟨v, hv⟩ := I.cell x c h
    have := hv.lt
    rw [z] at this
    exact absurd (Nat.lt_of_lt_of_le this hC) (Nat.lt_irrefl _)
  · have := I.pin_lt hp
    rw [z] at this
    exact absurd (Nat.lt_of_lt_of_le this hC) (Nat.lt_irrefl _)
end
end L2

set_option Elab.async false
set_option linter.all false
set_option maxRecDepth 100000
set_option maxHeartbeats 4000000
namespace L2
open PySem PySem.Spec PyProof.Rows

/-! ### the tests of a clause -/
def tTrue : TT := fun _ H Q => Q true H
structure PIf (X : Cx) (ifs : List Expr) (t : TT) : Prop where
  run : ∀ (pins : List (Addr × Obj)) (s : Shared) (σ : St) (H : Hp) (Q : Bool → Hp → Prop), Inv X pins σ H s → t σ H Q →
    wpAny (model X.prog X.w) X.A (forIn ifs true fun c r => if r = true then do let ok ← isTrue c X.env (eval c X.env); pure (ForInStep.yield ok) else pure (ForInStep.yield r)) (TP X pins σ Q) X.xe s
instance {X : Cx} {ifs : List Expr} {t : TT} : CoeFun (PIf X ifs t) (fun _ => ∀ (pins : List (Addr × Obj)) (s : Shared) (σ : St) (H : Hp) (Q : Bool → Hp → Prop), Inv X pins σ H s → t σ H Q →
    wpAny (model X.prog X.w) X.A (forIn ifs true fun c r => if r = true then do let ok ← isTrue c X.env (eval c X.env); pure (ForInStep.yield ok) else pure (ForInStep.yield r)) (TP X pins σ Q) X.xe s) := ⟨PIf.run⟩

theorem pif_nil {X : Cx} : PIf X [] tTrue := ⟨fun _ _ _ H _ I h => wpAny_tests_nil ⟨H, I, h⟩⟩
theorem pif_one {X : Cx} {c : Expr} {t : TT} (hc : PT X c t) : PIf X [c] t := ⟨fun pins s σ H Q I h => wpAny_tests_one (hc pins s σ H Q I h)⟩

/-! ### targets that write their own slots alone -/
def GOwn (g : TG) (ow : List Nat) : Prop :=
  ∀ (v : V) (σ : St) (H : Hp) (Q : St → Hp → Prop), g v σ H Q → g v σ H fun σ2 H2 => Q σ2 H2 ∧ σ2.length = σ.length ∧ ∀ i, i ∉ ow → σ2[i]? = σ[i]?
theorem gown_name (i : Nat) : GOwn (gName i) [i] := fun v σ H Q h => ⟨h, List.length_set .., fun j hj => List.getElem?_set_ne (fun e => hj (by simp [e]))⟩
theorem gown_tup2 {K : PySem.W.Frag} {n : Nat} (i j : Nat) : GOwn (gTup K n (gCons (gName i) (gCons (gName j) gNil))) [i, j] := by
  rintro v σ H Q ⟨a, xs, e1, e2, e3, v1, r1, e4, v2, r2, e5, e6, q⟩
  refine ⟨a, xs, e1, e2, e3, v1, r1, e4, v2, r2, e5, e6, q, by rw [List.length_set, List.length_set], fun k hk => ?_⟩
  have h1 : i ≠ k := fun e => hk (by simp [e])
  have h2 : j ≠ k := fun e => hk (by simp [e])
  rw [List.getElem?_set_ne h2, List.getElem?_set_ne h1]

/-! ### the loop of a comprehension -/
section
variable {prog : Program} {w : World} {A : Around} {R : Result → Shared → Prop} {s : Shared}
theorem compLoop_any {elt target iter : Expr} {ifs : List Expr} {scope : Scope} {pos : Pos} {it acc : Value} {env : Env} (I : Nat → Shared → Prop)
    (turn : ∀ n s, I n s → wpAny (model prog w) A (pyNext it) (fun r s₁ => match r with
      | none => R (.ok .next) s₁
      | some v => wpAny (model prog w) A (letOwnedTupleGo target it v) (fun _ s₀ => wpAny (model prog w) A (assign target env v) (fun _ s₂ =>
          wpAny (model prog w) A (forIn ifs true fun c r => if r = true then do let ok ← isTrue c env (eval c env); pure (ForInStep.yield ok) else pure (ForInStep.yield r)) (fun ok s₃ =>
            if ok = true then wpAny (model prog w) A (eval elt env) (fun x s₄ =>
              wpAny (model prog w) A (call (.builtin "list.append") [acc, x]) (fun _ s₅ => ∃ m, m < n ∧ I m s₅) (fun _ _ => False) s₄) (fun _ _ => False) s₃
            else ∃ m, m < n ∧ I m s₃) (fun _ _ => False) s₂) (fun _ _ => False) s₀) (fun _ _ => False) s₁) (fun _ _ => False) s)
    (n : Nat) (h : I n s) :
    codeAny (model prog w) A (.compLoop (.ListComp elt [⟨target, iter, ifs, 0⟩] scope pos) 0 it acc env) R s := by
  refine codeAny_loop rfl I (fun n s hI => ?_) n h
  show wpAny _ A ((compTurn (.ListComp elt [⟨target, iter, ifs, 0⟩] scope pos) 0 it acc env).onRaise (fun x => do noteFrame x env; theTreesLotGoes x)) _ _ s
  refine wpAny_noted ?_
  rw [compTurn_list]
  refine wpAny_bind (wpAny_standAt (wpAny_bind (wpAny_mono (turn n s hI) (fun r s₁ h₁ => ?_) fun _ _ z => z.elim)))
  cases r with
  | none => exact wpAny_pure h₁
  | some v =>
    refine wpAny_bind (wpAny_mono h₁ (fun _ s₀ h₀ => ?_) fun _ _ z => z.elim)
    refine wpAny_bind (wpAny_mono h₀ (fun _ s₂ h₂ => wpAny_bind (wpAny_mono h₂ (fun ok s₃ h₃ => ?_) fun _ _ z => z.elim)) fun _ _ z => z.elim)
    cases ok with
    | false => exact wpAny_pure ⟨rfl, h₃⟩
    | true =>
      exact wpAny_bind (wpAny_bind (wpAny_mono h₃ (fun x s₄ h₄ => wpAny_bind (wpAny_mono h₄ (fun _ s₅ h₅ => wpAny_pure (wpAny_pure ⟨rfl, h₅⟩)) fun _ _ z => z.elim)) fun _ _ z => z.elim))
end

/-! ### a list comprehension of one clause -/
/-- what is asked of a block that makes the list at D -/
def LCr (J : It) (caps : List (Option Nat)) (g : TG) (tt : TT) (te : TE) (σ : St) (H1 : Hp) (Q : VK) (D : Addr) : Prop :=
  ∃ W : Nat → Nat → List V → Hp → Prop, (∃ m, W 0 m [] (upd H1 D (.lst []))) ∧ ∀ i m ys H, W i m ys H →
    (J.stop i H ∧ Q (.ref D) H) ∨
    (J.go i H ∧ ∀ x H', J.yld i H x H' → g x (capS caps σ) H' fun σ2 H2 => tt σ2 H2 fun ok H3 =>
      (ok = true → te σ2 H3 fun v H4 => H4 D = some (.lst ys) ∧ ys.length < sizeLine ∧ ∃ m', m' < m ∧ W (i + 1) m' (ys ++ [v]) (upd H4 D (.lst (ys ++ [v])))) ∧
      (ok = false → ∃ m', m' < m ∧ W (i + 1) m' ys H3))
def tLC (wi : TI) (caps : List (Option Nat)) (g : TG) (tt : TT) (te : TE) : TE := fun σ H Q => wi σ H fun J H1 => ∀ D, H1 D = none → LCr J caps g tt te σ H1 Q D
section
variable {X : Cx} {pins : List (Addr × Obj)} {σ : St} {s : Shared} {sc : Scope} {fr Nc : List Str} {caps : List (Option Nat)} {elt tg iter : Expr} {ifs : List Expr} {g : TG} {tt : TT} {te : TE} {ow : List Nat} {pos pos2 : Pos} {E : Value → Shared → Prop}
theorem comp_run {H2 : Hp} {it : Addr} {fp : List Addr} {tn : Nat → Heap → Prop} {J : It} {Q : VK} {RR : Value → Addr → Result → Shared → Prop}
    (hc : X.calm = true) (B : BlockOk X.env sc fr) (go : GOwn g ow) (how : (ow.all fun i => caps[i]? == some none) = true) (hcap : capChk X.N Nc caps X.env sc fr = true) (hlen : caps.length = Nc.length)
    (hb : ∀ (pins : List (Addr × Obj)) (fp : List Addr) (s : Shared) (H : Hp) (C : Addr), PG (compCx X pins sc fr Nc fp s H C) tg g ∧ PIf (compCx X pins sc fr Nc fp s H C) ifs tt ∧ PE (compCx X pins sc fr Nc fp s H C) elt te)
    (I2 : Inv X pins σ H2 s) (T : Turn X.prog X.w X.K tg J fp it tn) (st2 : tn 0 s.heap) (f2 : ∀ b ∈ fp, FpOk X pins H2 b) (h : ∀ D, H2 D = none → LCr J caps g tt te σ H2 Q D)
    (fin : ∀ (D C : Addr) (σ' : St) (H' : Hp) (s' : Shared), Inv (compCx X pins sc fr Nc fp s H2 C) [] σ' H' s' → Q (.ref D) H' → RR (.ref D) C (.ok .next) s') :
    wpAny (model X.prog X.w) X.A (newList []) (fun acc s₃ => wpAny (model X.prog X.w) X.A (newFunctionEnv sc X.env.globals (clB X.env fr) [] X.env.qual none .none (some X.env)) (fun cenv s₄ =>
      codeAny (model X.prog X.w) X.A (.compStart (.ListComp elt [⟨tg, iter, ifs, 0⟩] sc pos) 0 (.ref it) acc { cenv with scope := relabel sc X.env }) (RR acc cenv.locals) s₄) E s₃) E s := by
  have hcell : ∀ y ∈ sc.names, y.2 ≠ .cell := fun y hy => by
    have h3 := List.all_eq_true.mp B.names _ hy
    simp only [Bool.and_eq_true, bne_iff_ne, ne_eq] at h3
    exact h3.1.1
  refine wpAny_newObj_type (wpAny_newFunctionEnv hcell (by intro y hy; simp at hy) (fun h₁ hns₁ hsb₁ => ?_) B.kind)
  dsimp only at hns₁ hsb₁ ⊢
  generalize hH2 : s.heap.push { cls := .type "list", dict := none, data := .seq ([] : List Value).toArray } = H3 at hns₁ hsb₁ ⊢
  have hCs : H3.objs.size = s.heap.objs.size + 1 := by rw [← hH2, Heap.size_push]
  have hDC : s.heap.objs.size ≠ H3.objs.size := by rw [hCs]; exact Nat.ne_of_lt (Nat.lt_succ_self _)
  have hC : s.heap.objs.size ≤ H3.objs.size := by rw [hCs]; exact Nat.le_succ _
  have old : ∀ b o, s.heap.get? b = some o → h₁.get? b = some o := fun b o e =>
    hsb₁.extBut b o (Nat.ne_of_lt (Nat.lt_of_lt_of_le (Heap.lt_size e) hC)) (Heap.get?_push_of_some _ (hH2 ▸ Heap.get?_push_of_some _ e))
  have hD : h₁.get? s.heap.objs.size = some { cls := .type "list", data := .seq ([] : List Value).toArray } := hsb₁.extBut _ _ hDC (Heap.get?_push_of_some _ (hH2 ▸ Heap.get?_push_size _ rfl))
  have ho : ∀ b ∈ fp, ∃ o, s.heap.get? b = some o := fun b hb' => let ⟨o, e, _⟩ := T.obj 0 _ st2 b hb'; ⟨o, e⟩
  have I4 : ∀ t', Inv (compCx X pins sc fr Nc fp s H2 H3.objs.size) [] (capS caps σ) (upd H2 s.heap.objs.size (.lst [])) { s with heap := h₁, toks := t' } := fun t' =>
    comp_start I2 B f2 ho hC (Nat.le_refl _) hDC old hD hns₁ hcap hlen
  have ok := (I4 0).ok
  obtain ⟨hbg, hbt, hbe⟩ := hb pins fp s H2 H3.objs.size
  obtain ⟨W, ⟨m0, w0⟩, turn⟩ := h s.heap.objs.size (I2.hok.fresh (Nat.le_refl _))
  have stat : ∀ {H' : Hp}, (∀ b ∈ fp, H' b = none) → ∀ b ∈ fp, FpOk (compCx X pins sc fr Nc fp s H2 H3.objs.size) [] H' b := fun hn b hb' =>
    ⟨hn b hb', (ok.exf b hb').1, ok.exfs b hb', .inl hb', (ok.exf b hb').2, fun p hp => (f2 b hb').2.2.2.2.2 p (by simpa using hp)⟩
  have hfp0 : ∀ b ∈ fp, upd H2 s.heap.objs.size (.lst []) b = none := fun b hb' => by
    obtain ⟨o, e⟩ := ho b hb'
    rw [upd_ne (Nat.ne_of_lt (Heap.lt_size e))]
    exact (f2 b hb').1
  have loop : ∀ s₃ : Shared, s₃ = { s with heap := h₁, toks := s.toks + ([] : List (Str × Value)).length } →
      codeAny (model X.prog X.w) X.A (.compLoop (.ListComp elt [⟨tg, iter, ifs, 0⟩] sc pos) 0 (.ref it) (.ref s.heap.objs.size) (compEnvC sc (clB X.env fr) H3.objs.size X.env)) (RR (.ref s.heap.objs.size) H3.objs.size) s₃ := by
    rintro s₃ rfl
    refine compLoop_any (fun n s' => ∃ i σ' H' ys, Inv (compCx X pins sc fr Nc fp s H2 H3.objs.size) [] σ' H' s' ∧ tn i s'.heap ∧ (∀ b ∈ fp, H' b = none) ∧ W i n ys H' ∧
      (∀ (k : Nat) (v : V), (capS caps σ)[k]? = some (some v) → σ'[k]? = some (some v))) ?_ m0
      ⟨0, _, _, [], I4 _, T.keep _ _ _ st2 (fun b _ o e => old b o e), hfp0, w0, fun _ _ e => e⟩
    rintro n s3 ⟨i, σ3, H4, ys, I3, st3, fr3, w3, wk3⟩
    have I3' : Inv (compCx X pins sc fr Nc fp s H2 H3.objs.size) [] (capS caps σ) H4 s3 := I3.weak (by rw [I3.len]; exact (I4 0).len) wk3
    rcases turn i n ys H4 w3 with ⟨stop, qn⟩ | ⟨gg, step⟩
    · refine thn (T.done (compCx X pins sc fr Nc fp s H2 H3.objs.size) rfl rfl rfl hc i [] s3 _ H4 (fun _ _ => False) I3' (stat fr3) st3 stop) fun r s4 ⟨hr, I4'⟩ => ?_
      subst hr
      exact fin _ _ _ _ _ I4' qn
    · refine thn (T.item (compCx X pins sc fr Nc fp s H2 H3.objs.size) rfl rfl rfl hc i [] s3 _ H4 (fun _ _ => False) I3' (stat fr3) st3 gg) fun r s4 ⟨u, hr, h4⟩ => ?_
      subst hr
      refine thn h4 fun _ s5 ⟨x, H5, I5, r5, y5, st5, fr5⟩ => ?_
      have I5' := I5.pinned (stat fr5) (T.obj _ _ st5)
      refine thn (hbg _ s5 _ H5 x u _ I5' r5 (go _ _ _ _ (step x H5 y5))) fun _ s6 ⟨σ6, H6, I6, q6, l6, k6⟩ => ?_
      have wk6 : ∀ (k : Nat) (v : V), (capS caps σ)[k]? = some (some v) → σ6[k]? = some (some v) := fun k v e => by
        rw [k6 k fun hk => ?_]
        · exact e
        · have h1 := List.all_eq_true.mp how k hk
          have h2 : caps[k]? = some none := by simpa using h1
          unfold capS at e
          rw [List.getElem?_map, h2] at e
          cases e
      refine thn (hbt _ s6 σ6 H6 _ I6 q6) fun ok s7 ⟨H7, I7, q7⟩ => ?_
      have again : ∀ {H8 : Hp} {s8 : Shared} {ys' : List V}, Inv (compCx X pins sc fr Nc fp s H2 H3.objs.size) ([] ++ pinsAt fp s5.heap) σ6 H8 s8 → (∃ m', m' < n ∧ W (i + 1) m' ys' H8) →
          ∃ m, m < n ∧ ∃ i σ' H' ys, Inv (compCx X pins sc fr Nc fp s H2 H3.objs.size) [] σ' H' s8 ∧ tn i s8.heap ∧ (∀ b ∈ fp, H' b = none) ∧ W i m ys H' ∧ (∀ (k : Nat) (v : V), (capS caps σ)[k]? = some (some v) → σ'[k]? = some (some v)) := fun {H8 s8 ys'} I8 ⟨m', hm, w8⟩ => by
        refine ⟨m', hm, i + 1, σ6, H8, ys', I8.unpinned, T.keep _ _ _ st5 fun b hb' o e => (I8.pin (b, o) (List.mem_append_right _ (List.mem_append_right _ (mem_pinsAt hb' e)))).1, fun b hb' => ?_, w8, wk6⟩
        obtain ⟨o, e, d⟩ := T.obj _ _ st5 b hb'
        exact (I8.pin (b, o) (List.mem_append_right _ (List.mem_append_right _ (mem_pinsAt hb' e)))).2.1
      cases ok with
      | false =>
        rw [if_neg Bool.false_ne_true]
        exact again I7 (q7.2 rfl)
      | true =>
        rw [if_pos rfl]
        refine thn (hbe _ s7 σ6 H7 _ I7 (q7.1 rfl)) fun uv s8 ⟨v, H8, I8, r8, hD8, hz, q8⟩ => ?_
        refine thn (mt_append (X := compCx X pins sc fr Nc fp s H2 H3.objs.size) _ s8 σ6 H8 (.ref s.heap.objs.size) [v] _ [uv] (fun _ H' => H' = upd H8 s.heap.objs.size (.lst (ys ++ [v]))) I8 rfl (.cons r8 .nil) ⟨_, ys, v, rfl, rfl, hD8, hz, rfl⟩) fun _ s9 ⟨_, H9, I9, _, e9⟩ => ?_
        subst e9
        exact again I9 q8
  exact codeAny_compStart_list (loop _ rfl) (T.self _ 0 _ _ _ (T.keep _ _ _ st2 (fun b _ o e => old b o e)) (loop _ rfl))
theorem BlockOk.loc {env : Env} (B : BlockOk env sc fr) : ∀ x ∈ sc.names, x.2 = .local → sc.names.lookup x.1 = some .local := fun y hy e => by
  have h3 := List.all_eq_true.mp B.names _ hy
  simp only [Bool.and_eq_true, Bool.or_eq_true, bne_iff_ne, ne_eq, beq_iff_eq] at h3
  rcases h3.2 with z | z
  · exact absurd e z
  · exact z
theorem pe_lc {wi : TI} (fr Nc : List Str) (caps : List (Option Nat)) (hc : X.calm = true) (B : BlockOk X.env sc fr) (hi : PI X tg iter wi) (go : GOwn g ow) (how : (ow.all fun i => caps[i]? == some none) = true)
    (hcap : capChk X.N Nc caps X.env sc fr = true) (hlen : caps.length = Nc.length)
    (hb : ∀ (pins : List (Addr × Obj)) (fp : List Addr) (s : Shared) (H : Hp) (C : Addr), PG (compCx X pins sc fr Nc fp s H C) tg g ∧ PIf (compCx X pins sc fr Nc fp s H C) ifs tt ∧ PE (compCx X pins sc fr Nc fp s H C) elt te)
    (hs : ∀ x, foldedSetIterable iter X.env x = pure x := by intro _; rfl) : PE X (.ListComp elt [⟨tg, iter, ifs, 0⟩] sc pos) (tLC wi caps g tt te) := by
  refine ⟨?_⟩
  intro pins s σ H Q I h
  rw [eval_ListComp]
  refine wpAny_comprehension_free (use := none) rfl hs B.clos B.kind B.loc (thn (hi pins s σ H _ I h) fun v s1 h1 => thn h1 fun itv s2 h2 => ?_)
  obtain ⟨it, fp, tn, J, H2, e, I2, T, st2, f2, q⟩ := h2
  subst e
  refine comp_run (RR := fun acc C => compPost (model X.prog X.w) X.A X.xe none (EP X pins σ Q) acc C) hc B go how hcap hlen hb I2 T st2 f2 q ?_
  intro D C σ' H' s' J' qq
  obtain ⟨m, hn, _⟩ := J'.loc
  exact ⟨m, hn, fun h' hs' => ⟨.ref D, H', comp_gone I2 J' (comp_back I2 f2 J') hs', rfl, qq⟩⟩
/-- x = [..] on one row: the store comes ahead of the block's end -/
theorem ps_lc {wi : TI} {i : Nat} {x : Str} {pos' : Pos} (fr Nc : List Str) (caps : List (Option Nat)) (hN : X.N.Nodup) (hix : X.N[i]? = some x) (hx : Loc X.env.scope x) (hc : X.calm = true) (B : BlockOk X.env sc fr) (hi : PI X tg iter wi) (go : GOwn g ow) (how : (ow.all fun i => caps[i]? == some none) = true)
    (hcap : capChk X.N Nc caps X.env sc fr = true) (hlen : caps.length = Nc.length)
    (hb : ∀ (pins : List (Addr × Obj)) (fp : List Addr) (s : Shared) (H : Hp) (C : Addr), PG (compCx X pins sc fr Nc fp s H C) tg g ∧ PIf (compCx X pins sc fr Nc fp s H C) ifs tt ∧ PE (compCx X pins sc fr Nc fp s H C) elt te)
    (hsw : swapsWith (.ListComp elt [⟨tg, iter, ifs, 0⟩] sc pos) (some (.Name x pos')) pos2.line X.env = pure true := by rfl)
    (hs : ∀ x, foldedSetIterable iter X.env x = pure x := by intro _; rfl) (hf : X.fn x = true ∨ X.env.scope.names.lookup x = some .local := by first | exact .inl rfl | exact .inr rfl | assumption) :
    PS X (.Assign [.Name x pos'] (.ListComp elt [⟨tg, iter, ifs, 0⟩] sc pos) pos2) (tAsg (tLC wi caps g tt te) (gName i)) := by
  refine ⟨?_⟩
  intro pins s σ H D0 I h
  rw [exec_Assign_Name_used _ _ _ _ hsw]
  refine wpAny_bind (wpAny_standAt (wpAny_bind ?_))
  show wpAny _ X.A (do let _ ← comprehension (.ListComp elt [⟨tg, iter, ifs, 0⟩] sc pos) sc X.env _ (newList []) false (eval iter X.env) (some (assign (.Name x pos') X.env))) _ _ s
  refine wpAny_bind (wpAny_mono (wpAny_comprehension_free (use := some (assign (.Name x pos') X.env)) (Q := fun _ s' => SP X pins D0 .next s') rfl hs B.clos B.kind B.loc
    (thn (hi pins s σ H _ I h) fun v s1 h1 => thn h1 fun itv s2 h2 => ?_)) (fun _ s' hq => wpAny_pure (wpAny_pure hq)) fun _ _ e => e)
  obtain ⟨it, fp, tn, J, H2, e, I2, T, st2, f2, q⟩ := h2
  subst e
  refine comp_run (Q := fun v H1 => gName i v σ H1 D0.nx) (RR := fun acc C => compPost (model X.prog X.w) X.A X.xe (some (assign (.Name x pos') X.env)) (fun _ s' => SP X pins D0 .next s') acc C) hc B go how hcap hlen hb I2 T st2 f2 q ?_
  intro D C σ' H' s' J' qq
  have I' := comp_back I2 f2 J'
  obtain ⟨m, hn, _⟩ := J'.loc
  have hC : s2.heap.objs.size ≤ C := J'.ok.above
  show wpAny _ X.A (assign (.Name x pos') X.env (.ref D)) _ _ s'
  refine wpAny_assign_Name (store_ok2 (v := .ref D) I' hN hix hx rfl (fun s'' I'' ⟨a, sb, ha⟩ => ?_) hf)
  have haC : C ≠ a := by
    rintro rfl
    rcases ha with z | z
    · have := I2.lt
      rw [← z] at this
      exact absurd (Nat.lt_of_lt_of_le this hC) (Nat.lt_irrefl _)
    · obtain ⟨v, hv⟩ := I2.cell x C z
      exact absurd (Nat.lt_of_lt_of_le hv.lt hC) (Nat.lt_irrefl _)
  have hCH : H' C = none := J'.free
  refine ⟨m, hn.sameBut sb haC, fun h' hs' => ⟨_, H', ?_, qq⟩⟩
  refine I''.turned (it := C) (t' := s''.toks) (fun b o hb e => (hs'.2 b hb).trans e) hCH ?_ (.inr (Nat.le_trans I2.sz hC)) (fun x c h z => ?_) fun p hp z => ?_
  · intro z
    have := I2.lt
    rw [← z] at this
    exact absurd (Nat.lt_of_lt_of_le this hC) (Nat.lt_irrefl _)
  · obtain ⟨v, hv⟩ := I2.cell x c h
    have := hv.lt
    rw [z] at this
    exact absurd (Nat.lt_of_lt_of_le this hC) (Nat.lt_irrefl _)
  · have := I2.pin_lt hp
    rw [z] at this
    exact absurd (Nat.lt_of_lt_of_le this hC) (Nat.lt_irrefl _)
end
end L2

set_option Elab.async false
set_option linter.all false
set_option maxRecDepth 100000
set_option maxHeartbeats 4000000
namespace L2
open PySem PySem.Spec PyProof.Rows

/-! ### the signs of a text -/
def Its (z : Str) : It := ⟨fun i _ => i < z.cps.size, fun i H x H' => H' = H ∧ ∃ c, z.cps[i]? = some c ∧ x = .str ⟨#[c]⟩, fun i _ => z.cps.size ≤ i⟩
theorem turn_str {P : Program} {w : World} {K : PySem.W.Frag} {tg : Expr} (it : Addr) (z : Str) (t : Tok) : Turn P w K tg (Its z) [it] it (fun i h => h.IsStrIter it (strIterType z) z t i) where
  mem := by simp
  obj := fun i h st b hb => by
    have e : b = it := by simpa using hb
    subst e
    obtain ⟨o, e, _, d⟩ := st
    exact ⟨o, e, fun v q => by rw [d] at q; cases q⟩
  keep := fun i h h' st k => by
    obtain ⟨o, e, r⟩ := st
    exact ⟨o, k it (by simp) o e, r⟩
  item := by
    intro X hP hw hK hc i pins s σ H E I hf st hg
    subst hP hw hK
    obtain ⟨f0, f1, f2, f3, f4, f5⟩ := hf it (by simp)
    have hi : i < z.cps.size := hg
    have hx : z.cps[i]? = some z.cps[i] := by simp [hi]
    have fin : ∀ h', h'.IsStrIter it (strIterType z) z t (i + 1) → Heap.SameBut it s.heap h' →
        ∃ u, some (Value.str ⟨#[z.cps[i]]⟩ s.toks) = some u ∧ wpAny (model X.prog X.w) X.A (letOwnedTupleGo tg (.ref it) u) (fun _ s2 => ∃ x H', Inv X pins σ H' s2 ∧ RelV x u ∧ (Its z).yld i H x H' ∧ s2.heap.IsStrIter it (strIterType z) z t (i + 1) ∧ ∀ b ∈ [it], H' b = none) E { s with heap := h', toks := s.toks + 1 } := fun h' hit hs => by
      have I1 : Inv X pins σ H { s with heap := h', toks := s.toks + 1 } := I.turned (fun b o hb e => (hs.2 b hb).trans e) f0 f1 f3 f4 f5
      obtain ⟨o, e1, e2, e3⟩ := id hit
      refine ⟨_, rfl, go_of (s := { s with heap := h', toks := s.toks + 1 }) e1 e2 e3 ?_ ⟨.str ⟨#[z.cps[i]]⟩, H, I1, ⟨_, rfl⟩, ⟨rfl, _, hx, rfl⟩, hit, fun b hb => (hf b hb).1⟩⟩
      unfold strIterType
      split <;> decide
    cases ha : z.cps.all (· < 128)
    · have e : strIterType z = "str_iterator" := by simp [strIterType, ha]
      rw [e] at st
      exact wpAny_pyNext_wide_item st hx fun h' a b => fin h' (e.symm ▸ a) b
    · have e : strIterType z = "str_ascii_iterator" := by simp [strIterType, ha]
      rw [e] at st
      exact wpAny_pyNext_ascii_item st hx fun h' a b => fin h' (e.symm ▸ a) b
  done := by
    intro X hP hw hK hc i pins s σ H E I hf st hg
    subst hP hw hK
    obtain ⟨f0, f1, f2, f3, f4, f5⟩ := hf it (by simp)
    have hi : z.cps.size ≤ i := hg
    have hx : z.cps[i]? = none := by simp [hi]
    have fin : ∀ h', Heap.ExtBut it s.heap h' → (none : Option Value) = none ∧ Inv X pins σ H { s with heap := h' } := fun h' eb => ⟨rfl, I.turned (t' := s.toks) (fun b o hb e => eb b o hb e) f0 f1 f3 f4 f5⟩
    cases ha : z.cps.all (· < 128)
    · have e : strIterType z = "str_iterator" := by simp [strIterType, ha]
      rw [e] at st
      exact wpAny_pyNext_wide_end (I.ok.hd hc) st hx fin
    · have e : strIterType z = "str_ascii_iterator" := by simp [strIterType, ha]
      rw [e] at st
      exact wpAny_pyNext_ascii_end (I.ok.hd hc) st hx fin
  self := fun A i s Q E st h => by
    cases ha : z.cps.all (· < 128)
    · have e : strIterType z = "str_iterator" := by simp [strIterType, ha]
      rw [e] at st
      exact wpAny_pyIter_striter_wide st h
    · have e : strIterType z = "str_ascii_iterator" := by simp [strIterType, ha]
      rw [e] at st
      exact wpAny_pyIter_striter_ascii st h
section
variable {X : Cx} {tg : Expr}
def iStr (tl : TE) : TI := fun σ H R => tl σ H fun x H1 => ∃ z, x = .str z ∧ R (Its z) H1
theorem pi_str {l : Expr} {tl : TE} (hl : PE X l tl) : PI X tg l (iStr tl) := by
  refine ⟨?_⟩
  intro pins s σ H R I h
  refine thn (hl pins s σ H _ I h) fun v s1 ⟨x, H1, I1, r1, q1⟩ => ?_
  obtain ⟨z, e, q⟩ := q1
  subst e
  obtain ⟨t, rfl⟩ := r1
  refine wpAny_pyIter_strU ?_
  refine ⟨s1.heap.objs.size, [s1.heap.objs.size], _, _, H1, rfl, I1.kept (t' := s1.toks) fun b o e => Heap.get?_push_of_some _ e, turn_str _ z t, ⟨_, Heap.get?_push_size _ rfl, rfl, rfl⟩, fun b hb => ?_, q⟩
  have e : b = s1.heap.objs.size := by simpa using hb
  subst e
  exact I1.fpOk (Nat.le_refl _) (I1.hok.fresh (Nat.le_refl _))

/-! ### t[lo:hi] of a text -/
/-! ### all(xs), a list of bools -/
theorem call_allB (hc : X.calm = true) : CallR X (.builtin "all") (fun xs H Q => ∃ (p : Addr) (bs : List Bool), xs = [.ref p] ∧ SqL X.K H p (bs.map V.bl) ∧ Q (.bl (bs.all id)) H) := by
  intro pins s σ H xs us Q I r h
  obtain ⟨p, bs, rfl, hS, q⟩ := h
  obtain ⟨u, rfl, ru⟩ := vals1 r
  cases ru
  obtain ⟨its, rv, hp, hz⟩ := I.list hS
  have hlen : its.length = bs.length := by rw [← rv.length, List.length_map]
  have hne : p ≠ s.heap.objs.size := Nat.ne_of_lt (by obtain ⟨_, e, _⟩ := hp.isList; exact Heap.lt_size e)
  refine call_all_walk (wpAny_pyIter_list hp.isList ?_)
  refine ⟨s.heap.objs.size, _, _, _, _, _, fun i => bs.getD i false, rfl, Walks.list (A := X.A.in1) (I.ok.hd hc) s.heap.objs.size p hne its.toArray, ⟨⟨_, Heap.get?_push_size _ rfl, rfl, rfl⟩, hp.isList.push _⟩, ?_, fun h' tk k => ?_⟩
  · intro i v s' Q' E' hP hQ
    have hv : its[i]? = some v := by simpa using hP
    have hi : i < bs.length := by rw [← hlen]; exact (List.getElem?_eq_some_iff.mp hv).1
    obtain ⟨u', e1, e2⟩ := rv.get (i := i) (x := V.bl bs[i]) (by rw [List.getElem?_map, List.getElem?_eq_getElem hi]; rfl)
    rw [hv] at e1
    cases e1
    cases e2
    refine wpAny_truthy_bool ?_
    have : bs.getD i false = bs[i] := by rw [List.getD_eq_getElem?_getD, List.getElem?_eq_getElem hi]; rfl
    rw [← this]
    exact hQ
  · have e : ((List.range its.toArray.size).all fun i => bs.getD i false) = bs.all id := by
      rw [List.size_toArray, hlen, Bool.eq_iff_iff, List.all_eq_true, List.all_eq_true]
      constructor
      · intro hh b hb
        obtain ⟨i, hi, rfl⟩ := List.getElem_of_mem hb
        have := hh i (List.mem_range.mpr hi)
        rw [List.getD_eq_getElem?_getD, List.getElem?_eq_getElem hi] at this
        exact this
      · intro hh i hi
        have hi' := List.mem_range.mp hi
        rw [List.getD_eq_getElem?_getD, List.getElem?_eq_getElem hi']
        exact hh _ (List.getElem_mem hi')
    rw [e]
    exact ⟨.bl (bs.all id), H, I.kept (h' := h') (t' := tk) (fun b o q => k b o (fun hm => by
      have e : b = s.heap.objs.size := by simpa using hm
      exact absurd (Heap.lt_size q) (by rw [e]; exact Nat.lt_irrefl _)) (Heap.get?_push_of_some _ q)), rfl, q⟩

/-! ### str.upper -/
/-! ### is, is not a written truth -/
/-! ### isinstance(x, T) -/
theorem call_isinst : CallR X (.builtin "isinstance") (fun xs H Q => ∃ x T t b, xs = [x, .ty T] ∧ TyOf X.K H x t ∧ PySem.W.kitOne X.K t (.type T) = some b ∧ Q (.bl b) H) := by
  intro pins s σ H xs us Q I r h
  obtain ⟨x, T, t, b, rfl, ty, e, q⟩ := h
  obtain ⟨u, w', rfl, ru, rw'⟩ := vals2 r
  cases rw'
  exact isinst_ok I ru ty e fun tk => ⟨.bl b, H, I.tok tk, rfl, q⟩
theorem call_isinstC : CallR X (.builtin "isinstance") (fun xs H Q => ∃ x C t b, xs = [x, .ref C] ∧ TyOf X.K H x t ∧ PySem.W.kitOne X.K t (.ref C) = some b ∧ Q (.bl b) H) := by
  intro pins s σ H xs us Q I r h
  obtain ⟨x, T, t, b, rfl, ty, e, q⟩ := h
  obtain ⟨u, w', rfl, ru, rw'⟩ := vals2 r
  cases rw'
  exact isinst_ok I ru ty e fun tk => ⟨.bl b, H, I.tok tk, rfl, q⟩
end
end L2

set_option Elab.async false
set_option linter.all false
set_option maxRecDepth 100000
set_option maxHeartbeats 4000000
namespace L2
open PySem PySem.Spec PyProof.Rows

/-! ### argument lists without stars, by their heads alone -/
def isSt : Expr → Bool
  | .Starred .. => true
  | _ => false
theorem star_cons {e : Expr} {es : List Expr} {env : Env} (h : isSt e = false) : starEach (e :: es) env = (false, eval e env) :: starEach es env := by
  cases e <;> first | rfl | cases h
theorem star_any {env : Env} {pos : Pos} : ∀ {es : List Expr}, es.any isSt = false → (backTo pos (starEach es env)).any (·.1) = false
  | [], _ => rfl
  | e :: es, h => by
    rw [List.any_cons, Bool.or_eq_false_iff] at h
    rw [star_cons h.1]
    show (false || (backTo pos (starEach es env)).any (·.1)) = false
    rw [star_any h.2]
    rfl
section
variable {X : Cx} {CX : CXT} {k : Nat} {f C : Addr} {fd : FuncData} {ps : List Str} {sp : Sp} {dvs : List V} {ds : List Value} {E : XK} {x m : Str} {p pos apos : Pos} {e o : Expr} {es : List Expr} {te ta : TE} {t : TA} {id T : String} {r : List V → Hp → VK → Prop}
theorem ac (ha : PE X e te) (hr : PA X es t) (h : isSt e = false := by rfl) : PA X (e :: es) (tCons te t) := pa_cons ha hr (star_cons h)
theorem cB (hc : CallR X (.builtin id) r) (hm : X.mg x = none) (hv : bootBuiltins x = some (.builtin id)) (ha : PA X (e :: es) t) (hg : Gl X x := by rfl) (hn : x ≠ "__name__" := by decide) (hdb : (x == ("__debug__" : Str)) = false := by decide)
    (h1 : isSt e = false := by rfl) (h2 : es.any isSt = false := by rfl) : PE X (.Call (.Name x p) (e :: es) [] pos) (tCB r t) := pe_callB hc hg hm hv ha hn hdb (star_cons h1) (star_any h2)
theorem cTy (hc : CallR X (.type T) r) (hm : X.mg x = none) (hv : bootBuiltins x = some (.type T)) (ha : PA X (e :: es) t) (hg : Gl X x := by rfl) (hn : x ≠ "__name__" := by decide) (hdb : (x == ("__debug__" : Str)) = false := by decide)
    (h1 : isSt e = false := by rfl) (h2 : es.any isSt = false := by rfl) : PE X (.Call (.Name x p) (e :: es) [] pos) (tCB r t) := pe_callTy hc hg hm hv ha hn hdb (star_cons h1) (star_any h2)
/-- a def of the text as callers have it -/
structure Callee (P : Program) (w : World) (K : PySem.W.Frag) (mg : Str → Option Value) (base : Heap) (k : Nat) (x : Str) (f : Addr) (fd : FuncData) (ps : List Str) (sp : Sp) : Prop where
  ok : FnOk P w K mg base CX0 k f fd ps sp
  mg : mg x = some (.ref f)
  kp : PySem.W.keepIn K (.ref f) = true
  bd : Binds K fd ps []
theorem cF (c : Callee X.prog X.w X.K X.mg X.base k x f fd ps sp) (hr : Room k X.A) (ha : PA X (e :: es) t) (hg : Gl X x := by rfl) (hdb : (x == ("__debug__" : Str)) = false := by decide)
    (h1 : isSt e = false := by rfl) (h2 : es.any isSt = false := by rfl) : PE X (.Call (.Name x p) (e :: es) [] pos) (tCall sp [] E0 t) :=
  pe_call c.ok hr hg c.mg c.kp c.bd .nil pass0 ha hdb (star_cons h1) (star_any h2)
end
end L2

set_option maxRecDepth 100000
set_option maxHeartbeats 4000000
namespace L2
open PySem PyProof.Rows
/-! ### isinstance of built-in kinds -/
theorem kt_NoneType_str (K : PySem.W.Frag) : PySem.W.kitOne K (.type "NoneType") (.type "str") = some false := by kernel_rfl
theorem kt_int_str (K : PySem.W.Frag) : PySem.W.kitOne K (.type "int") (.type "str") = some false := by kernel_rfl
theorem kt_int_int (K : PySem.W.Frag) : PySem.W.kitOne K (.type "int") (.type "int") = some true := by kernel_rfl
theorem kt_bool_str (K : PySem.W.Frag) : PySem.W.kitOne K (.type "bool") (.type "str") = some false := by kernel_rfl
theorem kt_bool_bool (K : PySem.W.Frag) : PySem.W.kitOne K (.type "bool") (.type "bool") = some true := by kernel_rfl
theorem kt_str_str (K : PySem.W.Frag) : PySem.W.kitOne K (.type "str") (.type "str") = some true := by kernel_rfl
theorem kt_list_str (K : PySem.W.Frag) : PySem.W.kitOne K (.type "list") (.type "str") = some false := by kernel_rfl
theorem kt_tuple_str (K : PySem.W.Frag) : PySem.W.kitOne K (.type "tuple") (.type "str") = some false := by kernel_rfl
theorem kt_dict_str (K : PySem.W.Frag) : PySem.W.kitOne K (.type "dict") (.type "str") = some false := by kernel_rfl
end L2

set_option Elab.async false
set_option linter.all false
set_option maxRecDepth 100000
set_option maxHeartbeats 4000000
namespace L2
open PySem PySem.Spec PyProof.Rows

/-! ### data: what a value says, lists and tuples within -/
inductive Dt where
  | non | bl (b : Bool) | int (i : Int) | str (z : Str) | tup (ds : List Dt) | lst (ds : List Dt)
def FlatD : V → Dt → Prop
  | .non, .non => True
  | .bl a, .bl b => a = b
  | .int a, .int b => a = b
  | .str a, .str b => a = b
  | _, _ => False
/-- at most n deep; the lists within stand at addresses that are ok -/
def Says (K : PySem.W.Frag) (ok : Addr → Prop) (H : Hp) : Nat → V → Dt → Prop
  | 0, x, d => FlatD x d
  | n + 1, x, d => FlatD x d ∨ (∃ a xs ds, x = .ref a ∧ d = .tup ds ∧ SqT K H a xs ∧ Paired (Says K ok H n) xs ds) ∨ (∃ a xs ds, x = .ref a ∧ d = .lst ds ∧ ok a ∧ H a = some (.lst xs) ∧ Paired (Says K ok H n) xs ds)
section
variable {K : PySem.W.Frag} {ok ok' : Addr → Prop} {H H' : Hp}
theorem Says.flat {n : Nat} {x : V} {d : Dt} (h : FlatD x d) : Says K ok H n x d := by
  cases n with
  | zero => exact h
  | succ n => exact .inl h
theorem Says.int {n : Nat} {i : Int} : Says K ok H n (.int i) (.int i) := .flat rfl
theorem Says.str {n : Nat} {z : Str} : Says K ok H n (.str z) (.str z) := .flat rfl
theorem Says.bl {n : Nat} {b : Bool} : Says K ok H n (.bl b) (.bl b) := .flat rfl
theorem Says.tup {n : Nat} {a : Addr} {xs : List V} {ds : List Dt} (h : SqT K H a xs) (r : Paired (Says K ok H n) xs ds) : Says K ok H (n + 1) (.ref a) (.tup ds) := .inr (.inl ⟨a, xs, ds, rfl, rfl, h, r⟩)
theorem Says.lst {n : Nat} {a : Addr} {xs : List V} {ds : List Dt} (o : ok a) (h : H a = some (.lst xs)) (r : Paired (Says K ok H n) xs ds) : Says K ok H (n + 1) (.ref a) (.lst ds) := .inr (.inr ⟨a, xs, ds, rfl, rfl, o, h, r⟩)
theorem Paired.get {α β : Type} {F : α → β → Prop} : ∀ {l₁ : List α} {l₂ : List β} {i : Nat} {a : α}, Paired F l₁ l₂ → l₁[i]? = some a → ∃ b, l₂[i]? = some b ∧ F a b
  | _, _, _, _, .nil, e => by simp at e
  | _, _, 0, _, .cons r _, e => by simp at e; subst e; exact ⟨_, rfl, r⟩
  | _, _, i + 1, a, .cons _ t, e => by
    obtain ⟨b, h1, h2⟩ := Paired.get (i := i) (a := a) t (by simpa using e)
    exact ⟨b, by simpa using h1, h2⟩
end
section
variable {X : Cx} {pins : List (Addr × Obj)} {σ : St} {H : Hp} {s : Shared} {ok ok' : Addr → Prop}
theorem flat_same {A : Around} {x y : V} {d : Dt} {u v : Value} (hx : FlatD x d) (hy : FlatD y d) (ru : RelV x u) (rv : RelV y v) : SeqAt.EqAt A s u v true := by
  cases d with
  | non =>
    cases x <;> try exact hx.elim
    cases y <;> try exact hy.elim
    cases ru; cases rv; exact SeqAt.EqAt.same _
  | bl b =>
    cases x <;> try exact hx.elim
    cases y <;> try exact hy.elim
    rename_i a c
    obtain rfl : a = b := hx
    obtain rfl : c = a := hy
    cases ru; cases rv; exact SeqAt.EqAt.same _
  | int b =>
    cases x <;> try exact hx.elim
    cases y <;> try exact hy.elim
    rename_i a c
    obtain rfl : a = b := hx
    obtain rfl : c = a := hy
    obtain ⟨t, rfl⟩ := ru
    obtain ⟨t', rfl⟩ := rv
    have := SeqAt.EqAt.int_int (A := A) (s := s) c t c t'
    simpa using this
  | str b =>
    cases x <;> try exact hx.elim
    cases y <;> try exact hy.elim
    rename_i a c
    obtain rfl : a = b := hx
    obtain rfl : c = a := hy
    obtain ⟨t, rfl⟩ := ru
    obtain ⟨t', rfl⟩ := rv
    have := SeqAt.EqAt.str_str (A := A) (s := s) c t c t'
    simpa using this
  | tup ds => cases x <;> exact hx.elim
  | lst ds => cases x <;> exact hx.elim
theorem flat_ref {a : Addr} {d : Dt} (h : FlatD (.ref a) d) : False := by cases d <;> exact h
theorem all_true (n : Nat) : ((List.range n).all fun _ => true) = true := by rw [List.all_eq_true]; intro _ _; rfl
/-- two values that say the same are equal -/
theorem eqAt_same (I : Inv X pins σ H s) : ∀ (n : Nat) {A : Around} {x y : V} {d : Dt} {u v : Value}, Says X.K ok H n x d → Says X.K ok' H n y d → RelV x u → RelV y v → A.units + n < cLine → SeqAt.EqAt A s u v true
  | 0, A, x, y, d, u, v, hx, hy, ru, rv, _ => flat_same hx hy ru rv
  | n + 1, A, x, y, d, u, v, hx, hy, ru, rv, hu => by
    have hin : A.in1.units + n < cLine := by show A.units + 1 + n < cLine; omega
    rcases hx with hx | ⟨a, xs, ds, rfl, rfl, hx, r⟩ | ⟨a, xs, ds, rfl, rfl, _, hx, r⟩
    · rcases hy with hy | ⟨b, ys, es, rfl, rfl, hy, q⟩ | ⟨b, ys, es, rfl, rfl, _, hy, q⟩
      · exact flat_same hx hy ru rv
      · cases x <;> exact hx.elim
      · cases x <;> exact hx.elim
    · rcases hy with hy | ⟨b, ys, es, rfl, e2, hy, q⟩ | ⟨b, ys, es, rfl, e2, _, hy, q⟩
      · cases y <;> exact hy.elim
      · cases e2
        cases ru; cases rv
        by_cases hab : a = b
        · subst hab; exact SeqAt.EqAt.same _
        · obtain ⟨ia, va, pa, _⟩ := I.tuple hx
          obtain ⟨ib, vb, pb, _⟩ := I.tuple hy
          have la : ia.length = ds.length := by rw [← va.length, r.length]
          have lb : ib.length = ds.length := by rw [← vb.length, q.length]
          have := SeqAt.RcAt.tuples (A := A) (s := s) (e := fun _ => true) (show s.heap.IsTuple a ia.toArray from pa) (show s.heap.IsTuple b ib.toArray from pb) (by omega) (fun j h1 h2 => by
            have j1 : j < ia.length := by simpa using h1
            have j2 : j < ib.length := by simpa using h2
            have hxl : j < xs.length := by rw [va.length]; exact j1
            have hyl : j < ys.length := by rw [vb.length]; exact j2
            obtain ⟨u', e1, e2⟩ := va.get (i := j) (List.getElem?_eq_getElem hxl)
            obtain ⟨v', e3, e4⟩ := vb.get (i := j) (List.getElem?_eq_getElem hyl)
            obtain ⟨d1, f1, f2⟩ := Paired.get r (List.getElem?_eq_getElem hxl)
            obtain ⟨d2, f3, f4⟩ := Paired.get q (List.getElem?_eq_getElem hyl)
            rw [f1] at f3
            cases f3
            rw [List.getElem?_eq_getElem j1] at e1
            rw [List.getElem?_eq_getElem j2] at e3
            cases e1; cases e3
            simpa using eqAt_same I n f2 f4 e2 e4 hin)
          rw [all_true] at this
          have z : (ia.toArray.size == ib.toArray.size) = true := by simp [la, lb]
          rw [z] at this
          exact SeqAt.EqAt.of_refs hab this
      · cases e2
    · rcases hy with hy | ⟨b, ys, es, rfl, e2, hy, q⟩ | ⟨b, ys, es, rfl, e2, _, hy, q⟩
      · cases y <;> exact hy.elim
      · cases e2
      · cases e2
        cases ru; cases rv
        by_cases hab : a = b
        · subst hab; exact SeqAt.EqAt.same _
        · obtain ⟨ia, va, pa, _⟩ := I.list (SqL.of hx)
          obtain ⟨ib, vb, pb, _⟩ := I.list (SqL.of hy)
          have la : ia.length = ds.length := by rw [← va.length, r.length]
          have lb : ib.length = ds.length := by rw [← vb.length, q.length]
          have := SeqAt.RcAt.lists (A := A) (s := s) (e := fun _ => true) pa.isList pb.isList (by simp [la, lb]) (by omega) (fun j h1 h2 => by
            have j1 : j < ia.length := by simpa using h1
            have j2 : j < ib.length := by simpa using h2
            have hxl : j < xs.length := by rw [va.length]; exact j1
            have hyl : j < ys.length := by rw [vb.length]; exact j2
            obtain ⟨u', e1, e2⟩ := va.get (i := j) (List.getElem?_eq_getElem hxl)
            obtain ⟨v', e3, e4⟩ := vb.get (i := j) (List.getElem?_eq_getElem hyl)
            obtain ⟨d1, f1, f2⟩ := Paired.get r (List.getElem?_eq_getElem hxl)
            obtain ⟨d2, f3, f4⟩ := Paired.get q (List.getElem?_eq_getElem hyl)
            rw [f1] at f3
            cases f3
            rw [List.getElem?_eq_getElem j1] at e1
            rw [List.getElem?_eq_getElem j2] at e3
            cases e1; cases e3
            simpa using eqAt_same I n f2 f4 e2 e4 hin)
          rw [all_true] at this
          exact SeqAt.EqAt.of_refs hab this
end
end L2

set_option Elab.async false
set_option linter.all false
set_option maxRecDepth 100000
set_option maxHeartbeats 4000000
namespace L2
open PySem PySem.Spec PyProof.Rows
/-! ### == and != of two objects that say the same -/
section
variable {X : Cx} {pins : List (Addr × Obj)} {σ : St} {H : Hp} {s : Shared} {ok ok' : Addr → Prop}
theorem rc_same (I : Inv X pins σ H s) {n : Nat} {A : Around} {a b : Addr} {d : Dt} (hx : Says X.K ok H (n + 1) (.ref a) d) (hy : Says X.K ok' H (n + 1) (.ref b) d) (hu : A.units + n + 1 < cLine) :
    SeqAt.RcAt A s (.ref a) (.ref b) true ∧ SeqAt.RcNeAt A s (.ref a) (.ref b) false := by
  have hin : A.in1.units + n < cLine := by show A.units + 1 + n < cLine; omega
  rcases hx with hx | ⟨a, xs, ds, e0, rfl, hx, r⟩ | ⟨a, xs, ds, e0, rfl, _, hx, r⟩
  · exact (flat_ref hx).elim
  · cases e0
    rcases hy with hy | ⟨b, ys, es, e1, e2, hy, q⟩ | ⟨b, ys, es, e1, e2, _, hy, q⟩
    · exact (flat_ref hy).elim
    · cases e1; cases e2
      obtain ⟨ia, va, pa, _⟩ := I.tuple hx
      obtain ⟨ib, vb, pb, _⟩ := I.tuple hy
      have la : ia.length = ds.length := by rw [← va.length, r.length]
      have lb : ib.length = ds.length := by rw [← vb.length, q.length]
      have el : ∀ j (h1 : j < ia.toArray.size) (h2 : j < ib.toArray.size), SeqAt.EqAt A.in1 s ia.toArray[j] ib.toArray[j] true := fun j h1 h2 => by
        have j1 : j < ia.length := by simpa using h1
        have j2 : j < ib.length := by simpa using h2
        have hxl : j < xs.length := by rw [va.length]; exact j1
        have hyl : j < ys.length := by rw [vb.length]; exact j2
        obtain ⟨u', e1, e2⟩ := va.get (i := j) (List.getElem?_eq_getElem hxl)
        obtain ⟨v', e3, e4⟩ := vb.get (i := j) (List.getElem?_eq_getElem hyl)
        obtain ⟨d1, f1, f2⟩ := Paired.get r (List.getElem?_eq_getElem hxl)
        obtain ⟨d2, f3, f4⟩ := Paired.get q (List.getElem?_eq_getElem hyl)
        rw [f1] at f3
        cases f3
        rw [List.getElem?_eq_getElem j1] at e1
        rw [List.getElem?_eq_getElem j2] at e3
        cases e1; cases e3
        simpa using eqAt_same I n f2 f4 e2 e4 hin
      have z : (ia.toArray.size == ib.toArray.size) = true := by simp [la, lb]
      have t1 := SeqAt.RcAt.tuples (A := A) (s := s) (e := fun _ => true) (show s.heap.IsTuple a ia.toArray from pa) (show s.heap.IsTuple b ib.toArray from pb) (by omega) el
      have t2 := SeqAt.RcNeAt.tuples (A := A) (s := s) (e := fun _ => true) (show s.heap.IsTuple a ia.toArray from pa) (show s.heap.IsTuple b ib.toArray from pb) (by omega) el
      rw [all_true, z] at t1 t2
      exact ⟨t1, t2⟩
    · cases e1; cases e2
  · cases e0
    rcases hy with hy | ⟨b, ys, es, e1, e2, hy, q⟩ | ⟨b, ys, es, e1, e2, _, hy, q⟩
    · exact (flat_ref hy).elim
    · cases e1; cases e2
    · cases e1; cases e2
      obtain ⟨ia, va, pa, _⟩ := I.list (SqL.of hx)
      obtain ⟨ib, vb, pb, _⟩ := I.list (SqL.of hy)
      have la : ia.length = ds.length := by rw [← va.length, r.length]
      have lb : ib.length = ds.length := by rw [← vb.length, q.length]
      have el : ∀ j (h1 : j < ia.toArray.size) (h2 : j < ib.toArray.size), SeqAt.EqAt A.in1 s ia.toArray[j] ib.toArray[j] true := fun j h1 h2 => by
        have j1 : j < ia.length := by simpa using h1
        have j2 : j < ib.length := by simpa using h2
        have hxl : j < xs.length := by rw [va.length]; exact j1
        have hyl : j < ys.length := by rw [vb.length]; exact j2
        obtain ⟨u', e1, e2⟩ := va.get (i := j) (List.getElem?_eq_getElem hxl)
        obtain ⟨v', e3, e4⟩ := vb.get (i := j) (List.getElem?_eq_getElem hyl)
        obtain ⟨d1, f1, f2⟩ := Paired.get r (List.getElem?_eq_getElem hxl)
        obtain ⟨d2, f3, f4⟩ := Paired.get q (List.getElem?_eq_getElem hyl)
        rw [f1] at f3
        cases f3
        rw [List.getElem?_eq_getElem j1] at e1
        rw [List.getElem?_eq_getElem j2] at e3
        cases e1; cases e3
        simpa using eqAt_same I n f2 f4 e2 e4 hin
      have t1 := SeqAt.RcAt.lists (A := A) (s := s) (e := fun _ => true) pa.isList pb.isList (by simp [la, lb]) (by omega) el
      have t2 := SeqAt.RcNeAt.lists (A := A) (s := s) (e := fun _ => true) pa.isList pb.isList (by simp [la, lb]) (by omega) el
      rw [all_true] at t1 t2
      exact ⟨t1, t2⟩
def rSame (K : PySem.W.Frag) (b : Bool) : R2 := fun x y H Q => ∃ (a c : Addr) (n : Nat) (d : Dt) (ok ok' : Addr → Prop), x = .ref a ∧ y = .ref c ∧ n ≤ 20 ∧ Says K ok H (n + 1) x d ∧ Says K ok' H (n + 1) y d ∧ Q (.bl b) H
theorem op_eqS (hu : X.A.units + 64 < cLine) : OpR X (compareOp .Eq) (rSame X.K true) := by
  intro pins s σ H x y v u Q I rx ry h
  obtain ⟨a, c, n, d, ok, ok', rfl, rfl, hn, hx, hy, q⟩ := h
  cases rx; cases ry
  exact (rc_same (A := X.A) I hx hy (by omega)).1 X.prog X.w X.xe _ ⟨.bl true, H, I, rfl, q⟩
theorem op_neS (hu : X.A.units + 64 < cLine) : OpR X (compareOp .NotEq) (rSame X.K false) := by
  intro pins s σ H x y v u Q I rx ry h
  obtain ⟨a, c, n, d, ok, ok', rfl, rfl, hn, hx, hy, q⟩ := h
  cases rx; cases ry
  exact (rc_same (A := X.A) I hx hy (by omega)).2 X.prog X.w X.xe _ ⟨.bl false, H, I, rfl, q⟩
end

/-! ### enumerate over a list -/
def Ite (K : PySem.W.Frag) (a : Addr) : It :=
  ⟨fun i H => ∃ xs x, SqL K H a xs ∧ xs[i]? = some x, fun i H x H' => ∃ (p : Addr) (y : V), x = .ref p ∧ H p = none ∧ (∀ xs, SqL K H a xs → xs[i]? = some y) ∧ H' = upd H p (.tup [.int i, y]), fun i H => ∃ xs, SqL K H a xs ∧ xs.length ≤ i⟩
theorem turn_enum {P : Program} {w : World} {K : PySem.W.Frag} {elts : List Expr} {x1 : Nat} {tpos : Pos} (a e it : Addr) (hne : e ≠ it) :
    Turn P w K (.Tuple elts x1 tpos) (Ite K a) [e, it] e (fun i h => (∃ old, IsEnum h e it (i : Int) old) ∧ h.IsListIter it a i) where
  mem := by simp
  obj := fun i h st b hb => by
    rcases List.mem_cons.mp hb with rfl | hb
    · obtain ⟨⟨old, he⟩, _⟩ := st
      exact ⟨_, he, fun v q => by cases q⟩
    · have e' : b = it := by simpa using hb
      subst e'
      obtain ⟨_, o, ho, _, hd⟩ := st
      exact ⟨o, ho, fun v q => by rw [hd] at q; cases q⟩
  keep := fun i h h' st k => by
    obtain ⟨⟨old, he⟩, o, ho, r⟩ := st
    exact ⟨⟨old, k e (by simp) _ he⟩, o, k it (by simp) o ho, r⟩
  item := by
    intro X hP hw hK hc i pins s σ H E I hf st hg
    subst hP hw hK
    obtain ⟨f0, f1, f2, f3, f4, f5⟩ := hf e (by simp)
    obtain ⟨g0, g1, g2, g3, g4, g5⟩ := hf it (by simp)
    obtain ⟨⟨old, he⟩, hit⟩ := st
    obtain ⟨xs, x, hS, hx⟩ := hg
    obtain ⟨its, rv, hp, hz⟩ := I.list hS
    obtain ⟨u, hu, ru⟩ := rv.get hx
    refine wpAny_pyNext_enum_item he hit hp.isList (x := u) (by simpa using hu) hne fun h' he' hit' htup hsz hk => ?_
    have I0 : Inv X pins σ H { s with heap := h', toks := s.toks + 1 } := by
      refine I.step (g' := s.gens) (d' := s.drawn) (ch := [e, it]) (fun b hb => ?_) (fun b o _ _ hc' e1 _ => hk b o (fun z => hc' (by simp [z])) (fun z => hc' (by simp [z])) e1) (fun b o _ _ hc' e1 _ => ⟨o.slots, hk b o (fun z => hc' (by simp [z])) (fun z => hc' (by simp [z])) e1⟩) (fun _ _ _ _ n => n)
        (fun b o hc' e1 => ⟨o, hk b o (fun z => hc' (by simp [z])) (fun z => hc' (by simp [z])) e1⟩) (fun _ _ e1 => e1) (fun _ _ _ e1 => e1) (fun b ps e1 => ⟨#[], by rw [e1]; simp⟩) (fun m hm => ?_) (fun b u' e1 => ?_) I.bare
      · rcases List.mem_cons.mp hb with rfl | hb
        · exact ⟨f3, f1, f4, f5⟩
        · have e' : b = it := by simpa using hb
          subst e'
          exact ⟨g3, g1, g4, g5⟩
      · obtain ⟨o, es, ep, ho, r⟩ := hm
        exact ⟨o, es, ep, hk _ o (Ne.symm f1) (Ne.symm g1) ho, r⟩
      · have nit : ∀ c v', H c = some v' → c ≠ e ∧ c ≠ it := fun c v' q => ⟨fun z => (by rw [z, f0] at q; cases q), fun z => (by rw [z, g0] at q; cases q)⟩
        refine (I.hok b u' e1).stay (fun c v' hc' q => ?_) (fun _ q => q) fun _ _ q => q
        rcases hc' with z | z
        · subst z; exact hk c v' (nit c _ e1).1 (nit c _ e1).2 q
        · exact hk c v' (nit c _ z).1 (nit c _ z).2 q
    have hfr : H s.heap.objs.size = none := I.hok.fresh (Nat.le_refl _)
    have I1 : Inv X pins σ (upd H s.heap.objs.size (.tup [.int i, x])) { s with heap := h', toks := s.toks + 1 } := by
      have hok : HOk X.prog X.w (upd H s.heap.objs.size (.tup [.int i, x])) h' := fun b o q => by
        by_cases hb : b = s.heap.objs.size
        · subst hb
          rw [upd_same] at q; cases q
          exact ⟨by show 2 ≤ sizeLine; decide, [.int i s.toks, u], .cons ⟨_, rfl⟩ (.cons ru .nil), ⟨_, htup, rfl, _, rfl⟩⟩
        · rw [upd_ne hb] at q
          exact (I0.hok b o q).stay (fun _ _ _ z => z) (fun c z => by rw [upd_ne (ne_of_none z hfr)]; exact z) fun c xs' z => by rw [upd_ne (ne_of_none z hfr)]; exact z
      refine I0.step (s := { s with heap := h', toks := s.toks + 1 }) (g' := s.gens) (d' := s.drawn) (h' := h') (t' := s.toks + 1) (ch := [s.heap.objs.size]) (fun b hb => ?_) (fun b o _ _ _ e1 _ => e1) (fun b o _ _ _ e1 _ => ⟨o.slots, e1⟩) (fun b o hb e1 n => by rw [upd_ne (fun z => hb (by simp [z]))]; exact n)
        (fun b o _ e1 => ⟨o, e1⟩) (fun b xs' e1 => by rw [upd_ne (ne_of_none e1 hfr)]; exact e1) (fun b o' u' e1 => by rw [upd_ne (ne_of_none e1 hfr)]; exact e1) (fun b ps e1 => ⟨#[], by rw [upd_ne (ne_of_none e1 hfr), e1]; simp⟩) (fun m hm => hm) hok I0.bare
      have e' : b = s.heap.objs.size := by simpa using hb
      subst e'
      refine ⟨.inr I.sz, fun z => ?_, fun y c h z => ?_, fun p hp' z => ?_⟩
      · have := I.lt; rw [← z] at this; exact absurd this (Nat.lt_irrefl _)
      · obtain ⟨v', hv⟩ := I.cell y c h
        have := hv.lt; rw [z] at this; exact absurd this (Nat.lt_irrefl _)
      · have := I.pin_lt hp'; rw [z] at this; exact absurd this (Nat.lt_irrefl _)
    refine ⟨_, rfl, wpAny_letOwnedTupleGo_enum he' fun h2 he2 hs2 => ?_⟩
    have nes : s.heap.objs.size ≠ e := fun z => by
      have := Heap.lt_size (show s.heap.get? e = some _ from he)
      rw [← z] at this; exact absurd this (Nat.lt_irrefl _)
    have nis : s.heap.objs.size ≠ it := fun z => by
      obtain ⟨o, ho, _⟩ := hit
      have := Heap.lt_size ho
      rw [← z] at this; exact absurd this (Nat.lt_irrefl _)
    have I2 : Inv X pins σ (upd H s.heap.objs.size (.tup [.int i, x])) { s with heap := h2, toks := s.toks + 1 } :=
      I1.turned (s := { s with heap := h', toks := s.toks + 1 }) (t' := s.toks + 1) (it := e) (fun b o hb q => (hs2.2 b hb).trans q) (by rw [upd_ne nes.symm]; exact f0) f1 f3 f4 f5
    refine ⟨.ref s.heap.objs.size, _, I2, rfl, ⟨_, x, rfl, hfr, fun xs' h' => ?_, rfl⟩, ⟨⟨_, by simpa using he2⟩, ?_⟩, fun b hb => ?_⟩
    · rw [I.list_inj h' hS]; exact hx
    · obtain ⟨o, ho, r⟩ := hit'
      exact ⟨o, (hs2.2 it (Ne.symm hne)).trans ho, r⟩
    · rcases List.mem_cons.mp hb with rfl | hb
      · rw [upd_ne nes.symm]; exact f0
      · have e' : b = it := by simpa using hb
        subst e'
        rw [upd_ne nis.symm]; exact g0
  done := by
    intro X hP hw hK hc i pins s σ H E I hf st hg
    subst hP hw hK
    obtain ⟨⟨old, he⟩, hit⟩ := st
    obtain ⟨g0, g1, g2, g3, g4, g5⟩ := hf it (by simp)
    obtain ⟨xs, hS, hle⟩ := hg
    obtain ⟨its, rv, hp, hz⟩ := I.list hS
    have hx : its.toArray[i]? = none := by simp [← rv.length, hle]
    exact wpAny_pyNext_enum_end (I.ok.hd hc) he hit hp.isList hx fun h' eb => ⟨rfl, I.turned (t' := s.toks) (fun b o hb e1 => eb b o hb e1) g0 g1 g3 g4 g5⟩
  self := fun A i s Q E st h => by
    obtain ⟨⟨old, he⟩, _⟩ := st
    exact wpAny_pyIter_enum he h
section
variable {X : Cx} {elts : List Expr} {x1 : Nat} {tpos : Pos}
def iEnum (K : PySem.W.Frag) (ta : TA) : TI := fun σ H R => ta σ H fun vs H1 => ∃ a, vs = [.ref a] ∧ (∃ xs, SqL K H1 a xs) ∧ R (Ite K a) H1
theorem pi_enum {l : Expr} {ta : TA} {p pos : Pos} (hg : Gl X "enumerate") (hm : X.mg "enumerate" = none) (ha : PA X [l] ta) (hl : isSt l = false := by rfl) : PI X (.Tuple elts x1 tpos) (.Call (.Name "enumerate" p) [l] [] pos) (iEnum X.K ta) := by
  refine ⟨?_⟩
  intro pins s σ H R I h
  refine Call_ (ld_blt I hg hm PyProof.Rows.boot_enumerate (PyProof.Rows.callWith_type1 (thn (ha pos pins s σ H _ I h) fun us s1 ⟨vs, H1, I1, r1, q1⟩ => ?_) (star_cons hl) rfl))
  obtain ⟨a, e, ⟨xs, hS⟩, q⟩ := q1
  subst e
  obtain ⟨u, rfl, ru⟩ := vals1 r1
  cases ru
  obtain ⟨its, rv, hp, hz⟩ := I1.list hS
  refine call_enumerate_list hp.isList fun h' he hit hsz hk => ?_
  refine wpAny_pyIter_enum he ?_
  have hfr : ∀ b, s1.heap.objs.size ≤ b → H1 b = none := fun b hb => I1.hok.fresh hb
  have I2 : Inv X pins σ H1 { s1 with heap := h' } := I1.kept (t' := s1.toks) hk
  refine ⟨s1.heap.objs.size + 1, [s1.heap.objs.size + 1, s1.heap.objs.size], _, _, H1, rfl, I2, turn_enum a _ _ (Nat.succ_ne_self _), ⟨⟨_, he⟩, hit⟩, fun b hb => ?_, q⟩
  rcases List.mem_cons.mp hb with rfl | hb
  · exact I1.fpOk (Nat.le_succ _) (hfr _ (Nat.le_succ _))
  · have e' : b = s1.heap.objs.size := by simpa using hb
    subst e'
    exact I1.fpOk (Nat.le_refl _) (hfr _ (Nat.le_refl _))
end
end L2

set_option Elab.async false
set_option linter.all false
set_option maxRecDepth 100000
set_option maxHeartbeats 4000000
namespace Att
open PySem PySem.W PySem.Calls PyProof.Rows
/-! ### the script's numbers have at most 2 ^ 20 bits each -/
end Att
namespace L2
open PySem PySem.Spec PyProof.Rows
section
variable {X : Cx}
end
end L2

set_option Elab.async false
set_option linter.all false
set_option maxRecDepth 100000
set_option maxHeartbeats 4000000
namespace L2
open PySem PySem.Spec PyProof.Rows
/-! ### defs with defaults; an instance made with keywords -/
/-- a def or method whose defaults are these values -/
structure FunD (K : PySem.W.Frag) (x qual : Str) (st : Stmt) (f : Addr) (fd : FuncData) (items : List Value) : Prop where
  ex : ∃ (oc : Value) (od : Option Addr) (T : Addr) (kV doc pm : Value) (an : Option Addr) (cdv ct : Value) (osl : Array (Option Value)) (o : Obj) (n : Nat),
    fd = PySem.W.fnOf x qual (defArgs st) (defBody st) (defScope st) (.ref T) kV doc pm an cdv ct ∧ K.lookup f = some ⟨oc, od, .func fd, osl⟩ ∧ PySem.W.codeIn K cdv qual = true ∧ K.lookup T = some o ∧ o.data = .seq items.toArray n
  kp : PySem.W.keepIn K (.ref f) = true
section
variable {P : Program} {w : World} {K : PySem.W.Frag} {mg : Str → Option Value} {base : Heap}
theorem FunD.ok {x qual : Str} {st : Stmt} {f : Addr} {fd : FuncData} {items : List Value} {N ps : List Str} {k : Nat} {sp : Sp} (F : FunD K x qual st f fd items) (S : FnScope N ps (defScope st)) (len : ∀ vs H Q E, sp vs H Q E → vs.length = ps.length)
    (hbody : ∀ (cdv : Value) (A : Around) (outer : List Env) (s : Shared) (H : Hp) (vs : List V) (Q : VK) (E : XK), Room k (A.deeper (envOfC qual (defScope st) s.heap.objs.size f cdv)) → sp vs H Q E →
      ∃ t, PSs (cxOf CX0 P w K mg base N qual (defScope st) f cdv A outer s H E).nox (defBody st) t ∧ t { nx := fun _ H' => Q .non H', rt := Q } (start N vs) H) : FnOk P w K mg base CX0 (k + 1) f fd ps sp := by
  obtain ⟨oc, od, T, kV, doc, pm, an, cdv, ct, osl, o, n, rfl, lk, hcd, _, _⟩ := F.ex
  refine fn_of lk hcd S len fun A outer s H vs Q E hr hsp => ?_
  obtain ⟨t, h, q⟩ := hbody cdv A outer s H vs Q E hr hsp
  exact ⟨t, h.nox, q⟩
/-- how it binds: h is «fun _ _ _ _ _ _ _ => ⟨_, rfl, rfl⟩» -/
theorem FunD.bindsTo {x qual : Str} {st : Stmt} {f : Addr} {fd : FuncData} {items : List Value} (F : FunD K x qual st f fd items) {args : Args} {bs : List (Str × Value)}
    (h : ∀ (T : Addr) (kV doc pm : Value) (an : Option Addr) (cdv ct : Value), ∃ k : Option (Array Value) → Sem (List (Str × Value)),
      bindArgs (PySem.W.fnOf x qual (defArgs st) (defBody st) (defScope st) (.ref T) kV doc pm an cdv ct) args = seqItems? (.ref T) >>= k ∧ k (some items.toArray) = pure bs) {s : Shared} (KX : K.In s.heap) : BindsTo s fd args bs := by
  obtain ⟨oc, od, T, kV, doc, pm, an, cdv, ct, osl, o, n, rfl, lk, hcd, lt, hs⟩ := F.ex
  obtain ⟨k, h1, h2⟩ := h T kV doc pm an cdv ct
  exact BindsTo.of_defaults (T := T) (n := n) rfl (KX _ _ lt) hs h1 h2
theorem funD_mk {x qual : Str} {st : Stmt} {f T : Addr} {oc : Value} {od an : Option Addr} {osl : Array (Option Value)} {kV doc pm cdv ct : Value} {o : Obj} {n : Nat} {items : List Value}
    (l : K.lookup f = some ⟨oc, od, .func (PySem.W.fnOf x qual (defArgs st) (defBody st) (defScope st) (.ref T) kV doc pm an cdv ct), osl⟩)
    (c : PySem.W.codeIn K cdv qual = true) (k : PySem.W.keepIn K (.ref f) = true) (lT : K.lookup T = some o) (hs : o.data = .seq items.toArray n) :
    FunD K x qual st f (PySem.W.fnOf x qual (defArgs st) (defBody st) (defScope st) (.ref T) kV doc pm an cdv ct) items := ⟨⟨oc, od, T, kV, doc, pm, an, cdv, ct, osl, o, n, rfl, l, c, lT, hs⟩, k⟩
end
section
variable {X : Cx} {CX : CXT} {k : Nat} {f C : Addr} {fd : FuncData} {ps ks : List Str} {sp : Sp} {E : XK} {x : Str} {p pos : Pos} {e : Expr} {es : List Expr} {kws : List Keyword} {t tk : TA}
  {g : List Value → List Value → List Value} {gV : List V → List V → List V}
end
/-! ### a statement and what follows, with what holds between them; comprehensions over a list -/
theorem seq_via {t u : TS} {D : Ends} {σ : St} {H : Hp} (R : St → Hp → Prop) (h2 : ∀ σ H, R σ H → u D σ H) (h1 : (∀ σ H, R σ H → u D σ H) → t { D with nx := u D } σ H) : tSeq t u D σ H := h1 h2
/-- what a turn of a block that makes the list at D asks of its item -/
def lcN (n i : Nat) (D : Addr) (Pv : Nat → List V → Hp → Prop) (ys : List V) : VK := fun v H4 => H4 D = some (.lst ys) ∧ ys.length < sizeLine ∧ ∃ m', m' < n - i ∧ m' = n - (i + 1) ∧ i + 1 ≤ n ∧ Pv (i + 1) (ys ++ [v]) (upd H4 D (.lst (ys ++ [v])))
def lcS (n i : Nat) (Pv : Nat → List V → Hp → Prop) (ys : List V) : Hp → Prop := fun H4 => ∃ m', m' < n - i ∧ m' = n - (i + 1) ∧ i + 1 ≤ n ∧ Pv (i + 1) ys H4
theorem lcN.mk {n i : Nat} {D : Addr} {Pv : Nat → List V → Hp → Prop} {ys : List V} {v : V} {H4 : Hp} (hi : i < n) (hn : n ≤ sizeLine) (hD : H4 D = some (.lst ys)) (hy : ys.length ≤ i) (p : Pv (i + 1) (ys ++ [v]) (upd H4 D (.lst (ys ++ [v])))) : lcN n i D Pv ys v H4 :=
  ⟨hD, by omega, n - (i + 1), by omega, rfl, hi, p⟩
theorem lcS.mk {n i : Nat} {Pv : Nat → List V → Hp → Prop} {ys : List V} {H4 : Hp} (hi : i < n) (p : Pv (i + 1) ys H4) : lcS n i Pv ys H4 := ⟨n - (i + 1), by omega, rfl, hi, p⟩
theorem lc_list {K : PySem.W.Frag} {a : Addr} {xs : List V} {caps : List (Option Nat)} {g : TG} {tt : TT} {te : TE} {σ : St} {H1 : Hp} {Q : VK} {D : Addr} (Pv : Nat → List V → Hp → Prop) (h0 : Pv 0 [] (upd H1 D (.lst [])))
    (hl : ∀ i ys H, Pv i ys H → SqL K H a xs)
    (hs : ∀ i x ys H, i < xs.length → xs[i]? = some x → Pv i ys H → g x (capS caps σ) H fun σ2 H2 => tt σ2 H2 fun ok H3 => (ok = true → te σ2 H3 (lcN xs.length i D Pv ys)) ∧ (ok = false → lcS xs.length i Pv ys H3))
    (hd : ∀ ys H, Pv xs.length ys H → Q (.ref D) H) : LCr (Itl K a) caps g tt te σ H1 Q D := by
  refine ⟨fun i m ys H => m = xs.length - i ∧ i ≤ xs.length ∧ Pv i ys H, ⟨xs.length, by simp, Nat.zero_le _, h0⟩, ?_⟩
  rintro i m ys H ⟨rfl, hi, p⟩
  have q := hl i ys H p
  by_cases hlt : i < xs.length
  · refine .inr ⟨⟨xs, xs[i], q, by simp [hlt]⟩, fun x H' y => ?_⟩
    obtain ⟨e, y⟩ := y
    subst e
    exact hs i x ys _ hlt (y xs q) p
  · have e : i = xs.length := by omega
    subst e
    exact .inl ⟨⟨xs, q, Nat.le_refl _⟩, hd ys H p⟩
/-- a new instance with its attributes -/
theorem same_make {H : Hp} {x dx : Addr} {o1 o2 : HO} (hx : H x = none) (hd : H dx = none) : Same H (upd (upd (upd H dx (.own x)) x o1) x o2) := fun b u q => by
  rw [upd_ne (ne_of_none q hx), upd_ne (ne_of_none q hx), upd_ne (ne_of_none q hd)]
  exact q
theorem same_make0 {H : Hp} {x dx : Addr} {o1 : HO} (hx : H x = none) (hd : H dx = none) : Same H (upd (upd H dx (.own x)) x o1) := fun b u q => by
  rw [upd_ne (ne_of_none q hx), upd_ne (ne_of_none q hd)]
  exact q
theorem same_new {H : Hp} {p : Addr} (h : H p = none) (o : HO) : Same H (upd H p o) := fun b u q => by rw [upd_ne (ne_of_none q h)]; exact q
end L2

set_option Elab.async false
set_option linter.all false
set_option maxRecDepth 100000
set_option maxHeartbeats 4000000
namespace L2
open PySem PySem.Spec PyProof.Rows
/-! ### comprehensions over a range, over enumerate -/
theorem lc_range {lo : Int} {n : Nat} {caps : List (Option Nat)} {g : TG} {tt : TT} {te : TE} {σ : St} {H1 : Hp} {Q : VK} {D : Addr} (Pv : Nat → List V → Hp → Prop) (h0 : Pv 0 [] (upd H1 D (.lst [])))
    (hs : ∀ i ys H, i < n → Pv i ys H → g (.int (lo + i)) (capS caps σ) H fun σ2 H2 => tt σ2 H2 fun ok H3 => (ok = true → te σ2 H3 (lcN n i D Pv ys)) ∧ (ok = false → lcS n i Pv ys H3))
    (hd : ∀ ys H, Pv n ys H → Q (.ref D) H) : LCr (Itr lo n) caps g tt te σ H1 Q D := by
  refine ⟨fun i m ys H => m = n - i ∧ i ≤ n ∧ Pv i ys H, ⟨n, by simp, Nat.zero_le _, h0⟩, ?_⟩
  rintro i m ys H ⟨rfl, hi, p⟩
  by_cases hlt : i < n
  · refine .inr ⟨hlt, fun x H' y => ?_⟩
    obtain ⟨e, y⟩ := y
    subst e y
    exact hs i ys _ hlt p
  · have e : i = n := by omega
    subst e
    exact .inl ⟨Nat.le_refl _, hd ys H p⟩
theorem lc_enum {K : PySem.W.Frag} {a : Addr} {xs : List V} {caps : List (Option Nat)} {g : TG} {tt : TT} {te : TE} {σ : St} {H1 : Hp} {Q : VK} {D : Addr} (Pv : Nat → List V → Hp → Prop) (h0 : Pv 0 [] (upd H1 D (.lst [])))
    (hl : ∀ i ys H, Pv i ys H → SqL K H a xs)
    (hs : ∀ i x p ys H, i < xs.length → xs[i]? = some x → Pv i ys H → H p = none → g (.ref p) (capS caps σ) (upd H p (.tup [.int i, x])) fun σ2 H2 => tt σ2 H2 fun ok H3 => (ok = true → te σ2 H3 (lcN xs.length i D Pv ys)) ∧ (ok = false → lcS xs.length i Pv ys H3))
    (hd : ∀ ys H, Pv xs.length ys H → Q (.ref D) H) : LCr (Ite K a) caps g tt te σ H1 Q D := by
  refine ⟨fun i m ys H => m = xs.length - i ∧ i ≤ xs.length ∧ Pv i ys H, ⟨xs.length, by simp, Nat.zero_le _, h0⟩, ?_⟩
  rintro i m ys H ⟨rfl, hi, p⟩
  have q := hl i ys H p
  by_cases hlt : i < xs.length
  · refine .inr ⟨⟨xs, xs[i], q, by simp [hlt]⟩, fun x H' y => ?_⟩
    obtain ⟨pp, y, rfl, hp, y2, rfl⟩ := y
    exact hs i y pp ys H hlt (y2 xs q) p hp
  · have e : i = xs.length := by omega
    subst e
    exact .inl ⟨⟨xs, q, Nat.le_refl _⟩, hd ys H p⟩
theorem for_enum {K : PySem.W.Frag} {a : Addr} {xs : List V} {g : TG} {tb : TS} {D : Ends} {σ : St} {H : Hp} (Pv : Nat → St → Hp → Prop) (h0 : Pv 0 σ H) (hl : ∀ i σ H, i ≤ xs.length → Pv i σ H → SqL K H a xs)
    (hs : ∀ i x p σ H, xs[i]? = some x → Pv i σ H → H p = none → g (.ref p) σ (upd H p (.tup [.int i, x])) fun σ2 H2 => tb { D with nx := Pv (i + 1), ct := Pv (i + 1), bk := D.nx } σ2 H2) (hd : ∀ σ H, Pv xs.length σ H → D.nx σ H) :
    ∃ W : Nat → Nat → St → Hp → Prop, (∃ m, W 0 m σ H) ∧ ∀ i m σ H, W i m σ H →
      ((Ite K a).stop i H ∧ D.nx σ H) ∨ ((Ite K a).go i H ∧ ∃ N : St → Hp → Prop, (∀ σ' H', N σ' H' → ∃ m', m' < m ∧ W (i + 1) m' σ' H') ∧ ∀ x H', (Ite K a).yld i H x H' → g x σ H' fun σ2 H2 => tb { D with nx := N, ct := N, bk := D.nx } σ2 H2) := by
  refine ⟨fun i m σ H => m = xs.length - i ∧ i ≤ xs.length ∧ Pv i σ H, ⟨xs.length, by simp, Nat.zero_le _, h0⟩, ?_⟩
  rintro i m σ H ⟨rfl, hi, p⟩
  have q := hl i σ H hi p
  by_cases hlt : i < xs.length
  · refine .inr ⟨⟨xs, xs[i], q, by simp [hlt]⟩, Pv (i + 1), fun σ' H' p' => ⟨xs.length - (i + 1), by omega, rfl, hlt, p'⟩, fun x H' y => ?_⟩
    obtain ⟨pp, y, rfl, hp, y2, rfl⟩ := y
    exact hs i y pp σ H (y2 xs q) p hp
  · have e : i = xs.length := by omega
    subst e
    exact .inl ⟨⟨xs, q, Nat.le_refl _⟩, hd σ H p⟩
/-! ### places within a sequence; fewer bits -/
theorem atI_pos {α : Type} {xs : List α} {i : Int} (h0 : 0 ≤ i) (h1 : i < xs.length) : ∃ x, x ∈ xs ∧ atI xs i = some x ∧ xs[i.toNat]? = some x := by
  obtain ⟨k, rfl⟩ := Int.eq_ofNat_of_zero_le h0
  have hk : k < xs.length := by omega
  exact ⟨xs[k], List.getElem_mem hk, atI_nat (List.getElem?_eq_getElem hk), by simp [hk]⟩
/-! ### isinstance of a tuple that is read -/
end L2

set_option Elab.async false
set_option linter.all false
set_option maxRecDepth 100000
set_option maxHeartbeats 4000000
namespace L2
open PySem PySem.Spec PyProof.Rows
/-! ### an exception in flight -/
/-- it left a callee: behind it lies the heap s', tracked by H'; the frames at outer still run -/
structure Fly (P : Program) (w : World) (outer : List Env) (H : Hp) (s : Shared) (cls : Value) (H' : Hp) (ea : Addr) (s' : Shared) : Prop where
  os : s'.os = s.os
  bare : AllBare s'.gens
  un : Un (frs outer) [] H H' s.heap s'.heap
  hok : HOk P w H' s'.heap
  nt : H' ea = none
  fly : ∃ B a0, Heap.FlyingW B outer ea cls a0 s'.heap ∧ (∀ b u, H' b = some u → ∃ o, B.get? b = some o) ∧ (∀ b o, s.heap.get? b = some o → H b = none → b ∉ frs outer → B.get? b = some o) ∧
    ∀ b o, s.heap.get? b = some o → b ∉ frs outer → ∃ o', B.get? b = some o'
abbrev CXe (P : Program) (w : World) : CXT := fun outer H s E e s' => ∃ ea cls H', e = .ref ea ∧ Fly P w outer H s cls H' ea s' ∧ E cls none H'
section
variable {X : Cx} {pins : List (Addr × Obj)} {σ : St} {H H' : Hp} {s s' : Shared} {ea : Addr} {cls : Value} {vs : List Value} {h' : Heap} {M : Model} {E : Value → Shared → Prop}
theorem frs_stack (hstk : X.stack = X.env :: X.outer) (hfl : X.env.frame = some X.env.locals) : frs X.stack = X.env.locals :: frs X.outer := by
  rw [hstk]
  unfold frs
  rw [List.filterMap_cons, hfl]
theorem HOk.sameAt {P : Program} {w : World} {h h' : Heap} (x : HOk P w H h) (k : ∀ b u o, H b = some u → h.get? b = some o → h'.get? b = some o) : HOk P w H h' := fun a o e =>
  (x a o e).stay (fun b u hb q => by
    rcases hb with z | z
    · exact k b o u (by rw [z]; exact e) q
    · exact k b _ u z q) (fun _ q => q) fun _ _ q => q
theorem HOk.rec {P : Program} {w : World} {h : Heap} (x : HOk P w H h) {b : Addr} {u : HO} (e : H b = some u) : ∃ o, h.get? b = some o := by
  have q := x b u e
  cases u with
  | lst xs => obtain ⟨_, _, _, _, e⟩ := q; exact ⟨_, e⟩
  | tup xs => obtain ⟨_, _, _, o, e, _⟩ := q; exact ⟨_, e⟩
  | dK kvs => obtain ⟨_, _, _, _, o, _, _, e, _⟩ := q; exact ⟨_, e⟩
  | dT kvs => obtain ⟨_, _, _, _, o, _, _, e, _⟩ := q; exact ⟨_, e⟩
  | set S n => obtain ⟨o, _, _, _, e, _⟩ := q; exact ⟨_, e⟩
  | ins C dx fs => obtain ⟨_, _, _, e, _⟩ := q; exact ⟨_, e⟩
  | own y => exact q
  | xd fs => obtain ⟨_, ⟨o, _, _, e, _⟩, _⟩ := q; exact ⟨_, e⟩
  | rng lo hi => obtain ⟨_, _, _, e⟩ := q; exact ⟨_, e⟩
  | frz ob u => obtain ⟨e, _⟩ := q; exact ⟨_, e⟩
  | tbl ps => exact ⟨_, q⟩
  | met f y => exact ⟨_, q⟩
  | ext φ => exact q.2.1
/-- a new exception leaves the frame -/
theorem fly_made (I : Inv X pins σ H s) (hstk : X.stack = X.env :: X.outer) (hfl : X.env.frame = some X.env.locals) (hex : X.ex = []) (hx : Heap.MadeExcOf s.heap h' ea cls vs) :
    wpAny M X.A (leaving X.env (.ref ea)) (fun _ s'' => Fly X.prog X.w X.outer X.H₀ X.s₀ cls H ea s'') E { s with heap := h' } := by
  have fr := frs_stack hstk hfl
  have fl : s.heap.FunFrames (PySem.W.hideAll s.heap (frs X.stack)) (X.env :: X.outer) := by
    have := I.stack
    rw [hstk] at this
    refine PySem.W.funFrames_hide this fun env he b hb => ?_
    rw [hstk]
    exact List.mem_filterMap.mpr ⟨env, he, hb⟩
  have fr0 := I.ok.frames
  rw [hstk] at fr0
  have neL : ∀ b o, X.s₀.heap.get? b = some o → b ≠ X.env.locals := fun b o e => Nat.ne_of_lt (Nat.lt_of_lt_of_le (Heap.lt_size e) I.ok.above)
  have noEx : ∀ b : Addr, b ∉ X.ex := fun b => by rw [hex]; simp
  have inB : ∀ b o, s.heap.get? b = some o → b ∉ frs X.stack → (PySem.W.hideAll s.heap (frs X.stack)).get? b = some o := fun b o e n => PySem.W.hideAll_get _ e n
  have trB : ∀ b u, H b = some u → b ∉ frs X.stack := fun b u e n => by rw [I.stkFree b n] at e; cases e
  refine wpAny_leaves_madeW (base := PySem.W.hideAll s.heap (frs X.stack)) fr0 hfl (fun b o q => PySem.W.of_hideAll _ q) fl hx fun h2 t x1 x2 x3 x4 => ?_
  have stay : ∀ b o, s.heap.get? b = some o → b ∉ frs X.stack → h2.get? b = some o := fun b o e n => x1.1 b o (inB b o e n)
  have up : ∀ b o, s.heap.get? b = some o → (∀ vs, o.data ≠ .fields vs) → ∃ sl, h2.get? b = some { o with slots := sl } := fun b o e n => x4 b o (hx.keeps b o e) n
  refine ⟨I.os, I.bare, ⟨fun b o e n hb _ => ?_, fun b o e n hb _ => ?_, fun b o e n _ => I.base.free b o e n (noEx b), fun b o e _ => ?_, I.base.tups, I.base.frzs, I.base.tbls⟩, I.hok.sameAt fun b u o e q => stay b o q (trB b u e), ?_, ?_⟩
  · refine stay b o (I.base.keep b o e n hb (noEx b)) ?_
    rw [fr]
    exact fun z => (List.mem_cons.mp z).elim (neL b o e) hb
  · obtain ⟨sl, e1⟩ := I.base.slot b o e n hb (noEx b)
    obtain ⟨_, o', ho', hd⟩ := I.funs.mem hb
    rw [e1] at ho'
    cases ho'
    obtain ⟨sl2, e2⟩ := up b _ e1 hd
    exact ⟨sl2, e2⟩
  · obtain ⟨o1, e1⟩ := I.base.there b o e (noEx b)
    by_cases hb : b ∈ frs X.stack
    · obtain ⟨_, o', ho', hd⟩ := I.stack.mem hb
      obtain ⟨sl2, e2⟩ := up b o' ho' hd
      exact ⟨_, e2⟩
    · exact ⟨o1, stay b o1 e1 hb⟩
  · cases q : H ea with
    | none => rfl
    | some u =>
      obtain ⟨o, e⟩ := I.hok.rec q
      rw [hx.new] at e; cases e
  · refine ⟨_, _, x1, fun b u e => ?_, fun b o e n hb => ?_, fun b o e hb => ?_⟩
    · obtain ⟨o, q⟩ := I.hok.rec e
      exact ⟨o, inB b o q (trB b u e)⟩
    · refine inB b o (I.base.keep b o e n hb (noEx b)) ?_
      rw [fr]
      exact fun z => (List.mem_cons.mp z).elim (neL b o e) hb
    · obtain ⟨o1, e1⟩ := I.base.there b o e (noEx b)
      refine ⟨o1, inB b o1 e1 ?_⟩
      rw [fr]
      exact fun z => (List.mem_cons.mp z).elim (neL b o e) hb
/-- an exception of a callee leaves the frame -/
theorem fly_on (I : Inv X pins σ H s) (hstk : X.stack = X.env :: X.outer) (hfl : X.env.frame = some X.env.locals) (hex : X.ex = []) (F : Fly X.prog X.w X.stack H s cls H' ea s') :
    wpAny M X.A (leaving X.env (.ref ea)) (fun _ s'' => Fly X.prog X.w X.outer X.H₀ X.s₀ cls H' ea s'') E s' := by
  have fr := frs_stack hstk hfl
  have fr0 := I.ok.frames
  rw [hstk] at fr0
  obtain ⟨B, a0, fl, tr, old, olds⟩ := F.fly
  have neL : ∀ b o, X.s₀.heap.get? b = some o → b ≠ X.env.locals := fun b o e => Nat.ne_of_lt (Nat.lt_of_lt_of_le (Heap.lt_size e) I.ok.above)
  have noEx : ∀ b : Addr, b ∉ X.ex := fun b => by rw [hex]; simp
  have nst : ∀ b o, X.s₀.heap.get? b = some o → b ∉ frs X.outer → b ∉ frs X.stack := fun b o e hb => by
    rw [fr]
    exact fun z => (List.mem_cons.mp z).elim (neL b o e) hb
  have fl' := fl
  rw [hstk] at fl'
  refine wpAny_leaves_onW fr0 hfl fl' fun h2 x1 x2 => ?_
  have oldB : ∀ b o, X.s₀.heap.get? b = some o → X.H₀ b = none → b ∉ frs X.outer → B.get? b = some o := fun b o e n hb =>
    old b o (I.base.keep b o e n hb (noEx b)) (I.base.free b o e n (noEx b)) (nst b o e hb)
  refine ⟨F.os.trans I.os, F.bare, ⟨fun b o e n hb _ => x1.1 b o (oldB b o e n hb), fun b o e n hb _ => ?_, fun b o e n _ => ?_, fun b o e _ => ?_, fun b xs e => F.un.tups b xs (I.base.tups b xs e), fun b o u e => F.un.frzs b o u (I.base.frzs b o u e), fun b ps e => ?_⟩, F.hok.sameAt fun b u o e q => ?_, F.nt, ⟨B, a0, x1, tr, oldB, fun b o e hb => ?_⟩⟩
  · obtain ⟨sl, e1⟩ := I.base.slot b o e n hb (noEx b)
    obtain ⟨sl1, e2⟩ := F.un.any e1 (I.base.free b o e n (noEx b)) (by simp)
    have hd : ∀ vs, o.data ≠ .fields vs := by
      obtain ⟨_, o', ho', hd⟩ := I.funs.mem hb
      rw [e1] at ho'
      cases ho'
      exact hd
    obtain ⟨sl2, e3⟩ := x2 b _ e2 hd
    exact ⟨sl2, e3⟩
  · obtain ⟨o', e1⟩ := I.base.there b o e (noEx b)
    exact F.un.free b o' e1 (I.base.free b o e n (noEx b)) (by simp)
  · obtain ⟨o1, e1⟩ := I.base.there b o e (noEx b)
    obtain ⟨o2, e2⟩ := F.un.there b o1 e1 (by simp)
    by_cases hb : b ∈ frs X.stack
    · obtain ⟨_, o', ho', hd⟩ := fl.2.2.1.mem hb
      obtain ⟨sl2, e3⟩ := x2 b o' ho' hd
      exact ⟨_, e3⟩
    · obtain ⟨o3, e3⟩ := olds b o1 e1 hb
      exact ⟨o3, x1.1 b o3 e3⟩
  · obtain ⟨m1, e1⟩ := I.base.tbls b ps e
    obtain ⟨m2, e2⟩ := F.un.tbls b _ e1
    exact ⟨m1 ++ m2, by rw [e2, Array.append_assoc]⟩
  · obtain ⟨o3, e3⟩ := tr b u e
    have e4 := fl.1 b o3 e3
    rw [q] at e4
    cases e4
    exact x1.1 b o e3
  · obtain ⟨o1, e1⟩ := I.base.there b o e (noEx b)
    exact olds b o1 e1 (nst b o e hb)
end
end L2

set_option Elab.async false
set_option linter.all false
set_option maxRecDepth 100000
set_option maxHeartbeats 4000000
namespace L2
open PySem PySem.Spec PyProof.Rows
/-! ### raise C(..) -/
/-- what is wanted of a new exception that this code raises -/
def Raises (X : Cx) (E : XK) : Prop := ∀ (pins : List (Addr × Obj)) (σ : St) (H : Hp) (s : Shared) (ea : Addr) (cls : Value) (vs : List Value) (h' : Heap), Inv X pins σ H s → Heap.MadeExcOf s.heap h' ea cls vs → E cls none H → X.xe (.ref ea) { s with heap := h' }
def tRaise (C : Addr) (E : XK) (t : TA) : TS := fun _ σ H => t σ H fun vs H1 => vs.length ≤ sizeLine ∧ E (.ref C) none H1
section
variable {X : Cx} {E : XK} {x : Str} {C : Addr} {B Bn newId nid initId inN : String} {bm bmN : List Value} {np cpos pos : Pos} {e : Expr} {es : List Expr} {t : TA}
theorem ps_raise (hX : Raises X E) (O : OwnCls x C bm newId X.mg X.base) (Fn : ExcBaseFacts Bn newId inN bmN) (hBn : bm.contains (.type Bn) = true) (FB : ExcBaseFacts B nid initId bm) (hc : X.calm = true) (ha : PA X (e :: es) t)
    (hg : Gl X x := by rfl) (hd : (x == ("__debug__" : Str)) = false := by decide) (h1 : isSt e = false := by rfl) (h2 : es.any isSt = false := by rfl) :
    PS X (.Raise (some (.Call (.Name x np) (e :: es) [] cpos)) none pos) (tRaise C E t) := by
  refine ⟨?_⟩
  intro pins s σ H D I h
  obtain ⟨tl, N, nm, q, bs, hdct, sn, sub, ab, col, dd, k0, k1, k2, k3, k5, mN, hC, hN, hni, T⟩ := O.obj
  have hst : starEach (e :: es) X.env = (false, eval e X.env) :: starEach es X.env := star_cons h1
  refine wpAny_Raise_call_subU (C := C) (nm := nm) (q := q) (N := N) (bs := bs) (bm := tl) (hdct := hdct) (sn := sn) (sub := sub) (ab := ab) (col := col) (dd := dd) (k0 := k0) (k1 := k1) (k2 := k2) (k3 := k3) (k5 := k5)
    Fn hBn FB (mN := mN) (T.hasType FB.hasBase) (I.ok.hd hc) (by rw [hst]; show (false || (backTo cpos (starEach es X.env)).any (·.1)) = false; rw [star_any h2]; rfl) hni (ld_glob I hg O.bound ⟨rfl, ?_⟩ hd)
  rw [hst]
  refine Calls.evalArgs_plain ?_
  have hA := ha cpos pins s σ H _ I h
  rw [hst] at hA
  refine thn hA fun us s2 ⟨vs, H1, I1, r, hl, q1⟩ => ⟨rfl, by rw [← r.length]; exact hl, I1.bk _ _ hC, hN.keeps I1.bk, T.keeps I1.bk, fun h' ea hm => ?_⟩
  exact hX pins σ H1 s2 ea _ _ h' I1 hm q1
end
/-! ### a def that may raise -/
section
variable {P : Program} {w : World} {K : PySem.W.Frag} {mg : Str → Option Value} {base : Heap} {N : List Str} {qual : Str} {scope : Scope} {f : Addr} {cd : Value} {A : Around} {outer : List Env} {s : Shared} {H : Hp} {E E' : XK}
theorem raises_cx : Raises (cxOf (CXe P w) P w K mg base N qual scope f cd A outer s H E) E := fun pins σ H1 s1 ea cls vs h' I hm q => by
  refine wpAny_mono (fly_made I rfl rfl rfl hm) (fun _ s2 F => ?_) fun _ _ z => z
  exact ⟨ea, cls, H1, rfl, F, q⟩
theorem passE (hE : ∀ c d H, E' c d H → E c d H) : Passes (CXe P w) (cxOf (CXe P w) P w K mg base N qual scope f cd A outer s H E) E' := fun pins σ H1 s1 e s' I q => by
  obtain ⟨ea, cls, H', rfl, F, q⟩ := q
  refine wpAny_mono (fly_on I rfl rfl rfl F) (fun _ s2 F2 => ?_) fun _ _ z => z
  exact ⟨ea, cls, H', rfl, F2, hE _ _ _ q⟩
theorem Fun.okE {x : Str} {st : Stmt} {fd : FuncData} {ps : List Str} {k : Nat} {sp : Sp} (F : Fun K x qual st f fd) (S : FnScope N ps (defScope st)) (len : ∀ vs H Q E, sp vs H Q E → vs.length = ps.length)
    (hbody : ∀ (cdv : Value) (A : Around) (outer : List Env) (s : Shared) (H : Hp) (vs : List V) (Q : VK) (E : XK), Room k (A.deeper (envOfC qual (defScope st) s.heap.objs.size f cdv)) → sp vs H Q E →
      ∃ t, PSs (cxOf (CXe P w) P w K mg base N qual (defScope st) f cdv A outer s H E) (defBody st) t ∧ t { nx := fun _ H' => Q .non H', rt := Q } (start N vs) H) : FnOk P w K mg base (CXe P w) (k + 1) f fd ps sp := by
  obtain ⟨oc, od, kV, doc, pm, an, cdv, ct, osl, rfl, lk, hcd⟩ := F.ex
  exact fn_of lk hcd S len fun A outer s H vs Q E hr hsp => hbody cdv A outer s H vs Q E hr hsp
end
/-- a def that may raise, as callers have it -/
structure CalleeE (P : Program) (w : World) (K : PySem.W.Frag) (mg : Str → Option Value) (base : Heap) (k : Nat) (x : Str) (f : Addr) (fd : FuncData) (ps : List Str) (sp : Sp) : Prop where
  ok : FnOk P w K mg base (CXe P w) k f fd ps sp
  mg : mg x = some (.ref f)
  kp : PySem.W.keepIn K (.ref f) = true
  bd : Binds K fd ps []
section
variable {X : Cx} {k : Nat} {f : Addr} {fd : FuncData} {ps : List Str} {sp : Sp} {E : XK} {x : Str} {p pos : Pos} {e : Expr} {es : List Expr} {t : TA}
theorem cE (c : CalleeE X.prog X.w X.K X.mg X.base k x f fd ps sp) (hp : Passes (CXe X.prog X.w) X E) (hr : Room k X.A) (ha : PA X (e :: es) t) (hg : Gl X x := by rfl) (hdb : (x == ("__debug__" : Str)) = false := by decide)
    (h1 : isSt e = false := by rfl) (h2 : es.any isSt = false := by rfl) : PE X (.Call (.Name x p) (e :: es) [] pos) (tCall sp [] E t) :=
  pe_call c.ok hr hg c.mg c.kp c.bd .nil hp ha hdb (star_cons h1) (star_any h2)
end
end L2

set_option Elab.async false
set_option linter.all false
set_option maxRecDepth 100000
set_option maxHeartbeats 4000000
namespace L2
open PySem PySem.Spec PyProof.Rows
/-! ### an exception that is caught -/
def ExcAt (ea : Addr) (cls : Value) (h : Heap) : Prop := ∃ oe vs, h.get? ea = some oe ∧ oe.cls = cls ∧ oe.data = .fields vs
section
variable {X : Cx} {pins : List (Addr × Obj)} {σ : St} {H H' : Hp} {s s' : Shared} {ea a : Addr} {cls : Value} {o : HO} {h5 : Heap}
/-- an untracked thing is tracked from now on -/
theorem Inv.track (I : Inv X pins σ H s) (hn : H a = none) (new : ObjOk X.prog X.w (upd H a o) s.heap a o) (h0 : ∀ u, X.s₀.heap.get? a = some u → X.H₀ a = none → a ∉ X.ex → False) (hL : X.env.locals ≠ a)
    (hc : ∀ x c, X.env.cells.lookup x = some c → c ≠ a) (hp : ∀ p ∈ X.pn ++ pins, p.1 ≠ a) : Inv X pins σ (upd H a o) s := by
  refine ⟨I.ok, I.os, I.bare, ⟨I.base.keep, I.base.slot, fun b u e n x => ?_, I.base.there, fun b xs e => ?_, fun b u v e => ?_, fun b ps e => ?_⟩, I.loc, I.cell, ?_, fun x c e => ?_, fun p hp' => ?_, fun b u e => ?_, I.len⟩
  · have hb : b ≠ a := fun z => by subst z; exact h0 u e n x
    rw [upd_ne hb]
    exact I.base.free b u e n x
  · have e1 := I.base.tups b xs e
    rw [upd_ne (ne_of_none e1 hn)]; exact e1
  · have e1 := I.base.frzs b u v e
    rw [upd_ne (ne_of_none e1 hn)]; exact e1
  · obtain ⟨more, e1⟩ := I.base.tbls b ps e
    exact ⟨more, by rw [upd_ne (ne_of_none e1 hn)]; exact e1⟩
  · rw [upd_ne hL]; exact I.free
  · rw [upd_ne (hc x c e)]; exact I.freeC x c e
  · obtain ⟨q1, q2, q3⟩ := I.pin p hp'
    exact ⟨q1, by rw [upd_ne (hp p hp')]; exact q2, q3⟩
  · by_cases hb : b = a
    · subst hb; rw [upd_same] at e; cases e; exact new
    · rw [upd_ne hb] at e
      exact (I.hok b u e).stay (fun _ _ _ q => q) (fun c q => by rw [upd_ne (ne_of_none q hn)]; exact q) fun c xs q => by rw [upd_ne (ne_of_none q hn)]; exact q
end
end L2

set_option Elab.async false
set_option linter.all false
set_option maxRecDepth 100000
set_option maxHeartbeats 4000000
namespace L2
open PySem PySem.Spec PyProof.Rows
section
variable {X : Cx} {pins : List (Addr × Obj)} {σ : St} {H : Hp} {s : Shared} {M : Model} {A : Around} {E : Value → Shared → Prop} {i : Nat} {n : Str} {pos : Pos}
/-- the name of an except clause goes behind its suite -/
theorem name_goes {Q : Unit → Shared → Prop} (I : Inv X pins σ H s) (hN : X.N.Nodup) (hi : X.N[i]? = some n) (hk : X.env.scope.names.lookup n = some .local) (h : ∀ s', Inv X pins (σ.set i none) H s' → Q () s') :
    wpAny M A (do bindName X.env n .none; unbindBehindTheSuite X.env n pos) Q E s := by
  refine wpAny_bind (wpAny_bindName (store_ok (v := .non) (u := .none) I hN hi (.inl hk) rfl (fun s1 I1 => ?_) (.inr hk)))
  unfold unbindBehindTheSuite
  refine wpAny_onRaise ?_
  have hiσ : i < σ.length := by rw [I.len]; exact (List.getElem?_eq_some_iff.mp hi).1
  have hcls : (X.env.scope.kind == .class || (X.env.scope.kind == .module && X.env.locals != X.env.globals)) = false := by rw [I.ok.kind]; rfl
  obtain ⟨m, hn, hl⟩ := id I1.loc
  obtain ⟨u0, _, lk⟩ := hl i n .non hi (by rw [List.getElem?_set_self hiσ]) (.inl hk)
  have hv : m n = some u0 := by
    rcases lk with ⟨_, e⟩ | ⟨z, _⟩
    · exact e
    · have z' : X.env.scope.names.lookup n = some .cell ∨ X.env.scope.names.lookup n = some .free := z
      rw [hk] at z'
      rcases z' with z' | z' <;> cases z'
  refine wpAny_unbindName_local hk hn hv hcls fun h2 u hn2 hs => h _ ?_
  have old : ∀ b o, X.s₀.heap.get? b = some o → b ≠ X.env.locals := fun b o e => Nat.ne_of_lt (Nat.lt_of_lt_of_le (Heap.lt_size e) I1.ok.above)
  refine ⟨I1.ok, I1.os, I1.bare, ⟨fun b o e z hb hx => (hs.2 b (old b o e)).trans (I1.base.keep b o e z hb hx), fun b o e z hb hx => ?_, I1.base.free, fun b o e hx => ?_, I1.base.tups, I1.base.frzs, I1.base.tbls⟩, ⟨_, hn2, fun j y v e1 e2 e3 => ?_⟩, fun y c e => ?_, I1.free, I1.freeC, fun p hp => ?_, fun b ob e => ?_, by rw [List.length_set]; exact I.len⟩
  · obtain ⟨sl, e1⟩ := I1.base.slot b o e z hb hx
    exact ⟨sl, (hs.2 b (old b o e)).trans e1⟩
  · obtain ⟨o', e1⟩ := I1.base.there b o e hx
    exact ⟨o', (hs.2 b (old b o e)).trans e1⟩
  · by_cases hj : j = i
    · subst hj
      rw [List.getElem?_set_self hiσ] at e2
      cases e2
    · rw [List.getElem?_set_ne (Ne.symm hj)] at e2
      obtain ⟨u', r', q⟩ := hl j y v e1 (by rw [List.getElem?_set_ne (Ne.symm hj)]; exact e2) e3
      refine ⟨u', r', ?_⟩
      rcases q with ⟨k, e⟩ | ⟨k, c, e, z⟩
      · have ny : y ≠ n := fun w => hj (nodup_ix hN e1 (w ▸ hi))
        exact .inl ⟨k, by simp [ny, e]⟩
      · exact .inr ⟨k, c, e, z.sameBut hs (I1.cne y c e)⟩
  · obtain ⟨w', z⟩ := I1.cell y c e
    exact ⟨w', z.sameBut hs (I1.cne y c e)⟩
  · obtain ⟨e, z, ne, nf, d⟩ := I1.pin p hp
    exact ⟨(hs.2 p.1 ne).trans e, z, ne, nf, d⟩
  · refine (I1.hok b ob e).stay (fun c w' hc q => (hs.2 c fun z => ?_).trans q) (fun _ q => q) fun _ _ q => q
    rcases hc with w1 | w1
    · rw [← w1, z, I1.free] at e; cases e
    · rw [z, I1.free] at w1; cases w1
end
/-! ### code that may raise, at known values of the names -/
structure PE1 (X : Cx) (pins : List (Addr × Obj)) (σ : St) (e : Expr) (t : TE) : Prop where
  run : ∀ (s : Shared) (H : Hp) (Q : VK), Inv X pins σ H s → t σ H Q → wpAny (model X.prog X.w) X.A (eval e X.env) (EP X pins σ Q) X.xe s
structure PS1 (X : Cx) (pins : List (Addr × Obj)) (σ : St) (st : Stmt) (t : TS) : Prop where
  run : ∀ (s : Shared) (H : Hp) (D : Ends), Inv X pins σ H s → t D σ H → wpAny (model X.prog X.w) X.A (exec st X.env) (SP X pins D) X.xe s
section
variable {X : Cx} {pins : List (Addr × Obj)} {σ : St} {e : Expr} {es : List Expr} {te ta : TE} {t tr : TA} {E : XK} {x m : Str} {p pos apos : Pos} {k : Nat} {f C : Addr} {fd : FuncData} {ps : List Str} {sp : Sp} {o : Expr} {dvs : List V} {ds : List Value}
theorem s1_set {i : Nat} {pos' : Pos} (hN : X.N.Nodup) (hi : X.N[i]? = some x) (hx : Loc X.env.scope x) (he : PE1 X pins σ e te) (hs : swapsWith e (some (.Name x pos')) pos.line X.env = pure false := by rfl)
    (hf : X.fn x = true ∨ X.env.scope.names.lookup x = some .local := by first | exact .inl rfl | exact .inr rfl | assumption) : PS1 X pins σ (.Assign [.Name x pos'] e pos) (tAsg te (gName i)) := by
  refine ⟨fun s H D I h => ?_⟩
  refine wpAny_Assign_Name (thn (he.run s H _ I h) fun v s1 ⟨y, H1, I1, r1, q1⟩ => ?_) hs
  exact store_ok I1 hN hi hx r1 (fun s2 I2 => ⟨_, H1, I2, q1⟩) hf
end
/-! ### try: one statement; except C as n: suite -/
abbrev Cx.suite (X : Cx) (ea : Addr) : Cx := { X with A := X.A.mark (some (.ref ea)), calm := false, xe := fun _ _ => False }
section
variable {X : Cx} {pins : List (Addr × Obj)} {σ : St} {H : Hp} {s : Shared} {ea : Addr}
theorem Inv.suite (I : Inv X pins σ H s) (ea : Addr) : Inv (X.suite ea) pins σ H s :=
  ⟨⟨I.ok.mod, I.ok.kind, I.ok.glob, I.ok.blt, I.ok.above, I.ok.inj, I.ok.has, I.ok.cab, (fun z => Bool.noConfusion z), I.ok.frames, I.ok.stk, I.ok.exf, I.ok.bs, I.ok.bsz, I.ok.noex, I.ok.exfs, I.ok.funs, I.ok.frf⟩, I.os, I.bare, I.base, I.loc, I.cell, I.free, I.freeC, I.pin, I.hok, I.len⟩
theorem Inv.unsuite (hok : X.Ok) (I : Inv (X.suite ea) pins σ H s) : Inv X pins σ H s :=
  ⟨hok, I.os, I.bare, I.base, I.loc, I.cell, I.free, I.freeC, I.pin, I.hok, I.len⟩
/-- behind the suite the name is gone -/
def endsN (D : Ends) (i : Nat) : Ends := { nx := fun σ H => D.nx (σ.set i none) H, rt := D.rt, bk := fun σ H => D.bk (σ.set i none) H, ct := fun σ H => D.ct (σ.set i none) H }
/-- what becomes of an exception within a try -/
abbrev tryXe (X : Cx) (pins : List (Addr × Obj)) (D : Ends) (hs : List ExceptHandler) : Value → Shared → Prop := fun e s₁ =>
  wpAny (model X.prog X.w) X.A (noteFrame e X.env) (fun _ s₂ => wpAny (model X.prog X.w) X.A (setFlight e none) (fun _ s₃ => wpAny (model X.prog X.w) X.A (handleBy e X.env hs) (SP X pins D) X.xe s₃) X.xe s₂) X.xe s₁
variable {st b₀ : Stmt} {suite : List Stmt} {c n : Str} {np hpos pos : Pos} {C : Addr} {i : Nat} {tb : XK → TS} {ts : TS} {ok : Value → Prop}
end
end L2

set_option Elab.async false
set_option linter.all false
set_option maxRecDepth 100000
set_option maxHeartbeats 4000000
namespace L2
open PySem PySem.W PySem.Builtin PySem.Builtin.ObjectAttr PySem.Builtin.Getset_descriptor PySem.Spec PyProof.Rows
/-! ### isinstance of an exception -/
structure ExcCls (K : PySem.W.Frag) (D : Addr) : Prop where
  cd : (clsIn K D).isSome = true
  ga : findIn K (.ref D) "__getattribute__" = some (some (.builtin "BaseException.__getattribute__"))
  no : findIn K (.ref D) "__getattr__" = some none
  cl : findIn K (.ref D) "__class__" = some (some (.builtin "object.__class__"))
  gt : specialIn K (.builtin "object.__class__") "__get__" = some (some (.builtin "getset_descriptor.__get__"))
  tk : takesIn K (.builtin "object.__class__") = some true
  be : mroIn K D (.type "BaseException") = some true
  ob : mroIn K D (.type "object") = some true
section
variable {prog : Program} {w : World} {A : Around} {E : Value → Shared → Prop} {s : Shared} {K : PySem.W.Frag} {x D : Addr}
theorem ExcAt.ty {M : Model} {h : Heap} (e : ExcAt x (.ref D) h) : Looks M h (typeOf (.ref x)) (.ref D) := by
  obtain ⟨oe, vs, h1, h2, h3⟩ := e
  exact h2 ▸ (Looks.ld h1).andThen .now
theorem exc_get {R : Result → Shared → Prop} {tp : Value} (c : ExcCls K D) (X : K.In s.heap) (e : ExcAt x (.ref D) s.heap) (h : R (.ok (.ret (.ref D))) s) :
    codeAny (model prog w) A (.call (.builtin "getset_descriptor.__get__") ⟨[.builtin "object.__class__", .ref x, tp], []⟩) R s := by
  obtain ⟨hh, g, dr, t, os⟩ := s
  have LT := e.ty (M := model prog w)
  have LM := looks_mroIn (M := model prog w) X c.ob
  refine codeAny_call_builtin KF.slot_gs.plain KF.entry_gs ?_
  refine KF.slot_gs.check _ _ _ _ _ _ _ _ KF.type_class (KF.args_gs _ _ _) ?_
  unfold Builtin.«getset_descriptor.__get__»
  unfold descrGet
  rw [dga_obj (.builtin "object.__class__") tp x]
  refine wpAny_bind (wpAny_pure ?_)
  unfold descrGetter
  unfold descrCheckInstance descrNameAndClass
  unfold isInstance
  simp only [KF.owner_class]
  repeat lk
  refine ⟨Code.quiet_builtin _ (by decide +kernel), ?_⟩
  refine codeAny_builtin KF.entry_class ?_
  unfold Builtin.«object.__class__»
  unfold shownTypeOf
  repeat lk
  exact h
theorem exc_class {Q : Option Value → Shared → Prop} (c : ExcCls K D) (X : K.In s.heap) (e : ExcAt x (.ref D) s.heap) (h : Q (some (.ref D)) { s with toks := s.toks + 1 }) : wpAny (model prog w) A (getAttr? (.ref x) "__class__") Q E s := by
  obtain ⟨hh, g, dr, t, os⟩ := s
  have LT := e.ty (M := model prog w)
  have LG := looks_findIn (M := model prog w) X c.ga
  have LN := looks_findIn (M := model prog w) X c.no
  have LC := looks_findIn (M := model prog w) X c.cl
  have LB := looks_mroIn (M := model prog w) X c.be
  have L2 := looks_specialIn (M := model prog w) X c.gt
  have L3 := looks_takesIn (M := model prog w) X c.tk
  unfold getAttr?
  unfold getAttrBy? getAttrBy
  refine wpAny_bind (wpAny_mkText (wpAny_bind (wpAny_attempt ?_)))
  refine wpAny_holding (wpAny_bind (LT.at (wpAny_bind (LG.at ?_))))
  have hne : (onTheHeap (Value.ref D) && Value.builtin "BaseException.__getattribute__" == Value.builtin "object.__getattribute__") = false := by
    rw [show (Value.builtin "BaseException.__getattribute__" == Value.builtin "object.__getattribute__") = false from by decide +kernel, Bool.and_false]
  dsimp only
  rw [hne]
  rw [if_neg Bool.false_ne_true]
  unfold getAttrByItsOwn hookBefore
  rw [if_pos (show onTheHeap (Value.ref D) = true from rfl)]
  refine wpAny_bind (LN.at (wpAny_bind (wpAny_attempt (wpAny_holding ?_))))
  unfold callGetattribute boundAndCalled
  rw [if_neg (by simp)]
  have fb := PySem.F.attrBase_ValueError.ga
  rw [fb.bind (.ref x)]
  refine wpAny_bind (wpAny_pure ?_)
  refine wpAny_call (codeAny_call_builtin fb.plain F.entry_bexc_ga ?_)
  have ck : ∀ (Q' : Unit → Shared → Prop) (E' : Value → Shared → Prop) (A' : Around), Q' () ⟨hh, g, dr, t + 1, os⟩ → wpAny (model prog w) A' (checkBuiltinCall "BaseException.__getattribute__" ⟨[.ref x, .str "__class__" t], []⟩) Q' E' ⟨hh, g, dr, t + 1, os⟩ := by
    intro Q' E' A' q'
    have k1 : builtinKind "BaseException.__getattribute__" = some .slot := by decide +kernel
    have k2 : splitId "BaseException.__getattribute__" = some ("BaseException", "__getattribute__") := by decide +kernel
    have k3 := F.args_bexc_ga (.ref x) (.str "__class__" t)
    simp only [checkBuiltinCall, k1, k2]
    refine wpAny_bind ?_
    unfold isInstance
    repeat (first | lk | wp_step)
    exact q'
  refine ck _ _ _ ?_
  unfold Builtin.«object.__getattribute__»
  unfold find getOf dataDescriptor?
  repeat (first | lk | wp_step)
  refine wpAny_run (exc_get (s := ⟨hh, g, dr, t + 1, os⟩) c X e ?_)
  refine wpAny_pure (wpAny_pure ?_)
  show wpAny _ _ (handedOut (Value.ref D)) _ _ _
  rw [handedOut_of (show handedIn (Value.ref D) = true from rfl)]
  exact wpAny_pure (wpAny_pure h)
theorem kitx_exc (c : ExcCls K D) : KitX K (.ref x) (.ref D) (ExcAt x (.ref D)) where
  ty := fun _ _ _ e => e.ty
  it := fun _ _ X _ => by
    obtain ⟨cd, hc⟩ := Option.isSome_iff_exists.mp c.cd
    unfold clsIn at hc
    split at hc
    · rename_i c' d' cd' sl' ho
      intro A' Q' E' s' k q
      unfold isType
      unfold loadHead
      exact wpAny_bind (wpAny_loadPart (k _ _ (X _ _ ho)) (wpAny_pure q))
    · cases hc
  ne := fun h tp dd its n sl X htp => by
    obtain ⟨cd, hc⟩ := Option.isSome_iff_exists.mp c.cd
    refine Bool.eq_false_iff.mpr fun q => ?_
    have z : D = tp := Value.ref.inj (beq_iff_eq.mp q)
    subst z
    unfold clsIn at hc
    split at hc
    · rename_i c' d' cd' sl' ho
      have w := (X _ _ ho).symm.trans htp
      cases w
    · cases hc
  ca := fun X e k => exc_class c X e k
end
end L2

set_option Elab.async false
set_option linter.all false
set_option maxRecDepth 100000
set_option maxHeartbeats 4000000
namespace L2
open PySem PySem.Spec PyProof.Rows
section
variable {X : Cx}
theorem vals_refs : ∀ {cs : List Addr} {us : List Value}, Vals (cs.map V.ref) us → us = cs.map Value.ref
  | [], _, .nil => rfl
  | c :: cs, _, .cons r t => by
    cases r
    rw [vals_refs t]
    rfl
end
/-! ### defs that are called within an except suite -/
structure RoomM (k : Nat) (A : Around) : Prop where
  dp : A.depth + 3 * k + 5 < recursionLimit
  un : A.units + 16 * k + 200 < cLine
theorem Room.m {k : Nat} {A : Around} (r : Room k A) : RoomM k A := ⟨r.dp, r.un⟩
theorem RoomM.mark {k : Nat} {A : Around} (r : RoomM k A) (h : Option Value) : RoomM k (A.mark h) := ⟨r.dp, r.un⟩
theorem RoomM.deeper {k : Nat} {A : Around} (r : RoomM (k + 1) A) (env : Env) : RoomM k (A.deeper env) :=
  ⟨by have := r.dp; show A.depth + 1 + 3 * k + 5 < _; omega, by have := r.un; show A.units + 3 + 16 * k + 200 < _; omega⟩
theorem RoomM.depth {k : Nat} {A : Around} (r : RoomM k A) : A.depth < recursionLimit := by have := r.dp; omega
abbrev cxOfM (P : Program) (w : World) (K : PySem.W.Frag) (mg : Str → Option Value) (base : Heap) (N : List Str) (qual : Str) (scope : Scope) (f : Addr) (cd : Value) (A : Around) (outer : List Env) (s : Shared) (H : Hp) : Cx :=
  { cxOf CX0 P w K mg base N qual scope f cd A outer s H E0 with calm := false, xe := fun _ _ => False }
section
variable {P : Program} {w : World} {K : PySem.W.Frag} {mg : Str → Option Value} {base : Heap}
theorem inv_startM {N ps : List Str} {qual : Str} {scope : Scope} {f : Addr} {cd : Value} {A : Around} {outer : List Env} {s s1 : Shared} {H : Hp} {us : List Value} {vs : List V}
    (S : FnScope N ps scope) (e0 : Env0 P w K mg base A outer s H) (hl : vs.length = ps.length) (r : Vals vs us)
    (x : InCallC s s.heap.objs.size (bindL (envOfC qual scope s.heap.objs.size f cd).kindOf (ps.zip us) fun _ => none) (cellsFrom (s.heap.objs.size + 1) scope.names []) (bindC (envOfC qual scope s.heap.objs.size f cd).kindOf (ps.zip us) fun _ => none) s1) :
    Inv (cxOfM P w K mg base N qual scope f cd A outer s H) [] (start N vs) H s1 := by
  have e1 : Env0 P w K mg base { A with handled := none } outer s H := ⟨e0.frames, e0.mod, e0.bs, e0.bsz, e0.funs, e0.frf, e0.hok, e0.bare⟩
  have I : Inv (cxOf CX0 P w K mg base N qual scope f cd { A with handled := none } outer s H E0) [] (start N vs) H s1 := inv_start S rfl e1 hl r x
  exact ⟨⟨I.ok.mod, I.ok.kind, I.ok.glob, I.ok.blt, I.ok.above, I.ok.inj, I.ok.has, I.ok.cab, (fun z => Bool.noConfusion z), Around.frames_deeper e0.frames, I.ok.stk, I.ok.exf, I.ok.bs, I.ok.bsz, I.ok.noex, I.ok.exfs, I.ok.funs, I.ok.frf⟩, I.os, I.bare, I.base, I.loc, I.cell, I.free, I.freeC, I.pin, I.hok, I.len⟩
end
section
variable {X : Cx} {k : Nat} {f : Addr} {fd : FuncData} {ps : List Str} {sp : Sp} {x : Str} {p pos : Pos} {e : Expr} {es : List Expr} {t : TA}
end
end L2

set_option Elab.async false
set_option linter.all false
set_option maxRecDepth 100000
set_option maxHeartbeats 4000000
namespace L2
open PySem PySem.Spec PyProof.Rows
/-! ### reversed(range(n)) -/
section
variable {prog : Program} {w : World} {A : Around} {E : Value → Shared → Prop} {s : Shared} {r : Addr} {n : Int} {t u v : Tok}
end
section
variable {X : Cx} {tg : Expr}
end
end L2

set_option Elab.async false
set_option linter.all false
set_option maxRecDepth 100000
set_option maxHeartbeats 4000000
namespace L2
open PySem PySem.Spec PyProof.Rows
section
variable {X : Cx} {o i : Expr} {to ti : TE} {pos tpos : Pos}
/-! ### del xs[i] -/
/-! ### == of two lists that are not of one length -/
def rLen : R2 := fun x y H Q => ∃ (a c : Addr) (xs ys : List V), x = .ref a ∧ y = .ref c ∧ H a = some (.lst xs) ∧ H c = some (.lst ys) ∧ xs.length ≠ ys.length ∧ Q (.bl false) H
theorem op_eqLen (hu : X.A.units < cLine) : OpR X (compareOp .Eq) rLen := by
  intro pins s σ H x y v u Q I rx ry h
  obtain ⟨a, c, xs, ys, rfl, rfl, ha, hc, hn, q⟩ := h
  cases rx
  cases ry
  obtain ⟨its, r, pl, _⟩ := I.list (SqL.of ha)
  obtain ⟨its2, r2, pl2, _⟩ := I.list (SqL.of hc)
  have e1 := r.length
  have e2 := r2.length
  exact PySem.SeqAt.eq_list_lengthsAt pl.isList pl2.isList (by simp only [List.size_toArray, bne_iff_ne]; omega) hu ⟨.bl false, H, I, rfl, q⟩
end
end L2

set_option Elab.async false
set_option linter.all false
set_option maxRecDepth 100000
set_option maxHeartbeats 4000000
namespace L2
open PySem PySem.Spec PyProof.Rows
section
variable {X : Cx} {pins : List (Addr × Obj)} {σ : St} {e : Expr} {te : TE} {pos p : Pos} {C : Addr} {x : Str}
/-! ### an instance of a class without an __init__ of its own -/
structure Mk0 (K : PySem.W.Frag) (C : Addr) : Prop where
  makes : PySem.W.makesIn K C = true
  init : PySem.W.findIn K (.ref C) "__init__" = some (some (.builtin "object.__init__"))
  kp : PySem.W.keepIn K (.ref C) = true
def tNew (C : Addr) : TE := fun _ H Q => ∀ x dx, H x = none → H dx = none → dx ≠ x → Q (.ref x) (upd (upd H dx (.own x)) x (.ins C dx []))
theorem pe_new (M : Mk0 X.K C) (hg : Gl X x) (hm : X.mg x = some (.ref C)) (hdb : (x == ("__debug__" : Str)) = false := by decide) : PE X (.Call (.Name x p) [] [] pos) (tNew C) := by
  refine ⟨?_⟩
  intro pins s σ H Q I h
  refine wpAny_Call_Name_kw (ld_glob I hg hm ?_ hdb)
  refine PySem.W.callWith_K0 I.kIn M.kp ?_
  have hq := h (s.heap.objs.size + 1) s.heap.objs.size (I.hok.fresh (Nat.le_succ _)) (I.hok.fresh (Nat.le_refl _)) (Nat.ne_of_lt (Nat.lt_succ_self _))
  have I2 := Inv.made (C := C) I
  have Y := PySem.W.makes_of (M := model X.prog X.w) I.kIn M.makes
  refine wpAny_call (make_map0 I.kIn M.makes M.init (fun self => PySem.W.Looks.of_pure (PySem.W.oi_bind self)) ?_)
  have e2 : ((s.heap.push PySem.W.emptyDict).push (PySem.W.instObj C s.heap.objs.size)).get? (s.heap.objs.size + 1) = some (PySem.W.instObj C s.heap.objs.size) := by
    have := Heap.get?_push_size (s.heap.push PySem.W.emptyDict) (o := PySem.W.instObj C s.heap.objs.size) rfl
    rwa [Heap.size_push] at this
  have t1 : PySem.W.Looks (model X.prog X.w) ((s.heap.push PySem.W.emptyDict).push (PySem.W.instObj C s.heap.objs.size)) (typeOf (.ref (s.heap.objs.size + 1))) (.ref C) := (PySem.W.Looks.ld e2).andThen .now
  have t2 : PySem.W.Looks (model X.prog X.w) ((s.heap.push PySem.W.emptyDict).push (PySem.W.instObj C s.heap.objs.size)) (isInstance (.ref (s.heap.objs.size + 1)) (.type "object")) true :=
    t1.andThen (Y.top.keeps fun b o e => Heap.get?_push_of_some _ (Heap.get?_push_of_some _ e))
  refine codeAny_call_builtin PySem.W.oi_plain PySem.W.entry_oi (@PySem.W.check_slot (model X.prog X.w) _ _ _ "object.__init__" "object" "__init__" (.ref (s.heap.objs.size + 1)) [] [] _ PySem.W.oi_kind PySem.W.oi_split t2 (PySem.W.oi_args (.ref (s.heap.objs.size + 1))) ?_)
  rw [PySem.W.oi_run]
  exact wpAny_pure (And.intro rfl ⟨V.ref (s.heap.objs.size + 1), _, I2, rfl, hq⟩)
end
theorem passF {P : Program} {w : World} {X : Cx} : Passes (CXe P w) X (fun _ _ _ => False) := fun pins σ H1 s1 e s' I q => by
  obtain ⟨_, _, _, _, _, q⟩ := q
  exact q.elim
theorem same_after {H H1 : Hp} {x dx : Addr} {o1 o2 : HO} (hx : H x = none) (hd : H dx = none) (s : Same (upd (upd H dx (.own x)) x o1) H1) : Same H (upd H1 x o2) := fun b u q => by
  rw [upd_ne (ne_of_none q hx)]
  exact s _ _ (same_make0 hx hd b u q)
/-- a class as its makers have it -/
structure Ctor (P : Program) (w : World) (K : PySem.W.Frag) (mg : Str → Option Value) (base : Heap) (CX : CXT) (k : Nat) (x : Str) (C i : Addr) (fd : FuncData) (ps : List Str) (ds : List Value) (sp : Sp) : Prop where
  mkr : Mk K C i
  ok : FnOk P w K mg base CX k i fd ps sp
  mg : mg x = some (.ref C)
  bd : Binds K fd ps ds
section
variable {X : Cx} {CX : CXT} {k : Nat} {C i f : Addr} {fd : FuncData} {ps ks : List Str} {sp : Sp} {E : XK} {x m : Str} {p pos apos : Pos} {e : Expr} {es : List Expr} {t tk : TA} {ds : List Value} {dvs : List V} {kws : List Keyword}
  {g : List Value → List Value → List Value} {gV : List V → List V → List V}
theorem cMk (c : Ctor X.prog X.w X.K X.mg X.base CX k x C i fd ps ds sp) (hd : Vals dvs ds) (hp : Passes CX X E) (hr : Room (k + 1) X.A) (ha : PA X (e :: es) t) (hg : Gl X x := by rfl) (hdb : (x == ("__debug__" : Str)) = false := by decide)
    (h1 : isSt e = false := by rfl) (h2 : es.any isSt = false := by rfl) : PE X (.Call (.Name x p) (e :: es) [] pos) (tMake C sp dvs E t) := pe_make c.mkr c.ok hr hg c.mg c.bd hd hp ha hdb (star_cons h1) (star_any h2)
/-! ### C(e, .., k = v, ..) -/
/-! ### C.m(e, ..), C a class, m a def of it -/
structure ClsFn (K : PySem.W.Frag) (C : Addr) (m : Str) (f : Addr) : Prop where
  ga : PySem.W.specialIn K (.ref C) "__getattribute__" = some (some (.builtin "type.__getattribute__"))
  rd : PySem.W.readsIn K C (.type "type") = true
  fc : PySem.W.findCls K (.ref C) (.type "type") m = some (.val (.ref f))
  kp : PySem.W.keepIn K (.ref f) = true
theorem pe_cm {pl : Sem Bool} (B : ClsFn X.K C m f) (hm : X.mg x = some (.ref C)) (F : FnOk X.prog X.w X.K X.mg X.base CX k f fd ps sp) (hr : Room k X.A) (hb : Binds X.K fd ps []) (hx : Passes CX X E) (ha : PA X (e :: es) t) (hg : Gl X x := by rfl)
    (hdb : (x == ("__debug__" : Str)) = false := by decide) (h1 : isSt e = false := by rfl) (h2 : es.any isSt = false := by rfl)
    (ht : eval (.Call (.Attribute (.Name x p) m apos) (e :: es) [] pos) X.env = (do
      let ov ← eval (.Name x p) X.env
      standAt apos.atName
      let (f, first) ← holding [ov] (getMethod ov m pl)
      callWith pos f first (backTo pos (starEach (e :: es) X.env)) (backToKw pos (keywordEach [] X.env))) := by rfl) :
    PE X (.Call (.Attribute (.Name x p) m apos) (e :: es) [] pos) (tCall sp [] E t) := by
  refine ⟨?_⟩
  intro pins s σ H Q I h
  refine PySem.W.methodCall_KW (pl := pl) (ld_glob I hg hm ?_ hdb) ht
  refine PySem.W.method_cls I.kIn B.ga (PySem.W.cls_value I.kIn B.rd B.fc rfl ?_)
  have It := I.tok (s.toks + 1)
  refine PySem.W.callWith_K (first := []) (h₀ := X.base) I.ok.mod.kin B.kp (thn (ha pos pins _ σ H _ It h) fun us s2 ⟨vs, H2, I2, r, q2⟩ => ⟨I2.kIn, ?_⟩) (star_cons h1) (star_any h2)
  exact run_fn F hr hb .nil hx I2 r q2
end
theorem FunD.okE {P : Program} {w : World} {K : PySem.W.Frag} {mg : Str → Option Value} {base : Heap} {x qual : Str} {st : Stmt} {f : Addr} {fd : FuncData} {items : List Value} {N ps : List Str} {k : Nat} {sp : Sp} (F : FunD K x qual st f fd items) (S : FnScope N ps (defScope st)) (len : ∀ vs H Q E, sp vs H Q E → vs.length = ps.length)
    (hbody : ∀ (cdv : Value) (A : Around) (outer : List Env) (s : Shared) (H : Hp) (vs : List V) (Q : VK) (E : XK), Room k (A.deeper (envOfC qual (defScope st) s.heap.objs.size f cdv)) → sp vs H Q E →
      ∃ t, PSs (cxOf (CXe P w) P w K mg base N qual (defScope st) f cdv A outer s H E) (defBody st) t ∧ t { nx := fun _ H' => Q .non H', rt := Q } (start N vs) H) : FnOk P w K mg base (CXe P w) (k + 1) f fd ps sp := by
  obtain ⟨oc, od, T, kV, doc, pm, an, cdv, ct, osl, o, n, rfl, lk, hcd, _, _⟩ := F.ex
  exact fn_of lk hcd S len fun A outer s H vs Q E hr hsp => hbody cdv A outer s H vs Q E hr hsp
end L2

set_option Elab.async false
set_option linter.all false
set_option maxRecDepth 100000
set_option maxHeartbeats 4000000
namespace L2
open PySem PySem.Spec PyProof.Rows
/-- a statement that is never reached -/
theorem ps_dead {X : Cx} {st : Stmt} : PS X st (fun _ _ _ => False) := ⟨fun _ _ _ _ _ _ h => h.elim⟩
/-! ### a set of texts -/
def SetT (P : Program) (w : World) (a : Addr) (S : Str → Bool) (n : Nat) (h : Heap) : Prop := h.SetOf (strKind P w) a S n
abbrev setO (P : Program) (w : World) (a : Addr) (S : Str → Bool) (n : Nat) : HO := .ext (SetT P w a S n)
theorem setO_ok {P : Program} {w : World} {H : Hp} {h : Heap} {a : Addr} {S : Str → Bool} {n : Nat} (e : h.SetOf (strKind P w) a S n) : ObjOk P w H h a (setO P w a S n) :=
  ⟨e, let ⟨o, _, _, _, h1, _⟩ := e; ⟨o, h1⟩, fun g1 g2 q k => let ⟨o, es, ep, t, h1, c⟩ := q; ⟨o, es, ep, t, k o h1, c⟩⟩
section
variable {X : Cx}
theorem call_set0 : CallR X (.type "set") (fun xs H Q => xs = [] ∧ ∀ p, H p = none → Q (.ref p) (upd H p (setO X.prog X.w p (fun _ => false) 0))) := by
  intro pins s σ H xs us Q I r h
  obtain ⟨rfl, q⟩ := h
  cases r
  refine call_set_0 fun led => ?_
  have hf : H s.heap.objs.size = none := I.hok.fresh (Nat.le_refl _)
  refine ⟨.ref s.heap.objs.size, _, I.laid (t' := s.toks) (fun b u e => Heap.get?_push_of_some _ e) (Nat.le_refl _) (setO_ok ?_), rfl, q _ hf⟩
  exact (setObjOf_fresh led).setOf (Heap.get?_push_size _ rfl) (by decide)
theorem op_in_setT : OpR X (compareOp .In) (fun x y H Q => ∃ (a : Addr) (S : Str → Bool) (n : Nat) (z : Str), x = .str z ∧ y = .ref a ∧ H a = some (setO X.prog X.w a S n) ∧ Q (.bl (S z)) H) := by
  intro pins s σ H x y v u Q I rx ry h
  obtain ⟨a, S, n, z, rfl, rfl, e, q⟩ := h
  obtain ⟨t, rfl⟩ := rx
  cases ry
  have hS : s.heap.SetOf (strKind X.prog X.w) a S n := (I.hok a _ e).1
  exact wpAny_inSet_of (strKind_is X.prog X.w z t) rfl hS ⟨.bl (S z), H, I.tok _, rfl, q⟩
def tSAdd (P : Program) (w : World) (to te : TE) : TE := fun σ H Q => to σ H fun x H1 => ∃ (a : Addr) (S : Str → Bool) (n : Nat), x = .ref a ∧ H1 a = some (setO P w a S n) ∧ te σ H1 fun y H2 => ∃ (S : Str → Bool) (n : Nat) (z : Str), y = .str z ∧ H2 a = some (setO P w a S n) ∧ n + 1 < scanBound ∧
  Q .non (upd H2 a (setO P w a (fun k => S k || decide (k = z)) (if S z then n else n + 1)))
theorem pe_sadd {o e : Expr} {apos cpos : Pos} {to te : TE} (ho : PE X o to) (he : PE X e te) (m : M1 X o "add" apos e cpos) : PE X (.Call (.Attribute o "add" apos) [e] [] cpos) (tSAdd X.prog X.w to te) := by
  refine ⟨?_⟩
  intro pins s σ H Q I h
  refine wpAny_Call_method m.base m.few m.line PySem.F.plainAttrs_set PySem.F.slot_set_add PySem.F.type_set_add (thn (ho pins s σ H _ I h) fun u s1 ⟨x, H1, I1, rx, a, S, n, ex, d, q1⟩ => ?_)
  subst ex
  obtain rfl : u = Value.ref a := rx
  have hS : s1.heap.SetOf (strKind X.prog X.w) a S n := (I1.hok a _ d).1
  refine ⟨hS.typeIs, hS.noDict, ?_⟩
  rw [m.trees]
  refine Calls.callWith_builtin rfl (Calls.evalArgs_plain (Calls.spliced_cons (thn (he pins s1 σ H1 _ I1 q1) fun iv s2 ⟨y, H2, I2, ry, S2, n2, z, ey, e2, hn, q2⟩ => Calls.spliced_nil ?_)))
  subst ey
  obtain ⟨t, rfl⟩ := ry
  have hS2 : s2.heap.SetOf (strKind X.prog X.w) a S2 n2 := (I2.hok a _ e2).1
  refine call_set_add (strKind_is X.prog X.w z t) rfl hS2 hn fun h' hs hS3 => ⟨.non, _, ?_, rfl, q2⟩
  refine I2.write (x := a) (e := a) (by rw [e2]; exact True.intro) (.inl rfl) (fun b q hb z => (hs.2 b hb).trans z) (let ⟨o, _, _, _, h1, _⟩ := hS3; ⟨o, h1⟩) (setO_ok hS3)
/-! ### o.m() of an instance of one of several classes -/
def tMethP (Cs : Addr → Prop) (m : Str) (sp : Sp) (E : XK) (ta : TE) : TE := fun σ H Q => ta σ H fun x H1 => ∃ a C dx fs, x = .ref a ∧ Cs C ∧ H1 a = some (.ins C dx fs) ∧ fs.lookup m = none ∧ sp [x] H1 Q E
theorem pe_methP {CX : CXT} {k : Nat} {f : Addr} {fd : FuncData} {ps : List Str} {sp : Sp} {E : XK} {m : Str} {pos apos : Pos} {o : Expr} {ta : TE} {Cs : Addr → Prop} {pl : Sem Bool} (he : PE X o ta) (hC : ∀ C, Cs C → Cls X.K C ∧ Meth X.K C m f) (F : FnOk X.prog X.w X.K X.mg X.base CX k f fd ps sp) (hr : Room k X.A) (hb : Binds X.K fd ps []) (hx : Passes CX X E)
    (ht : eval (.Call (.Attribute o m apos) [] [] pos) X.env = (do
      let ov ← eval o X.env
      standAt apos.atName
      let (f, first) ← holding [ov] (getMethod ov m pl)
      callWith pos f first (backTo pos (starEach [] X.env)) (backToKw pos (keywordEach [] X.env))) := by rfl) :
    PE X (.Call (.Attribute o m apos) [] [] pos) (tMethP Cs m sp E ta) := by
  refine ⟨?_⟩
  intro pins s σ H Q I h
  refine PySem.W.methodCall_KW (pl := pl) (thn (he pins s σ H _ I h) fun u s1 ⟨x, H1, I1, rx, a, C, dx, fs, ex, hc, ea, l, q⟩ => ?_) ht
  subst ex
  obtain rfl : u = Value.ref a := rx
  obtain ⟨c, hm⟩ := hC C hc
  refine getmeth_ok I1 ea c hm l ?_
  exact PySem.W.callWith_K0 (first := [.ref a]) I1.kIn hm.kp (run_fn (us := [.ref a]) (vs := [.ref a]) F hr hb .nil hx I1 (.cons rfl .nil) q)
/-! ### D[e], D a written dict of the text with texts as keys -/
structure KTab (w : World) (K : PySem.W.Frag) (a : Addr) (f : Str → Option V) : Prop where
  obj : ∃ es n, K.lookup a = some ⟨.type "dict", none, .dict es n, #[]⟩ ∧ PySem.W.KeysLit w.params es.toList
  vals : ∀ x v, f x = some v → ∃ u, PySem.W.nsIn K a x = some (some u) ∧ RelV v u
theorem pe_kget {e : Expr} {d : Str} {p pos : Pos} {a : Addr} {f : Str → Option V} {te : TE} (T : KTab X.w X.K a f) (hm : X.mg d = some (.ref a)) (he : PE X e te) (hg : Gl X d := by rfl) (hs : NoSl e := by first | exact fun _ _ => rfl | decide | rfl) (hdb : (d == ("__debug__" : Str)) = false := by decide) :
    PE X (.Subscript (.Name d p) e pos) (fun σ H Q => te σ H fun y H1 => ∃ x v, y = .str x ∧ f x = some v ∧ Q v H1) := by
  refine ⟨?_⟩
  intro pins s σ H Q I h
  obtain ⟨es, n, hl, hk⟩ := T.obj
  refine subD_of PySem.F.slot_dict_getitem.lookup hs (ld_glob I hg hm (thn (he pins s σ H _ I h) fun iv s2 ⟨y, H2, I2, ry, x, v, ey, ef, q2⟩ => ?_) hdb)
  subst ey
  obtain ⟨t, rfl⟩ := ry
  obtain ⟨u, eu, ru⟩ := T.vals x v ef
  have hmap := PySem.W.mapOf_K (prog := X.prog) (w := X.w) I2.kIn hl hk
  exact ⟨hmap.typeIs, wpAny_getItem_of (strKind_is X.prog X.w x t) hmap (PySem.W.find_K hl eu) ⟨v, H2, I2.tok _, ru, q2⟩⟩
end
end L2

set_option Elab.async false
set_option linter.all false
set_option maxRecDepth 100000
set_option maxHeartbeats 4000000
namespace L2
open PySem PySem.Spec PyProof.Rows
section
variable {X : Cx} {pins : List (Addr × Obj)} {σ : St} {H : Hp} {s : Shared} {sc : Scope} {fr Nc : List Str} {fp : List Addr} {C : Addr}
/-- the block at its entry: the list at D, the frame at C, both new -/
theorem comp_startO {caps : List (Option Nat)} {h' : Heap} {D : Addr} {m : Str → Option Value} {t' : Nat} {o0 : HO} (I : Inv X pins σ H s) (B : BlockOk X.env sc fr) (hf : ∀ b ∈ fp, FpOk X pins H b) (ho : ∀ b ∈ fp, ∃ o, s.heap.get? b = some o)
    (hC : s.heap.objs.size ≤ C) (hD : s.heap.objs.size ≤ D) (hDC : D ≠ C) (keep : ∀ b o, s.heap.get? b = some o → h'.get? b = some o) (new : ObjOk X.prog X.w (upd H D o0) h' D o0) (hn : h'.Ns C m)
    (hcap : capChk X.N Nc caps X.env sc fr = true) (hlen : caps.length = Nc.length) :
    Inv (compCx X pins sc fr Nc fp s H C) [] (capS caps σ) (upd H D o0) { s with heap := h', toks := t' } := by
  have hk : X.env.scope.kind = .function := I.ok.kind
  have fresh : ∀ a, s.heap.objs.size ≤ a → H a = none := fun a ha => I.hok.fresh ha
  refine ⟨comp_ok I B hf ho hC, rfl, I.bare, Un.laid keep hD (fresh D hD), ⟨m, hn, fun i x v e1 e2 e3 => ?_⟩, fun x c h => ?_, ?_, fun x c h => ?_, fun p hp => ?_, ?_, ?_⟩
  · -- a captured name
    have e2' : (caps[i]?).map (fun o => match o with | none => none | some j => (σ[j]?).join) = some (some v) := by
      have : (capS caps σ)[i]? = some (some v) := e2
      unfold capS at this
      rw [List.getElem?_map] at this
      exact this
    cases hc : caps[i]? with
    | none => rw [hc] at e2'; cases e2'
    | some o =>
      rw [hc] at e2'
      cases o with
      | none => simp at e2'
      | some j =>
        have e4 : (σ[j]?).join = some v := by simpa using e2'
        have e5 : σ[j]? = some (some v) := by
          cases q : σ[j]? with
          | none => rw [q] at e4; cases e4
          | some w' => rw [q] at e4; simp at e4; rw [e4]
        have e6 : (Nc.zip caps)[i]? = some (x, some j) := by
          rw [List.getElem?_zip_eq_some]
          exact ⟨e1, hc⟩
        have e7 := List.all_eq_true.mp hcap _ (List.mem_of_getElem? e6)
        simp only [Bool.and_eq_true, beq_iff_eq, List.contains_iff_mem] at e7
        obtain ⟨⟨⟨a1, a2⟩, a3⟩, a4⟩ := e7
        obtain ⟨m0, hn0, hl0⟩ := I.loc
        obtain ⟨u, r, l⟩ := hl0 j x v a1 e5 (.inr (.inl a2))
        refine ⟨u, r, .inr ⟨.inl (relabel_free hk a3 a2), _, clB_in a4, ?_⟩⟩
        rcases l with ⟨z, _⟩ | ⟨_, c, ec, hcell⟩
        · rw [a2] at z; cases z
        · have : (X.env.cells.lookup x).getD 0 = c := by rw [ec]; rfl
          rw [this]
          exact hcell.keeps keep
  · obtain ⟨v, hv⟩ := I.cell x c (B.sub h)
    exact ⟨v, hv.keeps keep⟩
  · show upd H D o0 C = none
    rw [upd_ne (Ne.symm hDC)]; exact fresh C hC
  · obtain ⟨v, hv⟩ := I.cell x c (B.sub h)
    have : c ≠ D := fun z => by have := hv.lt; rw [z] at this; exact absurd (Nat.lt_of_lt_of_le this hD) (Nat.lt_irrefl _)
    rw [upd_ne this]; exact I.freeC x c (B.sub h)
  · have hp' : p ∈ X.pn ++ pins := by simpa using hp
    obtain ⟨e, n, ne, nf, d⟩ := I.pin p hp'
    have hlt := I.pin_lt hp'
    refine ⟨keep _ _ e, ?_, ?_, fun z => ?_, d⟩
    · rw [upd_ne (fun z => by rw [z] at hlt; exact absurd (Nat.lt_of_lt_of_le hlt hD) (Nat.lt_irrefl _))]; exact n
    · intro z
      have z' : p.1 = C := z
      rw [z'] at hlt; exact absurd (Nat.lt_of_lt_of_le hlt hC) (Nat.lt_irrefl _)
    · rcases List.mem_cons.mp (I.stkSub p.1 z) with q | q
      · exact ne q
      · exact nf q
  · exact I.hok.laid keep hD new
  · show (capS caps σ).length = Nc.length
    unfold capS
    rw [List.length_map, hlen]
end
section
variable {prog : Program} {w : World} {A : Around} {R : Result → Shared → Prop} {s : Shared}
theorem compLoop_anyD {kx vx target iter : Expr} {ifs : List Expr} {scope : Scope} {pos : Pos} {it : Value} {D : Addr} {env : Env} (I : Nat → Shared → Prop)
    (turn : ∀ n s, I n s → wpAny (model prog w) A (pyNext it) (fun r s₁ => match r with
      | none => R (.ok .next) s₁
      | some v => wpAny (model prog w) A (letOwnedTupleGo target it v) (fun _ s₀ => wpAny (model prog w) A (assign target env v) (fun _ s₂ =>
          wpAny (model prog w) A (forIn ifs true fun c r => if r = true then do let ok ← isTrue c env (eval c env); pure (ForInStep.yield ok) else pure (ForInStep.yield r)) (fun ok s₃ =>
            if ok = true then wpAny (model prog w) A (eval kx env) (fun kv s₄ => wpAny (model prog w) A (eval vx env) (fun vv s₅ =>
              wpAny (model prog w) A (dictSet D kv vv) (fun _ s₆ => ∃ m, m < n ∧ I m s₆) (fun _ _ => False) s₅) (fun _ _ => False) s₄) (fun _ _ => False) s₃
            else ∃ m, m < n ∧ I m s₃) (fun _ _ => False) s₂) (fun _ _ => False) s₀) (fun _ _ => False) s₁) (fun _ _ => False) s)
    (n : Nat) (h : I n s) :
    codeAny (model prog w) A (.compLoop (.DictComp kx vx [⟨target, iter, ifs, 0⟩] scope pos) 0 it (.ref D) env) R s := by
  refine codeAny_loop rfl I (fun n s hI => ?_) n h
  show wpAny _ A ((compTurn (.DictComp kx vx [⟨target, iter, ifs, 0⟩] scope pos) 0 it (.ref D) env).onRaise (fun x => do noteFrame x env; theTreesLotGoes x)) _ _ s
  refine wpAny_noted ?_
  rw [compTurn_dict]
  refine wpAny_bind (wpAny_standAt (wpAny_bind (wpAny_mono (turn n s hI) (fun r s₁ h₁ => ?_) fun _ _ z => z.elim)))
  cases r with
  | none => exact wpAny_pure h₁
  | some v =>
    refine wpAny_bind (wpAny_mono h₁ (fun _ s₀ h₀ => ?_) fun _ _ z => z.elim)
    refine wpAny_bind (wpAny_mono h₀ (fun _ s₂ h₂ => wpAny_bind (wpAny_mono h₂ (fun ok s₃ h₃ => ?_) fun _ _ z => z.elim)) fun _ _ z => z.elim)
    cases ok with
    | false => exact wpAny_pure ⟨rfl, h₃⟩
    | true =>
      exact wpAny_bind (wpAny_bind (wpAny_mono h₃ (fun kv s₄ h₄ => wpAny_bind (wpAny_holding (wpAny_mono h₄ (fun vv s₅ h₅ => wpAny_bind (wpAny_standAt (wpAny_holding (wpAny_mono h₅ (fun _ s₆ h₆ => wpAny_pure ⟨rfl, h₆⟩) fun _ _ z => z.elim)))) fun _ _ z => z.elim))) fun _ _ z => z.elim))
end
/-- what is asked of a block that makes the dict at D -/
def DCr (J : It) (caps : List (Option Nat)) (g : TG) (tt : TT) (tk tv : TE) (σ : St) (H1 : Hp) (Q : VK) (D : Addr) : Prop :=
  ∃ W : Nat → Nat → List (Key × V) → Hp → Prop, (∃ m, W 0 m [] (upd H1 D (.dK []))) ∧ ∀ i m ys H, W i m ys H →
    (J.stop i H ∧ Q (.ref D) H) ∨
    (J.go i H ∧ ∀ x H', J.yld i H x H' → g x (capS caps σ) H' fun σ2 H2 => tt σ2 H2 fun ok H3 =>
      (ok = true → tk σ2 H3 fun y H4 => tv σ2 H4 fun v H5 => ∃ k, y = kV k ∧ H5 D = some (.dK ys) ∧ ys.length < sizeLine ∧ ∃ m', m' < m ∧ W (i + 1) m' (putK ys k v) (upd H5 D (.dK (putK ys k v)))) ∧
      (ok = false → ∃ m', m' < m ∧ W (i + 1) m' ys H3))
def tDC (wi : TI) (caps : List (Option Nat)) (g : TG) (tt : TT) (tk tv : TE) : TE := fun σ H Q => wi σ H fun J H1 => ∀ D, H1 D = none → DCr J caps g tt tk tv σ H1 Q D
section
variable {X : Cx} {pins : List (Addr × Obj)} {σ : St} {s : Shared} {sc : Scope} {fr Nc : List Str} {caps : List (Option Nat)} {kx vx tg iter : Expr} {ifs : List Expr} {g : TG} {tt : TT} {tk tv : TE} {ow : List Nat} {pos pos2 : Pos} {E : Value → Shared → Prop}
theorem sysLt {H : Hp} (I : Inv X pins σ H s) : sysModules < s.heap.objs.size := I.big
theorem comp_runD {H2 : Hp} {it : Addr} {fp : List Addr} {tn : Nat → Heap → Prop} {J : It} {Q : VK} {RR : Value → Addr → Result → Shared → Prop}
    (hc : X.calm = true) (B : BlockOk X.env sc fr) (go : GOwn g ow) (how : (ow.all fun i => caps[i]? == some none) = true) (hcap : capChk X.N Nc caps X.env sc fr = true) (hlen : caps.length = Nc.length)
    (hb : ∀ (pins : List (Addr × Obj)) (fp : List Addr) (s : Shared) (H : Hp) (C : Addr), PG (compCx X pins sc fr Nc fp s H C) tg g ∧ PIf (compCx X pins sc fr Nc fp s H C) ifs tt ∧ PE (compCx X pins sc fr Nc fp s H C) kx tk ∧ PE (compCx X pins sc fr Nc fp s H C) vx tv)
    (I2 : Inv X pins σ H2 s) (T : Turn X.prog X.w X.K tg J fp it tn) (st2 : tn 0 s.heap) (f2 : ∀ b ∈ fp, FpOk X pins H2 b) (h : ∀ D, H2 D = none → DCr J caps g tt tk tv σ H2 Q D)
    (fin : ∀ (D C : Addr) (σ' : St) (H' : Hp) (s' : Shared), Inv (compCx X pins sc fr Nc fp s H2 C) [] σ' H' s' → Q (.ref D) H' → RR (.ref D) C (.ok .next) s') :
    wpAny (model X.prog X.w) X.A newDict (fun acc s₃ => wpAny (model X.prog X.w) X.A (newFunctionEnv sc X.env.globals (clB X.env fr) [] X.env.qual none .none (some X.env)) (fun cenv s₄ =>
      codeAny (model X.prog X.w) X.A (.compStart (.DictComp kx vx [⟨tg, iter, ifs, 0⟩] sc pos) 0 (.ref it) acc { cenv with scope := relabel sc X.env }) (RR acc cenv.locals) s₄) E s₃) E s := by
  have hcell : ∀ y ∈ sc.names, y.2 ≠ .cell := fun y hy => by
    have h3 := List.all_eq_true.mp B.names _ hy
    simp only [Bool.and_eq_true, bne_iff_ne, ne_eq] at h3
    exact h3.1.1
  refine wpAny_newObj_type (wpAny_newFunctionEnv hcell (by intro y hy; simp at hy) (fun h₁ hns₁ hsb₁ => ?_) B.kind)
  dsimp only at hns₁ hsb₁ ⊢
  have hnew : (s.heap.push { cls := .type "dict", dict := none, data := .dict #[] }).DictOf (mixKind X.prog X.w) s.heap.objs.size [] := Heap.DictOf.new s.heap
  generalize hH2 : s.heap.push { cls := .type "dict", dict := none, data := .dict #[] } = H3 at hns₁ hsb₁ hnew ⊢
  have hCs : H3.objs.size = s.heap.objs.size + 1 := by rw [← hH2, Heap.size_push]
  have hDC : s.heap.objs.size ≠ H3.objs.size := by rw [hCs]; exact Nat.ne_of_lt (Nat.lt_succ_self _)
  have hC : s.heap.objs.size ≤ H3.objs.size := by rw [hCs]; exact Nat.le_succ _
  have old : ∀ b o, s.heap.get? b = some o → h₁.get? b = some o := fun b o e =>
    hsb₁.extBut b o (Nat.ne_of_lt (Nat.lt_of_lt_of_le (Heap.lt_size e) hC)) (Heap.get?_push_of_some _ (hH2 ▸ Heap.get?_push_of_some _ e))
  have hsm : sysModules < s.heap.objs.size := sysLt I2
  have hD : h₁.DictOf (mixKind X.prog X.w) s.heap.objs.size [] := hnew.at fun o e => hsb₁.extBut _ _ hDC (Heap.get?_push_of_some _ e)
  have hDo : ∀ H', ObjOk X.prog X.w H' h₁ s.heap.objs.size (.dK []) := fun _ => ⟨Nat.zero_le _, beq_eq_false_iff_ne.mpr (Ne.symm (Nat.ne_of_lt hsm)), [], .nil, hD⟩
  have ho : ∀ b ∈ fp, ∃ o, s.heap.get? b = some o := fun b hb' => let ⟨o, e, _⟩ := T.obj 0 _ st2 b hb'; ⟨o, e⟩
  have I4 : ∀ t', Inv (compCx X pins sc fr Nc fp s H2 H3.objs.size) [] (capS caps σ) (upd H2 s.heap.objs.size (.dK [])) { s with heap := h₁, toks := t' } := fun t' =>
    comp_startO I2 B f2 ho hC (Nat.le_refl _) hDC old (hDo _) hns₁ hcap hlen
  have ok := (I4 0).ok
  obtain ⟨hbg, hbt, hbk, hbv⟩ := hb pins fp s H2 H3.objs.size
  obtain ⟨W, ⟨m0, w0⟩, turn⟩ := h s.heap.objs.size (I2.hok.fresh (Nat.le_refl _))
  have stat : ∀ {H' : Hp}, (∀ b ∈ fp, H' b = none) → ∀ b ∈ fp, FpOk (compCx X pins sc fr Nc fp s H2 H3.objs.size) [] H' b := fun hn b hb' =>
    ⟨hn b hb', (ok.exf b hb').1, ok.exfs b hb', .inl hb', (ok.exf b hb').2, fun p hp => (f2 b hb').2.2.2.2.2 p (by simpa using hp)⟩
  have hfp0 : ∀ b ∈ fp, upd H2 s.heap.objs.size (.dK []) b = none := fun b hb' => by
    obtain ⟨o, e⟩ := ho b hb'
    rw [upd_ne (Nat.ne_of_lt (Heap.lt_size e))]
    exact (f2 b hb').1
  have loop : ∀ s₃ : Shared, s₃ = { s with heap := h₁, toks := s.toks + ([] : List (Str × Value)).length } →
      codeAny (model X.prog X.w) X.A (.compLoop (.DictComp kx vx [⟨tg, iter, ifs, 0⟩] sc pos) 0 (.ref it) (.ref s.heap.objs.size) (compEnvC sc (clB X.env fr) H3.objs.size X.env)) (RR (.ref s.heap.objs.size) H3.objs.size) s₃ := by
    rintro s₃ rfl
    refine compLoop_anyD (fun n s' => ∃ i σ' H' ys, Inv (compCx X pins sc fr Nc fp s H2 H3.objs.size) [] σ' H' s' ∧ tn i s'.heap ∧ (∀ b ∈ fp, H' b = none) ∧ W i n ys H' ∧
      (∀ (k : Nat) (v : V), (capS caps σ)[k]? = some (some v) → σ'[k]? = some (some v))) ?_ m0
      ⟨0, _, _, [], I4 _, T.keep _ _ _ st2 (fun b _ o e => old b o e), hfp0, w0, fun _ _ e => e⟩
    rintro n s3 ⟨i, σ3, H4, ys, I3, st3, fr3, w3, wk3⟩
    have I3' : Inv (compCx X pins sc fr Nc fp s H2 H3.objs.size) [] (capS caps σ) H4 s3 := I3.weak (by rw [I3.len]; exact (I4 0).len) wk3
    rcases turn i n ys H4 w3 with ⟨stop, qn⟩ | ⟨gg, step⟩
    · refine thn (T.done (compCx X pins sc fr Nc fp s H2 H3.objs.size) rfl rfl rfl hc i [] s3 _ H4 (fun _ _ => False) I3' (stat fr3) st3 stop) fun r s4 ⟨hr, I4'⟩ => ?_
      subst hr
      exact fin _ _ _ _ _ I4' qn
    · refine thn (T.item (compCx X pins sc fr Nc fp s H2 H3.objs.size) rfl rfl rfl hc i [] s3 _ H4 (fun _ _ => False) I3' (stat fr3) st3 gg) fun r s4 ⟨u, hr, h4⟩ => ?_
      subst hr
      refine thn h4 fun _ s5 ⟨x, H5, I5, r5, y5, st5, fr5⟩ => ?_
      have I5' := I5.pinned (stat fr5) (T.obj _ _ st5)
      refine thn (hbg _ s5 _ H5 x u _ I5' r5 (go _ _ _ _ (step x H5 y5))) fun _ s6 ⟨σ6, H6, I6, q6, l6, k6⟩ => ?_
      have wk6 : ∀ (k : Nat) (v : V), (capS caps σ)[k]? = some (some v) → σ6[k]? = some (some v) := fun k v e => by
        rw [k6 k fun hk => ?_]
        · exact e
        · have h1 := List.all_eq_true.mp how k hk
          have h2 : caps[k]? = some none := by simpa using h1
          unfold capS at e
          rw [List.getElem?_map, h2] at e
          cases e
      refine thn (hbt _ s6 σ6 H6 _ I6 q6) fun ok s7 ⟨H7, I7, q7⟩ => ?_
      have again : ∀ {H8 : Hp} {s8 : Shared} {ys' : List (Key × V)}, Inv (compCx X pins sc fr Nc fp s H2 H3.objs.size) ([] ++ pinsAt fp s5.heap) σ6 H8 s8 → (∃ m', m' < n ∧ W (i + 1) m' ys' H8) →
          ∃ m, m < n ∧ ∃ i σ' H' ys, Inv (compCx X pins sc fr Nc fp s H2 H3.objs.size) [] σ' H' s8 ∧ tn i s8.heap ∧ (∀ b ∈ fp, H' b = none) ∧ W i m ys H' ∧ (∀ (k : Nat) (v : V), (capS caps σ)[k]? = some (some v) → σ'[k]? = some (some v)) := fun {H8 s8 ys'} I8 ⟨m', hm, w8⟩ => by
        refine ⟨m', hm, i + 1, σ6, H8, ys', I8.unpinned, T.keep _ _ _ st5 fun b hb' o e => (I8.pin (b, o) (List.mem_append_right _ (List.mem_append_right _ (mem_pinsAt hb' e)))).1, fun b hb' => ?_, w8, wk6⟩
        obtain ⟨o, e, d⟩ := T.obj _ _ st5 b hb'
        exact (I8.pin (b, o) (List.mem_append_right _ (List.mem_append_right _ (mem_pinsAt hb' e)))).2.1
      cases ok with
      | false =>
        rw [if_neg Bool.false_ne_true]
        exact again I7 (q7.2 rfl)
      | true =>
        rw [if_pos rfl]
        refine thn (hbk _ s7 σ6 H7 _ I7 (q7.1 rfl)) fun uk s8 ⟨y, H8, I8, r8, q8⟩ => ?_
        refine thn (hbv _ s8 σ6 H8 _ I8 q8) fun uv s9 ⟨v, H9, I9, r9, k, ey, hD9, hz, q9⟩ => ?_
        subst ey
        obtain ⟨z, hd, vs, rel, dd⟩ := dk_of I9.hok hD9
        have hzs : vs.length ≤ sizeLine := by rw [← rel.length]; exact z
        have hl : (putK ys k v).length ≤ sizeLine := by have := length_putK ys k v; omega
        refine wpAny_dictSet_pairs (hsz := hzs) (kV_is r8) dd fun h' dd' hs => ?_
        have he : ∃ q, h'.get? s.heap.objs.size = some q := let ⟨q, _, _, hq, _⟩ := dd'; ⟨q, hq⟩
        exact again (d_write I9 (by rw [hD9]; exact True.intro) hs he (dk_new hl hd (rel.put k r9) dd')) q9
  exact codeAny_compStart_dict (loop _ rfl) (T.self _ 0 _ _ _ (T.keep _ _ _ st2 (fun b _ o e => old b o e)) (loop _ rfl))
theorem pe_dc {wi : TI} (fr Nc : List Str) (caps : List (Option Nat)) (hc : X.calm = true) (B : BlockOk X.env sc fr) (hi : PI X tg iter wi) (go : GOwn g ow) (how : (ow.all fun i => caps[i]? == some none) = true)
    (hcap : capChk X.N Nc caps X.env sc fr = true) (hlen : caps.length = Nc.length)
    (hb : ∀ (pins : List (Addr × Obj)) (fp : List Addr) (s : Shared) (H : Hp) (C : Addr), PG (compCx X pins sc fr Nc fp s H C) tg g ∧ PIf (compCx X pins sc fr Nc fp s H C) ifs tt ∧ PE (compCx X pins sc fr Nc fp s H C) kx tk ∧ PE (compCx X pins sc fr Nc fp s H C) vx tv)
    (hs : ∀ x, foldedSetIterable iter X.env x = pure x := by intro _; rfl) : PE X (.DictComp kx vx [⟨tg, iter, ifs, 0⟩] sc pos) (tDC wi caps g tt tk tv) := by
  refine ⟨?_⟩
  intro pins s σ H Q I h
  rw [arm_eval_DictComp]
  refine wpAny_comprehension_free (use := none) rfl hs B.clos B.kind B.loc (thn (hi pins s σ H _ I h) fun v s1 h1 => thn h1 fun itv s2 h2 => ?_)
  obtain ⟨it, fp, tn, J, H2, e, I2, T, st2, f2, q⟩ := h2
  subst e
  refine comp_runD (RR := fun acc C => compPost (model X.prog X.w) X.A X.xe none (EP X pins σ Q) acc C) hc B go how hcap hlen hb I2 T st2 f2 q ?_
  intro D C σ' H' s' J' qq
  obtain ⟨m, hn, _⟩ := J'.loc
  exact ⟨m, hn, fun h' hs' => ⟨.ref D, H', comp_gone I2 J' (comp_back I2 f2 J') hs', rfl, qq⟩⟩
end
end L2

set_option Elab.async false
set_option linter.all false
set_option maxRecDepth 100000
set_option maxHeartbeats 4000000
namespace L2
open PySem PySem.Spec PyProof.Rows
/-! ### xs[::-1] -/
/-! ### xs.index(t): tuples of flat items -/
end L2

set_option Elab.async false
set_option linter.all false
set_option maxRecDepth 100000
set_option maxHeartbeats 4000000
namespace K42
open PySem L2 PyProof.Rows
def top (i : Nat) : Stmt := PySem.Challenge.pw_callbinds_k42_defaults_refused.main.body.getD i (.Pass ⟨0, 0, 0, 0⟩)
abbrev sPInit : Stmt := inClass (top 49) 0
abbrev sFree : Stmt := inClass (top 49) 1
abbrev sByPlace : Stmt := inClass (top 49) 2
abbrev sByName : Stmt := inClass (top 49) 3
abbrev sTakes : Stmt := inClass (top 49) 4
abbrev sTold : Stmt := inClass (top 49) 5
abbrev sSeat : Stmt := inClass (top 50) 0
abbrev sBoth : Stmt := inClass (top 51) 0
abbrev sTail : Stmt := inClass (top 52) 0
abbrev sTag : Stmt := inClass (top 53) 0
abbrev sBag : Stmt := inClass (top 54) 0
abbrev sFInit : Stmt := inClass (top 39) 0
abbrev sKeep : Stmt := inClass (top 39) 1
abbrev sFPars : Stmt := inClass (top 39) 2
abbrev sFTail : Stmt := inClass (top 39) 5
abbrev sFTold : Stmt := inClass (top 39) 8
abbrev sXNoDef : Stmt := inClass (top 14) 0
abbrev sIs : Stmt := top 33
abbrev sPof : Stmt := top 55
abbrev sRMany : Stmt := top 40
abbrev sROrder : Stmt := top 41
abbrev sRBars : Stmt := top 42
abbrev sRTwice : Stmt := top 43
abbrev sNumW : Stmt := top 44
abbrev sNth : Stmt := top 59
abbrev sNum : Stmt := top 60
abbrev sMix : Stmt := top 61
abbrev sPool : Stmt := top 62
abbrev sSpecs : Stmt := top 63
abbrev sBars : Stmt := top 64
abbrev sThing : Stmt := top 65
abbrev sSingle : Stmt := top 66
abbrev sLoose : Stmt := top 67
abbrev sDefault : Stmt := top 68
abbrev sDrawn : Stmt := top 69
abbrev sRead : Stmt := top 70
abbrev sDue : Stmt := top 71
abbrev sOther : Stmt := top 72
abbrev sLMade : Stmt := top 73
abbrev sLaw : Stmt := top 74
abbrev sFreeN : Stmt := top 27
abbrev sRDef : Stmt := top 28
abbrev sSettled : Stmt := top 29


/-! ### the mathematics of names -/
def low (c : Nat) : Bool := decide (97 ≤ c) && decide (c ≤ 122)
def nameB (z : Str) : Bool := decide (1 ≤ z.length) && decide (z.length ≤ 8) && z.cps.toList.all low
def nmV : V → Bool
  | .str z => nameB z
  | _ => false
def OkS (z : Str) : Prop := z.length ≤ 1000 ∧ ∀ c ∈ z.cps.toList, c < 128
def OkV (K : PySem.W.Frag) (H : Hp) (x : V) : Prop := (∃ z, x = .str z ∧ OkS z) ∨ (nmV x = false ∧ ∃ t, TyOf K H x t ∧ PySem.W.kitOne K t (.type "str") = some false)
theorem nameB_iff {z : Str} : nameB z = true ↔ 1 ≤ z.length ∧ z.length ≤ 8 ∧ ∀ c ∈ z.cps.toList, 97 ≤ c ∧ c ≤ 122 := by
  unfold nameB low
  simp only [Bool.and_eq_true, decide_eq_true_eq, List.all_eq_true]
  constructor
  · rintro ⟨⟨a, b⟩, c⟩; exact ⟨a, b, c⟩
  · rintro ⟨a, b, c⟩; exact ⟨⟨a, b⟩, c⟩
theorem nameB_long {z : Str} (h : z.length = 0 ∨ 9 ≤ z.length) : nameB z = false := by
  cases e : nameB z with
  | false => rfl
  | true =>
    have := nameB_iff.mp e
    omega
theorem nameB_ok {z : Str} (h : nameB z = true) : OkS z := by
  obtain ⟨_, h2, h3⟩ := nameB_iff.mp h
  exact ⟨by omega, fun c hc => by have := h3 c hc; omega⟩
theorem app_len (x y : Str) : (x ++ y).length = x.length + y.length := by
  show (x.cps ++ y.cps).size = _
  rw [Array.size_append]; rfl
theorem app_cps (x y : Str) : (x ++ y).cps.toList = x.cps.toList ++ y.cps.toList := by
  show (x.cps ++ y.cps).toList = _
  rw [Array.toList_append]
def letters : Str := "abcdefghijklmnopqrstuvwxyz"
theorem letters_in : ∀ c : Nat, c < 128 → (!(Builtin.Str.occurrences letters ⟨#[c]⟩ 0 letters.length 1).isEmpty) = low c := by decide +kernel
theorem same_new {H : Hp} {p : Addr} (h : H p = none) (o : HO) : Same H (upd H p o) := fun b u q => by rw [upd_ne (ne_of_none q h)]; exact q
theorem tyOf_same {K : PySem.W.Frag} {H H' : Hp} {x : V} {t : Value} (s : Same H H') (h : TyOf K H x t) : TyOf K H' x t := by
  cases h with
  | non => exact .non
  | bl b => exact .bl b
  | int i => exact .int i
  | str z => exact .str z
  | flt z => exact .flt z
  | lst e => exact .lst (s _ _ e)
  | frz e => exact .frz (s _ _ e)
  | tup e => exact .tup (s _ _ e)
  | dK e => exact .dK (s _ _ e)
  | dT e => exact .dT (s _ _ e)
  | ins e a b c d f => exact .ins (s _ _ e) a b c d f
theorem OkV.same {K : PySem.W.Frag} {H H' : Hp} {x : V} (s : Same H H') (h : OkV K H x) : OkV K H' x := by
  rcases h with h | ⟨h, t, ty, e⟩
  · exact .inl h
  · exact .inr ⟨h, t, tyOf_same s ty, e⟩
theorem nd1 : ([Str.ofString "sign"] : List Str).Nodup := by decide +kernel
theorem nil_cps : (Str.ofString "").cps.toList = [] := by decide +kernel
/-! ### the promises -/
def spIs (K : PySem.W.Frag) : Sp := fun vs H Q _ => ∃ x, vs = [x] ∧ OkV K H x ∧ ∀ H', Same H H' → Q (.bl (nmV x)) H'
structure Txt1 (K : PySem.W.Frag) (mg : Str → Option Value) : Prop where
  isi : mg "isinstance" = none
  str : mg "str" = none
  bool : mg "bool" = none
  len : mg "len" = none
  all : mg "all" = none
  range : mg "range" = none
  letters : ∃ t, mg "LETTERS" = some (.str letters t)
  longest : ∃ t, mg "LONGEST" = some (.int 8 t)
  kNon : PySem.W.kitOne K (.type "NoneType") (.type "str") = some false
  kInt : PySem.W.kitOne K (.type "int") (.type "str") = some false
  kBl : PySem.W.kitOne K (.type "bool") (.type "str") = some false
  kLst : PySem.W.kitOne K (.type "list") (.type "str") = some false
  kTup : PySem.W.kitOne K (.type "tuple") (.type "str") = some false
  kDct : PySem.W.kitOne K (.type "dict") (.type "str") = some false
  kStr : PySem.W.kitOne K (.type "str") (.type "str") = some true
  bBl : PySem.W.kitOne K (.type "bool") (.type "bool") = some true
end K42

set_option Elab.async false
set_option linter.all false
set_option maxRecDepth 100000
set_option maxHeartbeats 4000000
namespace K42
open PySem L2 PyProof.Rows
section
variable {P : Program} {w : World} {K : PySem.W.Frag} {mg : Str → Option Value} {base : Heap} {f : Addr} {fd : FuncData}
theorem scIs : FnScope ["thing"] ["thing"] (defScope sIs) := ⟨rfl, rfl, rfl, by decide +kernel, rfl, by decide +kernel, by decide +kernel⟩
theorem ok_is (F : Fun K "is_name" "is_name" sIs f fd) (T : Txt1 K mg) : FnOk P w K mg base CX0 1 f fd ["thing"] (spIs K) := by
  refine F.ok scIs (fun vs H Q E h => ?_) (fun cdv A outer s H vs Q E hr h => ?_)
  · obtain ⟨x, rfl, _⟩ := h
    rfl
  obtain ⟨x, rfl, hx, q⟩ := h
  obtain ⟨tL, hL⟩ := T.letters
  obtain ⟨tN, hN⟩ := T.longest
  refine ⟨_, pss_cons (ps_if (PW.pt (pw_or (pt_not (pt_val (cB call_isinst T.isi boot_isinstance (ac (pv 0) (ac (pe_bltn (v := .ty "str") rfl T.str PyProof.Rows.boot_str rfl) pa_nil)))))
      (pw_or1 (pt_not (pt_chain op_le op_le pe_int (cB call_len_str T.len PySem.boot_len (ac (pv 0) pa_nil)) (pe_glob (v := .int 8) rfl hN ⟨_, rfl⟩))))))
      (pss_one (ps_ret pe_bl)) pss_nil)
    (pss_one (ps_ret (cB (call_allB rfl) T.all boot_all (ac (pe_lc [] ["sign"] [none] rfl ⟨rfl, rfl, rfl, rfl⟩ (pi_str (pv 0)) (gown_name 0) rfl rfl rfl
      (fun pins fp s H C => ⟨pg_name (i := 0) nd1 rfl (Or.inl rfl) (.inr rfl), pif_nil, pe_cmpR op_in_str (pv 0) (pe_glob (v := .str letters) rfl hL ⟨_, rfl⟩) (by with_unfolding_all rfl)⟩)) pa_nil)))), ?_⟩
  rcases hx with ⟨z, rfl, hz1, hz2⟩ | ⟨hn, t, ty, e⟩
  · refine ⟨_, rfl, _, _, _, _, rfl, .str z, T.kStr, _, rfl, ?_⟩
    refine iteF ?_
    refine ⟨_, rfl, z, rfl, Nat.le_trans hz1 (by decide), _, _, rfl, rfl, _, rfl, ?_⟩
    have no : nameB z = false → Q (.bl false) H := fun e => by
      have := q H (Same.refl H)
      have e' : nmV (.str z) = false := e
      rw [e'] at this
      exact this
    refine ite2 (fun c => ?_) (fun c => ?_)
    · have c' : (1 : Int) ≤ (z.length : Int) := of_decide_eq_true c
      refine ⟨_, _, rfl, rfl, _, rfl, ?_⟩
      by_cases h8 : (z.length : Int) ≤ 8
      · rw [decide_eq_true h8]
        refine iteF ?_
        -- all([sign in LETTERS for sign in thing])
        refine ⟨_, rfl, z, rfl, fun D hD => ?_⟩
        refine ⟨fun i m ys H' => i ≤ z.cps.size ∧ m = z.cps.size - i ∧ ys = (z.cps.toList.take i).map (fun c => V.bl (low c)) ∧ H' = upd H D (.lst ys), ⟨_, Nat.zero_le _, rfl, rfl, rfl⟩, ?_⟩
        rintro i m ys H' ⟨hi, rfl, rfl, rfl⟩
        by_cases he : i = z.cps.size
        · subst he
          refine .inl ⟨Nat.le_refl _, ?_⟩
          refine ⟨D, z.cps.toList.map low, rfl, SqL.of ?_, ?_⟩
          · rw [upd_same, List.take_of_length_le (by simp), List.map_map]
            rfl
          · have e : (z.cps.toList.map low).all id = nmV (.str z) := by
              show _ = nameB z
              unfold nameB
              rw [decide_eq_true (show 1 ≤ z.length by omega), decide_eq_true (show z.length ≤ 8 by omega), List.all_map]
              rfl
            rw [e]
            exact q _ (same_new hD _)
        · refine .inr ⟨by show i < z.cps.size; omega, ?_⟩
          rintro x H' ⟨rfl, c, hc, rfl⟩
          refine ⟨fun _ => ?_, fun e => Bool.noConfusion e⟩
          refine ⟨_, rfl, _, _, rfl, rfl, upd_same, ?_, z.cps.size - (i + 1), by omega, by omega, rfl, ?_, ?_⟩
          · rw [List.length_map, List.length_take]
            have : z.cps.size ≤ 1000 := hz1
            exact small1000 (by omega)
          · have hc' : z.cps.toList[i]? = some c := by simpa using hc
            have hlow := letters_in c (hz2 c (List.mem_of_getElem? hc'))
            rw [hlow, List.take_add_one, hc', List.map_append]
            rfl
          · rw [upd_upd]
      · rw [decide_eq_false h8]
        refine iteT ?_
        exact no (nameB_long (.inr (by omega)))
    · have c' : ¬ (1 : Int) ≤ (z.length : Int) := of_decide_eq_false (Bool.eq_false_iff.mpr c)
      refine ⟨_, rfl, ?_⟩
      exact iteT (no (nameB_long (.inl (by omega))))
  · refine ⟨_, rfl, _, _, _, _, rfl, ty, e, _, rfl, ?_⟩
    refine iteT ?_
    refine iteT ?_
    have := q H (Same.refl H)
    rw [hn] at this
    exact this


end
end K42

set_option Elab.async false
set_option linter.all false
set_option maxRecDepth 100000
set_option maxHeartbeats 4000000
namespace K42
open PySem L2 PyProof.Rows
abbrev EB : List Value := [.type "ValueError", .type "Exception", .type "BaseException", .type "object"]
theorem dT {A B : Prop} {c : Prop} [Decidable c] (h : c) (a : A) : if decide c = true then A else B := by rw [decide_eq_true h]; exact iteT a
theorem dF {A B : Prop} {c : Prop} [Decidable c] (h : ¬ c) (b : B) : if decide c = true then A else B := by rw [decide_eq_false h]; exact iteF b
def kw : Nat → Str
  | 0 => "seat" | 1 => "both" | 2 => "tail" | 3 => "tag" | _ => "bag"
def rowV (k : Nat) (x : V) (b : Bool) : List V := match k with
  | 0 => [.str "seat", x, .bl b] | 1 => [.str "both", x, .bl b] | 2 => [.str "tail", x] | 3 => [.str "tag", x, .bl b] | _ => [.str "bag", x]
def fr (k : Nat) (b : Bool) : Bool := match k with
  | 0 => b | 1 => b | 2 => true | 3 => b | _ => true
theorem lt5 {k : Nat} (h : k < 5) : k = 0 ∨ k = 1 ∨ k = 2 ∨ k = 3 ∨ k = 4 := by omega
/-- the attributes of a parameter -/
def pf (wd : Str) (x : V) (b : Bool) : List (Str × V) := putF "may_lack" (.bl b) (putF "name" x (putF "word" (.str wd) []))
theorem pf_word {wd : Str} {x : V} {b : Bool} : (pf wd x b).lookup ("word" : Str) = some (.str wd) := by
  unfold pf
  rw [lookup_putF, if_neg (by decide +kernel), lookup_putF, if_neg (by decide +kernel), lookup_putF, if_pos rfl]
theorem pf_name {wd : Str} {x : V} {b : Bool} : (pf wd x b).lookup ("name" : Str) = some x := by
  unfold pf
  rw [lookup_putF, if_neg (by decide +kernel), lookup_putF, if_pos rfl]
theorem pf_lack {wd : Str} {x : V} {b : Bool} : (pf wd x b).lookup ("may_lack" : Str) = some (.bl b) := by
  unfold pf
  rw [lookup_putF, if_pos rfl]
theorem pf_no {wd : Str} {x : V} {b : Bool} {m : Str} (h1 : ¬ m = "may_lack") (h2 : ¬ m = "name") (h3 : ¬ m = "word") : (pf wd x b).lookup m = none := by
  unfold pf
  rw [lookup_putF, if_neg h1, lookup_putF, if_neg h2, lookup_putF, if_neg h3]
  rfl
/-- the methods' defs -/
structure MA where
  (fF fP fB fT fO : Addr)
structure PC (K : PySem.W.Frag) (m : MA) (C : Addr) : Prop where
  cl : Cls K C
  nW : NoAttr K C "word"
  nN : NoAttr K C "name"
  nM : NoAttr K C "may_lack"
  mF : Meth K C "free" m.fF
  mP : Meth K C "by_place" m.fP
  mB : Meth K C "by_name" m.fB
  mT : Meth K C "takes_one" m.fT
  mO : Meth K C "told" m.fO
def spP (K : PySem.W.Frag) (m : MA) (N : Addr) : Sp := fun vs H Q E => ∃ (p dx C : Addr) (wd : Str) (x : V) (b : Bool), vs = [.ref p, .str wd, x, .bl b] ∧ H p = some (.ins C dx []) ∧ PC K m C ∧ OkV K H x ∧ (nmV x = true → ∀ H1, Same H H1 → Q .non (upd H1 p (.ins C dx (pf wd x b)))) ∧ (nmV x = false → ∀ H1, Same H H1 → E (.ref N) none H1)
def spS (K : PySem.W.Frag) (C N : Addr) (wd : Str) : Sp := fun vs H Q E => ∃ (p dx : Addr) (x : V) (b : Bool), vs = [.ref p, x, .bl b] ∧ H p = some (.ins C dx []) ∧ OkV K H x ∧ (nmV x = true → ∀ H1, Same H H1 → Q .non (upd H1 p (.ins C dx (pf wd x b)))) ∧ (nmV x = false → ∀ H1, Same H H1 → E (.ref N) none H1)
def spT (K : PySem.W.Frag) (C N : Addr) (wd : Str) : Sp := fun vs H Q E => ∃ (p dx : Addr) (x : V), vs = [.ref p, x] ∧ H p = some (.ins C dx []) ∧ OkV K H x ∧ (nmV x = true → ∀ H1, Same H H1 → Q .non (upd H1 p (.ins C dx (pf wd x true)))) ∧ (nmV x = false → ∀ H1, Same H H1 → E (.ref N) none H1)
def bpL : List V := [.str "seat", .str "both"]
def bnL : List V := [.str "both", .str "tag"]
def otL : List V := [.str "seat", .str "both", .str "tag"]
def spFree (K : PySem.W.Frag) (m : MA) : Sp := fun vs H Q _ => ∃ (p dx C : Addr) (wd : Str) (x : V) (b : Bool), vs = [.ref p] ∧ PC K m C ∧ H p = some (.ins C dx (pf wd x b)) ∧ Q (.bl b) H
def spIn (K : PySem.W.Frag) (m : MA) (l : List V) : Sp := fun vs H Q _ => ∃ (p dx C : Addr) (wd : Str) (x : V) (b : Bool), vs = [.ref p] ∧ PC K m C ∧ H p = some (.ins C dx (pf wd x b)) ∧ Q (.bl (inV (.str wd) l)) H
def spTold (K : PySem.W.Frag) (m : MA) : Sp := fun vs H Q _ => ∃ (p dx C : Addr) (k : Nat) (x : V) (b : Bool), vs = [.ref p] ∧ k < 5 ∧ PC K m C ∧ H p = some (.ins C dx (pf (kw k) x (fr k b))) ∧ ∀ (r : Addr) (H' : Hp), Same H H' → H' r = some (.tup (rowV k x b)) → Q (.ref r) H'
/-- the written tuples of words -/
structure Wds (K : PySem.W.Frag) (mg : Str → Option Value) (tP tB tO : Addr) : Prop where
  mP : mg "BY_PLACE" = some (.ref tP)
  mB : mg "BY_NAME" = some (.ref tB)
  mO : mg "OF_ONE_THING" = some (.ref tO)
  hP : ∀ H, SqT K H tP bpL
  hB : ∀ H, SqT K H tB bnL
  hO : ∀ H, SqT K H tO otL
section
variable {P : Program} {w : World} {K : PySem.W.Frag} {mg : Str → Option Value} {base : Heap} {f C N tP tB tO : Addr} {fd : FuncData} {m : MA}
theorem scPInit : FnScope ["self", "word", "name", "may_lack"] ["self", "word", "name", "may_lack"] (defScope sPInit) := ⟨rfl, rfl, rfl, by decide +kernel, rfl, by decide +kernel, by decide +kernel⟩
theorem ok_pinit {g : Addr} {gd : FuncData} (F : Fun K "__init__" "Parameter.__init__" sPInit f fd) (own : OwnCls "NoName" N EB "ValueError.__new__" mg base) (cI : Callee P w K mg base 1 "is_name" g gd ["thing"] (spIs K)) :
    FnOk P w K mg base (CXe P w) 2 f fd ["self", "word", "name", "may_lack"] (spP K m N) := by
  refine F.okE scPInit (fun vs H Q E h => ?_) (fun cdv A outer s H vs Q E hr h => ?_)
  · obtain ⟨p, dx, C, wd, x, b, rfl, _⟩ := h
    rfl
  obtain ⟨p, dx, C, wd, x, b, rfl, hp, c, hx, q1, q2⟩ := h
  refine ⟨_, pss_cons (ps_if (pt_not (pt_val (cF cI hr (ac (pv 2) pa_nil)))) (pss_one (ps_raise raises_cx own PySem.F.excBase_ValueError (by decide) PySem.F.excBase_ValueError rfl (ac pe_str pa_nil))) pss_nil)
    (pss_cons (ps_fld (pv 0) (pv 1) rfl) (pss_cons (ps_fld (pv 0) (pv 2) rfl) (pss_one (ps_fld (pv 0) (pv 3) rfl)))), ?_⟩
  refine ⟨_, rfl, x, rfl, hx, fun H1 s1 => ⟨_, rfl, ?_⟩⟩
  cases e : nmV x with
  | false =>
    refine iteT ?_
    exact ⟨by show 1 ≤ sizeLine; decide, q2 e _ s1⟩
  | true =>
    refine iteF ?_
    refine ⟨_, rfl, _, rfl, p, C, dx, [], rfl, s1 _ _ hp, c.cl, c.nW, (by show 0 < 1000; decide), ?_⟩
    refine ⟨_, rfl, _, rfl, p, C, dx, _, rfl, upd_same, c.cl, c.nN, (by show 1 < 1000; decide), ?_⟩
    refine ⟨_, rfl, _, rfl, p, C, dx, _, rfl, upd_same, c.cl, c.nM, (by show 2 < 1000; decide), ?_⟩
    rw [upd_upd, upd_upd]
    exact q1 e _ s1
theorem scSeat : FnScope ["self", "name", "free"] ["self", "name", "free"] (defScope sSeat) := ⟨rfl, rfl, rfl, by decide +kernel, rfl, by decide +kernel, by decide +kernel⟩
theorem ok_seat {g D : Addr} {gd : FuncData} {ds : List Value} (F : FunD K "__init__" "Seat.__init__" sSeat f fd ds) (c : PC K m C) (B : ClsFn K D "__init__" g) (mD : mg "Parameter" = some (.ref D)) (G : FnOk P w K mg base (CXe P w) 2 g gd ["self", "word", "name", "may_lack"] (spP K m N)) (bg : Binds K gd ["self", "word", "name", "may_lack"] []) :
    FnOk P w K mg base (CXe P w) 3 f fd ["self", "name", "free"] (spS K C N "seat") := by
  refine F.okE scSeat (fun vs H Q E h => ?_) (fun cdv A outer s H vs Q E hr h => ?_)
  · obtain ⟨p, dx, x, b, rfl, _⟩ := h
    rfl
  obtain ⟨p, dx, x, b, rfl, hp, hx, q1, q2⟩ := h
  refine ⟨_, pss_one (ps_expr (pe_cm B mD G hr bg (passE fun _ _ _ z => z) (ac (pv 0) (ac pe_str (ac (pv 1) (ac (pv 2) pa_nil)))))), ?_⟩
  exact ⟨_, rfl, _, rfl, _, rfl, p, dx, C, _, x, b, rfl, hp, c, hx, q1, q2⟩
theorem scBoth : FnScope ["self", "name", "free"] ["self", "name", "free"] (defScope sBoth) := ⟨rfl, rfl, rfl, by decide +kernel, rfl, by decide +kernel, by decide +kernel⟩
theorem ok_both {g D : Addr} {gd : FuncData} {ds : List Value} (F : FunD K "__init__" "Both.__init__" sBoth f fd ds) (c : PC K m C) (B : ClsFn K D "__init__" g) (mD : mg "Parameter" = some (.ref D)) (G : FnOk P w K mg base (CXe P w) 2 g gd ["self", "word", "name", "may_lack"] (spP K m N)) (bg : Binds K gd ["self", "word", "name", "may_lack"] []) :
    FnOk P w K mg base (CXe P w) 3 f fd ["self", "name", "free"] (spS K C N "both") := by
  refine F.okE scBoth (fun vs H Q E h => ?_) (fun cdv A outer s H vs Q E hr h => ?_)
  · obtain ⟨p, dx, x, b, rfl, _⟩ := h
    rfl
  obtain ⟨p, dx, x, b, rfl, hp, hx, q1, q2⟩ := h
  refine ⟨_, pss_one (ps_expr (pe_cm B mD G hr bg (passE fun _ _ _ z => z) (ac (pv 0) (ac pe_str (ac (pv 1) (ac (pv 2) pa_nil)))))), ?_⟩
  exact ⟨_, rfl, _, rfl, _, rfl, p, dx, C, _, x, b, rfl, hp, c, hx, q1, q2⟩
theorem scTag : FnScope ["self", "name", "free"] ["self", "name", "free"] (defScope sTag) := ⟨rfl, rfl, rfl, by decide +kernel, rfl, by decide +kernel, by decide +kernel⟩
theorem ok_tag {g D : Addr} {gd : FuncData} {ds : List Value} (F : FunD K "__init__" "Tag.__init__" sTag f fd ds) (c : PC K m C) (B : ClsFn K D "__init__" g) (mD : mg "Parameter" = some (.ref D)) (G : FnOk P w K mg base (CXe P w) 2 g gd ["self", "word", "name", "may_lack"] (spP K m N)) (bg : Binds K gd ["self", "word", "name", "may_lack"] []) :
    FnOk P w K mg base (CXe P w) 3 f fd ["self", "name", "free"] (spS K C N "tag") := by
  refine F.okE scTag (fun vs H Q E h => ?_) (fun cdv A outer s H vs Q E hr h => ?_)
  · obtain ⟨p, dx, x, b, rfl, _⟩ := h
    rfl
  obtain ⟨p, dx, x, b, rfl, hp, hx, q1, q2⟩ := h
  refine ⟨_, pss_one (ps_expr (pe_cm B mD G hr bg (passE fun _ _ _ z => z) (ac (pv 0) (ac pe_str (ac (pv 1) (ac (pv 2) pa_nil)))))), ?_⟩
  exact ⟨_, rfl, _, rfl, _, rfl, p, dx, C, _, x, b, rfl, hp, c, hx, q1, q2⟩
theorem scTail : FnScope ["self", "name"] ["self", "name"] (defScope sTail) := ⟨rfl, rfl, rfl, by decide +kernel, rfl, by decide +kernel, by decide +kernel⟩
theorem ok_tail {g D : Addr} {gd : FuncData} (F : Fun K "__init__" "Tail.__init__" sTail f fd) (c : PC K m C) (B : ClsFn K D "__init__" g) (mD : mg "Parameter" = some (.ref D)) (G : FnOk P w K mg base (CXe P w) 2 g gd ["self", "word", "name", "may_lack"] (spP K m N)) (bg : Binds K gd ["self", "word", "name", "may_lack"] []) :
    FnOk P w K mg base (CXe P w) 3 f fd ["self", "name"] (spT K C N "tail") := by
  refine F.okE scTail (fun vs H Q E h => ?_) (fun cdv A outer s H vs Q E hr h => ?_)
  · obtain ⟨p, dx, x, rfl, _⟩ := h
    rfl
  obtain ⟨p, dx, x, rfl, hp, hx, q1, q2⟩ := h
  refine ⟨_, pss_one (ps_expr (pe_cm B mD G hr bg (passE fun _ _ _ z => z) (ac (pv 0) (ac pe_str (ac (pv 1) (ac pe_bl pa_nil)))))), ?_⟩
  exact ⟨_, rfl, _, rfl, p, dx, C, _, x, true, rfl, hp, c, hx, q1, q2⟩
theorem scBag : FnScope ["self", "name"] ["self", "name"] (defScope sBag) := ⟨rfl, rfl, rfl, by decide +kernel, rfl, by decide +kernel, by decide +kernel⟩
theorem ok_bag {g D : Addr} {gd : FuncData} (F : Fun K "__init__" "Bag.__init__" sBag f fd) (c : PC K m C) (B : ClsFn K D "__init__" g) (mD : mg "Parameter" = some (.ref D)) (G : FnOk P w K mg base (CXe P w) 2 g gd ["self", "word", "name", "may_lack"] (spP K m N)) (bg : Binds K gd ["self", "word", "name", "may_lack"] []) :
    FnOk P w K mg base (CXe P w) 3 f fd ["self", "name"] (spT K C N "bag") := by
  refine F.okE scBag (fun vs H Q E h => ?_) (fun cdv A outer s H vs Q E hr h => ?_)
  · obtain ⟨p, dx, x, rfl, _⟩ := h
    rfl
  obtain ⟨p, dx, x, rfl, hp, hx, q1, q2⟩ := h
  refine ⟨_, pss_one (ps_expr (pe_cm B mD G hr bg (passE fun _ _ _ z => z) (ac (pv 0) (ac pe_str (ac (pv 1) (ac pe_bl pa_nil)))))), ?_⟩
  exact ⟨_, rfl, _, rfl, p, dx, C, _, x, true, rfl, hp, c, hx, q1, q2⟩
theorem scFree : FnScope ["self"] ["self"] (defScope sFree) := ⟨rfl, rfl, rfl, by decide +kernel, rfl, by decide +kernel, by decide +kernel⟩
theorem ok_free (F : Fun K "free" "Parameter.free" sFree f fd) : FnOk P w K mg base CX0 1 f fd ["self"] (spFree K m) := by
  refine F.ok scFree (fun vs H Q E h => ?_) (fun cdv A outer s H vs Q E hr h => ?_)
  · obtain ⟨p, dx, C, wd, x, b, rfl, _⟩ := h
    rfl
  obtain ⟨p, dx, C, wd, x, b, rfl, c, hp, q⟩ := h
  refine ⟨_, pss_one (ps_ret (pe_fld (pv 0) rfl)), ?_⟩
  exact ⟨_, rfl, p, C, dx, _, _, rfl, hp, c.cl, c.nM, pf_lack, q⟩
theorem scByPlace : FnScope ["self"] ["self"] (defScope sByPlace) := ⟨rfl, rfl, rfl, by decide +kernel, rfl, by decide +kernel, by decide +kernel⟩
theorem ok_by_place (F : Fun K "by_place" "Parameter.by_place" sByPlace f fd) (Wd : Wds K mg tP tB tO) : FnOk P w K mg base CX0 1 f fd ["self"] (spIn K m bpL) := by
  refine F.ok scByPlace (fun vs H Q E h => ?_) (fun cdv A outer s H vs Q E hr h => ?_)
  · obtain ⟨p, dx, C, wd, x, b, rfl, _⟩ := h
    rfl
  obtain ⟨p, dx, C, wd, x, b, rfl, c, hp, q⟩ := h
  refine ⟨_, pss_one (ps_ret (pe_cmpR op_in_seq (pe_fld (pv 0) rfl) (pe_glob (v := .ref tP) rfl Wd.mP rfl) (by with_unfolding_all rfl))), ?_⟩
  exact ⟨_, rfl, p, C, dx, _, _, rfl, hp, c.cl, c.nW, pf_word, tP, bpL, rfl, .inr (Wd.hP H), rfl, (by decide), q⟩
theorem scByName : FnScope ["self"] ["self"] (defScope sByName) := ⟨rfl, rfl, rfl, by decide +kernel, rfl, by decide +kernel, by decide +kernel⟩
theorem ok_by_name (F : Fun K "by_name" "Parameter.by_name" sByName f fd) (Wd : Wds K mg tP tB tO) : FnOk P w K mg base CX0 1 f fd ["self"] (spIn K m bnL) := by
  refine F.ok scByName (fun vs H Q E h => ?_) (fun cdv A outer s H vs Q E hr h => ?_)
  · obtain ⟨p, dx, C, wd, x, b, rfl, _⟩ := h
    rfl
  obtain ⟨p, dx, C, wd, x, b, rfl, c, hp, q⟩ := h
  refine ⟨_, pss_one (ps_ret (pe_cmpR op_in_seq (pe_fld (pv 0) rfl) (pe_glob (v := .ref tB) rfl Wd.mB rfl) (by with_unfolding_all rfl))), ?_⟩
  exact ⟨_, rfl, p, C, dx, _, _, rfl, hp, c.cl, c.nW, pf_word, tB, bnL, rfl, .inr (Wd.hB H), rfl, (by decide), q⟩
theorem scTakes : FnScope ["self"] ["self"] (defScope sTakes) := ⟨rfl, rfl, rfl, by decide +kernel, rfl, by decide +kernel, by decide +kernel⟩
theorem ok_takes_one (F : Fun K "takes_one" "Parameter.takes_one" sTakes f fd) (Wd : Wds K mg tP tB tO) : FnOk P w K mg base CX0 1 f fd ["self"] (spIn K m otL) := by
  refine F.ok scTakes (fun vs H Q E h => ?_) (fun cdv A outer s H vs Q E hr h => ?_)
  · obtain ⟨p, dx, C, wd, x, b, rfl, _⟩ := h
    rfl
  obtain ⟨p, dx, C, wd, x, b, rfl, c, hp, q⟩ := h
  refine ⟨_, pss_one (ps_ret (pe_cmpR op_in_seq (pe_fld (pv 0) rfl) (pe_glob (v := .ref tO) rfl Wd.mO rfl) (by with_unfolding_all rfl))), ?_⟩
  exact ⟨_, rfl, p, C, dx, _, _, rfl, hp, c.cl, c.nW, pf_word, tO, otL, rfl, .inr (Wd.hO H), rfl, (by decide), q⟩
theorem scTold : FnScope ["self"] ["self"] (defScope sTold) := ⟨rfl, rfl, rfl, by decide +kernel, rfl, by decide +kernel, by decide +kernel⟩
theorem ok_told {gd : FuncData} (F : Fun K "told" "Parameter.told" sTold f fd) (G : FnOk P w K mg base CX0 1 m.fT gd ["self"] (spIn K m otL)) (bg : Binds K gd ["self"] []) : FnOk P w K mg base CX0 2 f fd ["self"] (spTold K m) := by
  refine F.ok scTold (fun vs H Q E h => ?_) (fun cdv A outer s H vs Q E hr h => ?_)
  · obtain ⟨p, dx, C, k, x, b, rfl, _⟩ := h
    rfl
  obtain ⟨p, dx, C, k, x, b, rfl, hk, c, hp, q⟩ := h
  have nt : (pf (kw k) x (fr k b)).lookup ("takes_one" : Str) = none := pf_no (by decide +kernel) (by decide +kernel) (by decide +kernel)
  refine ⟨_, pss_cons (ps_if (pt_val (pe_meth0 (pv 0) c.cl c.mT G hr bg .nil pass0)) (pss_one (ps_ret (pe_tup (ac (pe_fld (pv 0) rfl) (ac (pe_fld (pv 0) rfl) (ac (pe_fld (pv 0) rfl) pa_nil)))))) pss_nil)
    (pss_one (ps_ret (pe_tup (ac (pe_fld (pv 0) rfl) (ac (pe_fld (pv 0) rfl) pa_nil))))), ?_⟩
  refine ⟨_, rfl, p, dx, _, rfl, hp, nt, p, dx, C, kw k, x, fr k b, rfl, c, hp, _, rfl, ?_⟩
  have fW : ∃ b', pf (kw k) x (fr k b) = pf (kw k) x b' := ⟨_, rfl⟩
  rcases lt5 hk with rfl | rfl | rfl | rfl | rfl
  · refine iteT ?_
    exact ⟨_, rfl, p, C, dx, _, _, rfl, hp, c.cl, c.nW, pf_word, _, rfl, p, C, dx, _, _, rfl, hp, c.cl, c.nN, pf_name, _, rfl, p, C, dx, _, _, rfl, hp, c.cl, c.nM, pf_lack, (by show 3 ≤ sizeLine; decide), fun r hr => q r _ (same_new hr _) upd_same⟩
  · refine iteT ?_
    exact ⟨_, rfl, p, C, dx, _, _, rfl, hp, c.cl, c.nW, pf_word, _, rfl, p, C, dx, _, _, rfl, hp, c.cl, c.nN, pf_name, _, rfl, p, C, dx, _, _, rfl, hp, c.cl, c.nM, pf_lack, (by show 3 ≤ sizeLine; decide), fun r hr => q r _ (same_new hr _) upd_same⟩
  · refine iteF ?_
    exact ⟨_, rfl, p, C, dx, _, _, rfl, hp, c.cl, c.nW, pf_word, _, rfl, p, C, dx, _, _, rfl, hp, c.cl, c.nN, pf_name, (by show 2 ≤ sizeLine; decide), fun r hr => q r _ (same_new hr _) upd_same⟩
  · refine iteT ?_
    exact ⟨_, rfl, p, C, dx, _, _, rfl, hp, c.cl, c.nW, pf_word, _, rfl, p, C, dx, _, _, rfl, hp, c.cl, c.nN, pf_name, _, rfl, p, C, dx, _, _, rfl, hp, c.cl, c.nM, pf_lack, (by show 3 ≤ sizeLine; decide), fun r hr => q r _ (same_new hr _) upd_same⟩
  · refine iteF ?_
    exact ⟨_, rfl, p, C, dx, _, _, rfl, hp, c.cl, c.nW, pf_word, _, rfl, p, C, dx, _, _, rfl, hp, c.cl, c.nN, pf_name, (by show 2 ≤ sizeLine; decide), fun r hr => q r _ (same_new hr _) upd_same⟩
end
end K42

set_option Elab.async false
set_option linter.all false
set_option maxRecDepth 100000
set_option maxHeartbeats 4000000
namespace K42
open PySem L2 PyProof.Rows
structure C5 where
  (c0 c1 c2 c3 c4 : Addr)
def C5.at (c : C5) : Nat → Addr
  | 0 => c.c0 | 1 => c.c1 | 2 => c.c2 | 3 => c.c3 | _ => c.c4
def g21 {α : Type} : List α → List α → List α
  | [u, v], [w] => [u, v, w]
  | _, _ => []
theorem g21_rel {vs : List V} {us : List Value} {zs : List V} {ws : List Value} (r : Vals vs us) (q : Vals zs ws) : Vals (g21 vs zs) (g21 us ws) := by
  cases r with
  | nil => exact .nil
  | cons a r => cases r with
    | nil => exact .nil
    | cons a2 r => cases r with
      | cons _ _ => exact .nil
      | nil => cases q with
        | nil => exact .nil
        | cons b q => cases q with
          | nil => exact .cons a (.cons a2 (.cons b .nil))
          | cons _ _ => exact .nil
structure Ctors (P : Program) (w : World) (K : PySem.W.Frag) (mg : Str → Option Value) (base : Heap) (c : C5) (N : Addr) (i0 i1 i2 i3 i4 : Addr) (d0 d1 d2 d3 d4 : FuncData) : Prop where
  k0 : Ctor P w K mg base (CXe P w) 3 "Seat" c.c0 i0 d0 ["self", "name", "free"] [] (spS K c.c0 N "seat")
  e0 : Ctor P w K mg base (CXe P w) 3 "Seat" c.c0 i0 d0 ["self", "name", "free"] [.bool false] (spS K c.c0 N "seat")
  b0 : KBinds K d0 ["self", "name", "free"] ["free"] g21 g21
  k1 : Ctor P w K mg base (CXe P w) 3 "Both" c.c1 i1 d1 ["self", "name", "free"] [] (spS K c.c1 N "both")
  e1 : Ctor P w K mg base (CXe P w) 3 "Both" c.c1 i1 d1 ["self", "name", "free"] [.bool false] (spS K c.c1 N "both")
  b1 : KBinds K d1 ["self", "name", "free"] ["free"] g21 g21
  k2 : Ctor P w K mg base (CXe P w) 3 "Tail" c.c2 i2 d2 ["self", "name"] [] (spT K c.c2 N "tail")
  k3 : Ctor P w K mg base (CXe P w) 3 "Tag" c.c3 i3 d3 ["self", "name", "free"] [] (spS K c.c3 N "tag")
  e3 : Ctor P w K mg base (CXe P w) 3 "Tag" c.c3 i3 d3 ["self", "name", "free"] [.bool false] (spS K c.c3 N "tag")
  b3 : KBinds K d3 ["self", "name", "free"] ["free"] g21 g21
  k4 : Ctor P w K mg base (CXe P w) 3 "Bag" c.c4 i4 d4 ["self", "name"] [] (spT K c.c4 N "bag")
def Res (c : C5) (N : Addr) (H : Hp) (k : Nat) (x : V) (b : Bool) (Q : VK) (E : XK) : Prop :=
  (nmV x = true → ∀ (o dx : Addr) (H' : Hp), Same H H' → H' o = some (.ins (c.at k) dx (pf (kw k) x (fr k b))) → Q (.ref o) H') ∧ (nmV x = false → ∀ H', Same H H' → E (.ref N) none H')
def spPof (K : PySem.W.Frag) (c : C5) (N : Addr) : Sp := fun vs H Q E => ∃ (p : Addr) (k : Nat) (x : V) (b : Bool), vs = [.ref p] ∧ k < 5 ∧ H p = some (.tup (rowV k x b)) ∧ OkV K H x ∧ Res c N H k x b Q E
theorem ne10 : ¬ (V.str "both" = V.str "seat") := by decide +kernel
theorem ne20 : ¬ (V.str "tail" = V.str "seat") := by decide +kernel
theorem ne21 : ¬ (V.str "tail" = V.str "both") := by decide +kernel
theorem ne30 : ¬ (V.str "tag" = V.str "seat") := by decide +kernel
theorem ne31 : ¬ (V.str "tag" = V.str "both") := by decide +kernel
theorem ne32 : ¬ (V.str "tag" = V.str "tail") := by decide +kernel
theorem ne40 : ¬ (V.str "bag" = V.str "seat") := by decide +kernel
theorem ne41 : ¬ (V.str "bag" = V.str "both") := by decide +kernel
theorem ne42 : ¬ (V.str "bag" = V.str "tail") := by decide +kernel
theorem ne43 : ¬ (V.str "bag" = V.str "tag") := by decide +kernel
section
variable {P : Program} {w : World} {K : PySem.W.Frag} {mg : Str → Option Value} {base : Heap} {f N i0 i1 i2 i3 i4 : Addr} {fd d0 d1 d2 d3 d4 : FuncData} {c : C5}
theorem lk_0 {x : V} {k : Nat} {b : Bool} (h : k < 5) : atI (rowV k x b) 0 = some (.str (kw k)) := by rcases lt5 h with rfl | rfl | rfl | rfl | rfl <;> rfl
theorem scPof : FnScope ["told", "word"] ["told"] (defScope sPof) := ⟨rfl, rfl, rfl, by decide +kernel, rfl, by decide +kernel, by decide +kernel⟩
theorem ok_pof (F : Fun K "parameter_of" "parameter_of" sPof f fd) (U : Ctors P w K mg base c N i0 i1 i2 i3 i4 d0 d1 d2 d3 d4) : FnOk P w K mg base (CXe P w) 5 f fd ["told"] (spPof K c N) := by
  refine F.okE scPof (fun vs H Q E h => ?_) (fun cdv A outer s H vs Q E hr h => ?_)
  · obtain ⟨p, k, x, b, rfl, _⟩ := h
    rfl
  obtain ⟨p, k, x, b, rfl, hk, hp, hx, r1, r2⟩ := h
  refine ⟨_, pss_cons (ps_set (i := 1) scPof.nd rfl (Or.inl rfl) (pe_ix ix_tup (pv 0) pe_int (fun _ _ => rfl)))
    (pss_cons (ps_if (pt_cmpR op_eq (pv 1) pe_str (nomark _)) (pss_one (ps_ret (cMk U.k0 .nil (passE fun _ _ _ z => z) hr (ac (pe_ix ix_tup (pv 0) pe_int (fun _ _ => rfl)) (ac (pe_ix ix_tup (pv 0) pe_int (fun _ _ => rfl)) pa_nil))))) pss_nil)
    (pss_cons (ps_if (pt_cmpR op_eq (pv 1) pe_str (nomark _)) (pss_one (ps_ret (cMk U.k1 .nil (passE fun _ _ _ z => z) hr (ac (pe_ix ix_tup (pv 0) pe_int (fun _ _ => rfl)) (ac (pe_ix ix_tup (pv 0) pe_int (fun _ _ => rfl)) pa_nil))))) pss_nil)
    (pss_cons (ps_if (pt_cmpR op_eq (pv 1) pe_str (nomark _)) (pss_one (ps_ret (cMk U.k2 .nil (passE fun _ _ _ z => z) hr (ac (pe_ix ix_tup (pv 0) pe_int (fun _ _ => rfl)) pa_nil)))) pss_nil)
    (pss_cons (ps_if (pt_cmpR op_eq (pv 1) pe_str (nomark _)) (pss_one (ps_ret (cMk U.k3 .nil (passE fun _ _ _ z => z) hr (ac (pe_ix ix_tup (pv 0) pe_int (fun _ _ => rfl)) (ac (pe_ix ix_tup (pv 0) pe_int (fun _ _ => rfl)) pa_nil))))) pss_nil)
    (pss_one (ps_ret (cMk U.k4 .nil (passE fun _ _ _ z => z) hr (ac (pe_ix ix_tup (pv 0) pe_int (fun _ _ => rfl)) pa_nil)))))))), ?_⟩
  refine ⟨_, rfl, p, _, _, .str (kw k), rfl, rfl, SqT.of hp, lk_0 hk, ?_⟩
  rcases lt5 hk with rfl | rfl | rfl | rfl | rfl
  · have hS : SqT K H p _ := SqT.of hp
    refine ⟨_, rfl, rfl, _, rfl, ?_⟩
    refine dT rfl ?_
    exact ⟨_, rfl, p, _, _, x, rfl, rfl, hS, rfl, _, rfl, p, _, _, .bl b, rfl, rfl, hS, rfl, fun o dx ho hdx ne => ⟨o, dx, x, b, rfl, upd_same, hx.same (same_make0 ho hdx), fun e H1 s1 => ⟨rfl, r1 e o dx _ (same_after ho hdx s1) upd_same⟩, fun e H1 s1 => r2 e _ ((same_make0 ho hdx).trans s1)⟩⟩
  · have hS : SqT K H p _ := SqT.of hp
    refine ⟨_, rfl, rfl, _, rfl, ?_⟩
    refine dF ne10 ?_
    refine ⟨_, rfl, rfl, _, rfl, ?_⟩
    refine dT rfl ?_
    exact ⟨_, rfl, p, _, _, x, rfl, rfl, hS, rfl, _, rfl, p, _, _, .bl b, rfl, rfl, hS, rfl, fun o dx ho hdx ne => ⟨o, dx, x, b, rfl, upd_same, hx.same (same_make0 ho hdx), fun e H1 s1 => ⟨rfl, r1 e o dx _ (same_after ho hdx s1) upd_same⟩, fun e H1 s1 => r2 e _ ((same_make0 ho hdx).trans s1)⟩⟩
  · have hS : SqT K H p _ := SqT.of hp
    refine ⟨_, rfl, rfl, _, rfl, ?_⟩
    refine dF ne20 ?_
    refine ⟨_, rfl, rfl, _, rfl, ?_⟩
    refine dF ne21 ?_
    refine ⟨_, rfl, rfl, _, rfl, ?_⟩
    refine dT rfl ?_
    exact ⟨_, rfl, p, _, _, x, rfl, rfl, hS, rfl, fun o dx ho hdx ne => ⟨o, dx, x, rfl, upd_same, hx.same (same_make0 ho hdx), fun e H1 s1 => ⟨rfl, r1 e o dx _ (same_after ho hdx s1) upd_same⟩, fun e H1 s1 => r2 e _ ((same_make0 ho hdx).trans s1)⟩⟩
  · have hS : SqT K H p _ := SqT.of hp
    refine ⟨_, rfl, rfl, _, rfl, ?_⟩
    refine dF ne30 ?_
    refine ⟨_, rfl, rfl, _, rfl, ?_⟩
    refine dF ne31 ?_
    refine ⟨_, rfl, rfl, _, rfl, ?_⟩
    refine dF ne32 ?_
    refine ⟨_, rfl, rfl, _, rfl, ?_⟩
    refine dT rfl ?_
    exact ⟨_, rfl, p, _, _, x, rfl, rfl, hS, rfl, _, rfl, p, _, _, .bl b, rfl, rfl, hS, rfl, fun o dx ho hdx ne => ⟨o, dx, x, b, rfl, upd_same, hx.same (same_make0 ho hdx), fun e H1 s1 => ⟨rfl, r1 e o dx _ (same_after ho hdx s1) upd_same⟩, fun e H1 s1 => r2 e _ ((same_make0 ho hdx).trans s1)⟩⟩
  · have hS : SqT K H p _ := SqT.of hp
    refine ⟨_, rfl, rfl, _, rfl, ?_⟩
    refine dF ne40 ?_
    refine ⟨_, rfl, rfl, _, rfl, ?_⟩
    refine dF ne41 ?_
    refine ⟨_, rfl, rfl, _, rfl, ?_⟩
    refine dF ne42 ?_
    refine ⟨_, rfl, rfl, _, rfl, ?_⟩
    refine dF ne43 ?_
    exact ⟨_, rfl, p, _, _, x, rfl, rfl, hS, rfl, fun o dx ho hdx ne => ⟨o, dx, x, rfl, upd_same, hx.same (same_make0 ho hdx), fun e H1 s1 => ⟨rfl, r1 e o dx _ (same_after ho hdx s1) upd_same⟩, fun e H1 s1 => r2 e _ ((same_make0 ho hdx).trans s1)⟩⟩
end
end K42

set_option Elab.async false
set_option linter.all false
set_option maxRecDepth 100000
set_option maxHeartbeats 4000000
namespace L2
open PySem PySem.Spec PyProof.Rows
/-- what a turn of a block that makes the dict at D asks of its pair -/
def dcN (n i : Nat) (D : Addr) (Pv : Nat → List (Key × V) → Hp → Prop) (ys : List (Key × V)) (y : V) : VK := fun v H5 => ∃ k, y = kV k ∧ H5 D = some (.dK ys) ∧ ys.length < sizeLine ∧ ∃ m', m' < n - i ∧ m' = n - (i + 1) ∧ i + 1 ≤ n ∧ Pv (i + 1) (putK ys k v) (upd H5 D (.dK (putK ys k v)))
def dcS (n i : Nat) (Pv : Nat → List (Key × V) → Hp → Prop) (ys : List (Key × V)) (H4 : Hp) : Prop := ∃ m', m' < n - i ∧ m' = n - (i + 1) ∧ i + 1 ≤ n ∧ Pv (i + 1) ys H4
theorem dcN.mk {n i : Nat} {D : Addr} {Pv : Nat → List (Key × V) → Hp → Prop} {ys : List (Key × V)} {y v : V} {H5 : Hp} (k : Key) (hi : i < n) (ek : y = kV k) (hn : n ≤ sizeLine) (hD : H5 D = some (.dK ys)) (hy : ys.length ≤ i) (p : Pv (i + 1) (putK ys k v) (upd H5 D (.dK (putK ys k v)))) : dcN n i D Pv ys y v H5 :=
  ⟨k, ek, hD, by omega, n - (i + 1), by omega, rfl, hi, p⟩
theorem dcS.mk {n i : Nat} {Pv : Nat → List (Key × V) → Hp → Prop} {ys : List (Key × V)} {H4 : Hp} (hi : i < n) (p : Pv (i + 1) ys H4) : dcS n i Pv ys H4 := ⟨n - (i + 1), by omega, rfl, hi, p⟩
theorem dc_enum {K : PySem.W.Frag} {a : Addr} {xs : List V} {caps : List (Option Nat)} {g : TG} {tt : TT} {tk tv : TE} {σ : St} {H1 : Hp} {Q : VK} {D : Addr} (Pv : Nat → List (Key × V) → Hp → Prop) (h0 : Pv 0 [] (upd H1 D (.dK [])))
    (hl : ∀ i ys H, Pv i ys H → SqL K H a xs)
    (hs : ∀ i x p ys H, i < xs.length → xs[i]? = some x → Pv i ys H → H p = none → g (.ref p) (capS caps σ) (upd H p (.tup [.int i, x])) fun σ2 H2 => tt σ2 H2 fun ok H3 => (ok = true → tk σ2 H3 fun y H4 => tv σ2 H4 (dcN xs.length i D Pv ys y)) ∧ (ok = false → dcS xs.length i Pv ys H3))
    (hd : ∀ ys H, Pv xs.length ys H → Q (.ref D) H) : DCr (Ite K a) caps g tt tk tv σ H1 Q D := by
  refine ⟨fun i m ys H => m = xs.length - i ∧ i ≤ xs.length ∧ Pv i ys H, ⟨xs.length, by simp, Nat.zero_le _, h0⟩, ?_⟩
  rintro i m ys H ⟨rfl, hi, p⟩
  have q := hl i ys H p
  by_cases hlt : i < xs.length
  · refine .inr ⟨⟨xs, xs[i], q, by simp [hlt]⟩, fun x H' y => ?_⟩
    obtain ⟨pp, y, rfl, hp, y2, rfl⟩ := y
    exact hs i y pp ys H hlt (y2 xs q) p hp
  · have e : i = xs.length := by omega
    subst e
    exact .inl ⟨⟨xs, q, Nat.le_refl _⟩, hd ys H p⟩
end L2
namespace K42
open PySem L2 PyProof.Rows
/-! ### rows and forms -/
structure Rw where
  (k : Nat) (z : Str) (b : Bool)
def Rw.ok (r : Rw) : Prop := r.k < 5 ∧ nameB r.z = true
abbrev rv (r : Rw) : List V := rowV r.k (.str r.z) r.b
abbrev pr (r : Rw) : List (Str × V) := pf (kw r.k) (.str r.z) (fr r.k r.b)
def PAt (c : C5) (H : Hp) (p : Addr) (r : Rw) : Prop := ∃ dx, H p = some (.ins (c.at r.k) dx (pr r))
def byPl (k : Nat) : Bool := k == 0 || k == 1
def byNm (k : Nat) : Bool := k == 1 || k == 3
theorem in_pl : ∀ k : Nat, k < 5 → inV (.str (kw k)) bpL = byPl k := by decide +kernel
theorem in_nm : ∀ k : Nat, k < 5 → inV (.str (kw k)) bnL = byNm k := by decide +kernel
def grp : Nat → Nat
  | 0 => 0 | 1 => 0 | 2 => 1 | 3 => 2 | _ => 3
def badAt (l g : Nat) : Bool := decide (g < l) || (g == l && (g == 1 || g == 3))
def ordOk : Nat → List Rw → Bool
  | _, [] => true
  | l, r :: rs => !badAt l (grp r.k) && ordOk (grp r.k) rs
def nms (rows : List Rw) : List Str := (rows.filter fun r => byNm r.k).map (·.z)
structure Valid (rows : List Rw) (bars : List Str) : Prop where
  ok : ∀ r ∈ rows, r.ok
  l24 : rows.length ≤ 24
  l60 : bars.length ≤ 60
  ord : ordOk 0 rows = true
  bn : ∀ z ∈ bars, nameB z = true
  nd : (nms rows ++ bars).Nodup
def firstK (kk : Nat) : Nat → List Rw → Option Nat
  | _, [] => none
  | i, r :: rs => if r.k = kk then some i else firstK kk (i + 1) rs
def numV : Option Nat → V
  | none => .non
  | some i => .int i
def doorsF : Nat → List (Key × V) → List Rw → List (Key × V)
  | _, acc, [] => acc
  | i, acc, r :: rs => doorsF (i + 1) (if byNm r.k = true then putK acc (.inr r.z) (.int i) else acc) rs
def plN (rows : List Rw) : Nat := (rows.filter fun r => byPl r.k).length
def attrs : List Str := ["row", "bar_names", "place_count", "tail_number", "bag_number", "doors"]
structure FF (fs : List (Str × V)) (lr lb ld : Addr) (rows : List Rw) : Prop where
  row : fs.lookup ("row" : Str) = some (.ref lr)
  bn : fs.lookup ("bar_names" : Str) = some (.ref lb)
  pc : fs.lookup ("place_count" : Str) = some (.int (plN rows))
  tn : fs.lookup ("tail_number" : Str) = some (numV (firstK 2 0 rows))
  bg : fs.lookup ("bag_number" : Str) = some (numV (firstK 4 0 rows))
  dr : fs.lookup ("doors" : Str) = some (.ref ld)
  no : ∀ m, m ∉ attrs → fs.lookup m = none
def FormAt (c : C5) (CF : Addr) (H : Hp) (f : Addr) (rows : List Rw) (bars : List Str) : Prop :=
  ∃ dx fs lr lb ld ps, H f = some (.ins CF dx fs) ∧ FF fs lr lb ld rows ∧ H lr = some (.lst (ps.map V.ref)) ∧ Paired (PAt c H) ps rows ∧ H lb = some (.lst (bars.map V.str)) ∧ H ld = some (.dK (doorsF 0 [] rows))
section
variable {c : C5} {CF f p : Addr} {H H' : Hp} {rows : List Rw} {bars : List Str} {r : Rw} {ps : List Addr}
theorem PAt.same (h : PAt c H p r) (s : Same H H') : PAt c H' p r := h.imp fun _ => s _ _
theorem pats_same (s : Same H H') (h : Paired (PAt c H) ps rows) : Paired (PAt c H') ps rows := Paired.imp' (fun _ _ z => z.same s) h
theorem FormAt.same (h : FormAt c CF H f rows bars) (s : Same H H') : FormAt c CF H' f rows bars := by
  obtain ⟨dx, fs, lr, lb, ld, ps, h1, h2, h3, h4, h5, h6⟩ := h
  exact ⟨dx, fs, lr, lb, ld, ps, s _ _ h1, h2, s _ _ h3, pats_same s h4, s _ _ h5, s _ _ h6⟩
def FormN (c : C5) (CF : Addr) (H H' : Hp) (f : Addr) (rows : List Rw) (bars : List Str) : Prop :=
  ∃ dx fs lr lb ld ps, H' f = some (.ins CF dx fs) ∧ FF fs lr lb ld rows ∧ H' lr = some (.lst (ps.map V.ref)) ∧ Paired (PAt c H') ps rows ∧ H' lb = some (.lst (bars.map V.str)) ∧ H' ld = some (.dK (doorsF 0 [] rows)) ∧ H lr = none ∧ H lb = none
theorem FormN.at (h : FormN c CF H H' f rows bars) : FormAt c CF H' f rows bars := by
  obtain ⟨dx, fs, lr, lb, ld, ps, h1, h2, h3, h4, h5, h6, _, _⟩ := h
  exact ⟨dx, fs, lr, lb, ld, ps, h1, h2, h3, h4, h5, h6⟩
theorem FormN.of {H0 : Hp} (h : FormN c CF H H' f rows bars) (s : Same H0 H) : FormN c CF H0 H' f rows bars := by
  obtain ⟨dx, fs, lr, lb, ld, ps, h1, h2, h3, h4, h5, h6, h7, h8⟩ := h
  exact ⟨dx, fs, lr, lb, ld, ps, h1, h2, h3, h4, h5, h6, s.free h7, s.free h8⟩
theorem paired_at {α β : Type} {R : α → β → Prop} {xs : List α} {ys : List β} (h : Paired R xs ys) : ∀ {i : Nat} {x : α}, xs[i]? = some x → ∃ y, ys[i]? = some y ∧ R x y := by
  induction h with
  | nil => intro i x e; simp at e
  | cons r t ih =>
    intro i x e
    cases i with
    | zero => exact ⟨_, rfl, by simp at e; exact e ▸ r⟩
    | succ i => simpa using ih (by simpa using e)
end
end K42

set_option Elab.async false
set_option linter.all false
set_option maxRecDepth 100000
set_option maxHeartbeats 4000000
namespace K42
open PySem L2 PyProof.Rows
def grpV (x : Str) : Option V := ([(("seat" : Str), V.int 0), ("both", .int 0), ("tail", .int 1), ("tag", .int 2), ("bag", .int 3)] : List (Str × V)).lookup x
theorem grpV_kw : ∀ k : Nat, k < 5 → grpV (kw k) = some (.int (grp k)) := by decide +kernel
theorem grp_lt (k : Nat) : grp k < 4 := by unfold grp; split <;> decide
structure TxtF (w : World) (K : PySem.W.Frag) (mg : Str → Option Value) (G sg : Addr) : Prop where
  len : mg "len" = none
  en : mg "enumerate" = none
  lst : mg "list" = none
  set : mg "set" = none
  mp : ∃ t, mg "MOST_PARAMETERS" = some (.int 24 t)
  mb : ∃ t, mg "MOST_BARS" = some (.int 60 t)
  mgr : mg "GROUPS" = some (.ref G)
  gt : KTab w K G grpV
  ms : mg "SINGLE_GROUPS" = some (.ref sg)
  hs : ∀ H, SqT K H sg [.int 1, .int 3]
def Cs5 (c : C5) : Addr → Prop := fun C => ∃ k, k < 5 ∧ C = c.at k
def spMany (K : PySem.W.Frag) : Sp := fun vs H Q _ => ∃ (a b : Addr) (xs ys : List V), vs = [.ref a, .ref b] ∧ SqL K H a xs ∧ SqL K H b ys ∧ xs.length ≤ 24 ∧ ys.length ≤ 60 ∧ Q .non H
def spOrd (c : C5) : Sp := fun vs H Q _ => ∃ (a : Addr) (ps : List Addr) (rows : List Rw), vs = [.ref a] ∧ H a = some (.lst (ps.map V.ref)) ∧ Paired (PAt c H) ps rows ∧ (∀ r ∈ rows, r.ok) ∧ ordOk 0 rows = true ∧ ∀ H', Same H H' → Q .non H'
def spRB : Sp := fun vs H Q _ => ∃ (b : Addr) (bars : List Str), vs = [.ref b] ∧ H b = some (.lst (bars.map V.str)) ∧ (∀ z ∈ bars, nameB z = true) ∧ ∀ H', Same H H' → Q .non H'
def spTw (c : C5) : Sp := fun vs H Q _ => ∃ (a b : Addr) (ps : List Addr) (rows : List Rw) (bars : List Str), vs = [.ref a, .ref b] ∧ H a = some (.lst (ps.map V.ref)) ∧ Paired (PAt c H) ps rows ∧ (∀ r ∈ rows, r.ok) ∧ rows.length ≤ 500 ∧ H b = some (.lst (bars.map V.str)) ∧ bars.length ≤ 500 ∧ (nms rows ++ bars).Nodup ∧ ∀ H', Same H H' → Q .non H'
def spNW (c : C5) : Sp := fun vs H Q _ => ∃ (a : Addr) (ps : List Addr) (rows : List Rw) (kk : Nat), vs = [.ref a, .str (kw kk)] ∧ kk < 5 ∧ H a = some (.lst (ps.map V.ref)) ∧ Paired (PAt c H) ps rows ∧ (∀ r ∈ rows, r.ok) ∧ ∀ H', Same H H' → Q (numV (firstK kk 0 rows)) H'
theorem kw_inj : ∀ i : Nat, i < 5 → ∀ k : Nat, k < 5 → decide (V.str (kw k) = V.str (kw i)) = (k == i) := by decide +kernel
theorem drop_at {α : Type} {xs : List α} {i : Nat} {x : α} (h : xs[i]? = some x) : xs.drop i = x :: xs.drop (i + 1) := by
  have hi : i < xs.length := (List.getElem?_eq_some_iff.mp h).1
  rw [List.drop_eq_getElem_cons hi]
  rw [List.getElem?_eq_getElem hi] at h
  rw [Option.some.inj h]
theorem refs_at {ps : List Addr} {i : Nat} {x : V} (h : (ps.map V.ref)[i]? = some x) : ∃ p, ps[i]? = some p ∧ x = .ref p := by
  rw [List.getElem?_map] at h
  cases e : ps[i]? with
  | none => rw [e] at h; cases h
  | some p => rw [e] at h; exact ⟨p, rfl, (Option.some.inj h).symm⟩
theorem strs_at {zs : List Str} {i : Nat} {x : V} (h : (zs.map V.str)[i]? = some x) : ∃ z, zs[i]? = some z ∧ x = .str z := by
  rw [List.getElem?_map] at h
  cases e : zs[i]? with
  | none => rw [e] at h; cases h
  | some p => rw [e] at h; exact ⟨p, rfl, (Option.some.inj h).symm⟩
section
variable {P : Program} {w : World} {K : PySem.W.Frag} {mg : Str → Option Value} {base : Heap} {f G sg : Addr} {fd : FuncData} {c : C5} {m : MA}
/-- what the five classes have -/
def Pcs (K : PySem.W.Frag) (m : MA) (c : C5) : Prop := ∀ k, k < 5 → PC K m (c.at k)
theorem scRMany : FnScope ["parameters", "bars"] ["parameters", "bars"] (defScope sRMany) := ⟨rfl, rfl, rfl, by decide +kernel, rfl, by decide +kernel, by decide +kernel⟩
theorem ok_many (F : Fun K "refuse_too_many" "refuse_too_many" sRMany f fd) (T : TxtF w K mg G sg) : FnOk P w K mg base CX0 1 f fd ["parameters", "bars"] (spMany K) := by
  refine F.ok scRMany (fun vs H Q E h => ?_) (fun cdv A outer s H vs Q E hr h => ?_)
  · obtain ⟨a, b, xs, ys, rfl, _⟩ := h
    rfl
  obtain ⟨a, b, xs, ys, rfl, ha, hb, l1, l2, q⟩ := h
  obtain ⟨t1, m1⟩ := T.mp
  obtain ⟨t2, m2⟩ := T.mb
  refine ⟨_, pss_cons (ps_if (pt_cmpR op_gt (cB call_len_seq T.len PySem.boot_len (ac (pv 0) pa_nil)) (pe_glob (v := .int 24) rfl m1 ⟨_, rfl⟩) (nomark _)) (pss_one ps_dead) pss_nil)
    (pss_one (ps_if (pt_cmpR op_gt (cB call_len_seq T.len PySem.boot_len (ac (pv 1) pa_nil)) (pe_glob (v := .int 60) rfl m2 ⟨_, rfl⟩) (nomark _)) (pss_one ps_dead) pss_nil)), ?_⟩
  refine ⟨_, rfl, a, _, rfl, .inl ha, _, _, rfl, rfl, _, rfl, ?_⟩
  refine dF (by show ¬ (24 : Int) < (xs.length : Int); omega) ?_
  refine ⟨_, rfl, b, _, rfl, .inl hb, _, _, rfl, rfl, _, rfl, ?_⟩
  exact dF (by show ¬ (60 : Int) < (ys.length : Int); omega) q
theorem scROrder : FnScope ["parameters", "last", "at", "parameter", "group"] ["parameters"] (defScope sROrder) := ⟨rfl, rfl, rfl, by decide +kernel, rfl, by decide +kernel, by decide +kernel⟩
theorem ok_order (F : Fun K "refuse_bad_order" "refuse_bad_order" sROrder f fd) (T : TxtF w K mg G sg) (PP : Pcs K m c) : FnOk P w K mg base CX0 1 f fd ["parameters"] (spOrd c) := by
  refine F.ok scROrder (fun vs H Q E h => ?_) (fun cdv A outer s H vs Q E hr h => ?_)
  · obtain ⟨a, ps, rows, rfl, _⟩ := h
    rfl
  obtain ⟨a, ps, rows, rfl, ha, hp, hok, ho, q⟩ := h
  refine ⟨_, pss_cons (ps_set (i := 1) scROrder.nd rfl (Or.inl rfl) pe_int)
    (pss_one (ps_for PassesOwn.never rfl (pi_enum rfl T.en (ac (pv 0) pa_nil)) (pg_tup rfl (pgs_cons (pg_name (i := 2) scROrder.nd rfl (Or.inl rfl)) (pgs_cons (pg_name (i := 3) scROrder.nd rfl (Or.inl rfl)) pgs_nil)))
      (pss_cons (ps_set (i := 4) scROrder.nd rfl (Or.inl rfl) (pe_kget T.gt T.mgr (pe_fld (pv 3) rfl)))
      (pss_cons (ps_if (PW.pt (pw_or (pt_cmpR op_lt (pv 4) (pv 1) (nomark _)) (pw_or1 (PW.pt (pw_and (pt_cmpR op_eq (pv 4) (pv 1) (nomark _)) (pw_and1 (pt_cmpR op_in_seq (pv 4) (pe_glob (v := .ref sg) rfl T.ms rfl) (by with_unfolding_all rfl)))))))) (pss_one ps_dead) pss_nil)
      (pss_one (ps_set (i := 1) scROrder.nd rfl (Or.inl rfl) (pv 4))))))), ?_⟩
  show tSeq _ _ _ _ _
  refine ⟨_, rfl, a, rfl, ⟨_, SqL.of ha⟩, for_enum (K := K) (a := a) (xs := ps.map V.ref) (fun i σ H' => ∃ (l : Nat) (v2 v3 v4 : Option V), σ = [some (.ref a), some (.int (l : Nat)), v2, v3, v4] ∧ Same H H' ∧ ordOk l (rows.drop i) = true)
    ⟨0, _, _, _, rfl, Same.refl _, ho⟩ (fun i σ H' _ ⟨_, _, _, _, _, sH, _⟩ => SqL.of (sH _ _ ha)) ?_ ?_⟩
  · rintro i x p σ H' hx ⟨l, v2, v3, v4, rfl, sH, hl⟩ hpn
    obtain ⟨pa, hpa, rfl⟩ := refs_at hx
    obtain ⟨r, hr', dx, hdx⟩ := paired_at hp hpa
    have rok := hok r (List.mem_of_getElem? hr')
    have C := PP r.k rok.1
    rw [drop_at hr'] at hl
    have hl' : (!badAt l (grp r.k) && ordOk (grp r.k) (rows.drop (i + 1))) = true := hl
    rw [Bool.and_eq_true, Bool.not_eq_true'] at hl'
    obtain ⟨hb, hl2⟩ := hl'
    have hb' : (decide (grp r.k < l) || (grp r.k == l && (grp r.k == 1 || grp r.k == 3))) = false := hb
    rw [Bool.or_eq_false_iff] at hb'
    have sp := same_new hpn (.tup [.int (i : Nat), .ref pa])
    refine ⟨p, _, rfl, SqT.of upd_same, rfl, _, _, rfl, _, _, rfl, rfl, ?_⟩
    refine ⟨_, rfl, pa, _, dx, _, _, rfl, sp _ _ (sH _ _ hdx), C.cl, C.nW, pf_word, kw r.k, .int (grp r.k), rfl, grpV_kw r.k rok.1, ?_⟩
    refine ⟨_, rfl, _, rfl, _, _, rfl, rfl, _, rfl, ?_⟩
    refine dF (fun z => by have := of_decide_eq_false hb'.1; omega) ?_
    have fin : ∃ (l' : Nat) (v2 v3 v4 : Option V), ([some (.ref a), some (.int (grp r.k : Nat)), some (.int (i : Nat)), some (.ref pa), some (.int (grp r.k : Nat))] : L2.St) = [some (.ref a), some (.int (l' : Nat)), v2, v3, v4] ∧ Same H (upd H' p (.tup [.int (i : Nat), .ref pa])) ∧ ordOk l' (rows.drop (i + 1)) = true :=
      ⟨grp r.k, _, _, _, rfl, sH.trans sp, hl2⟩
    refine ⟨_, rfl, _, rfl, rfl, _, rfl, ?_⟩
    by_cases e : grp r.k = l
    · refine dT (by rw [e]) ?_
      refine ⟨_, rfl, sg, _, rfl, .inr (T.hs _), rfl, (by decide), _, rfl, ?_⟩
      have h13 : (grp r.k == 1 || grp r.k == 3) = false := by
        have := hb'.2
        rw [e] at this ⊢
        simpa using this
      have hin : inV (.int (grp r.k : Nat)) [.int 1, .int 3] = false := by
        have g4 := grp_lt r.k
        have : ∀ g : Nat, g < 4 → (g == 1 || g == 3) = false → inV (.int (g : Nat)) [.int 1, .int 3] = false := by decide +kernel
        exact this _ g4 h13
      rw [show (if false = true then !inV (V.int ((grp r.k : Nat) : Int)) [V.int 1, V.int 3] else inV (V.int ((grp r.k : Nat) : Int)) [V.int 1, V.int 3]) = false from hin]
      refine iteF ?_
      exact ⟨_, rfl, fin⟩
    · refine dF (fun z => e (by have := V.int.inj z; omega)) ?_
      exact ⟨_, rfl, fin⟩
  · rintro σ H' ⟨l, v2, v3, v4, rfl, sH, _⟩
    exact q _ sH
end
end K42

set_option Elab.async false
set_option linter.all false
set_option maxRecDepth 100000
set_option maxHeartbeats 4000000
namespace L2
open PySem PySem.Spec PyProof.Rows
theorem pe_fldK {X : Cx} {K : PySem.W.Frag} {e : Expr} {f : Str} {pos : Pos} {ta : TE} (hK : X.K = K) (he : PE X e ta) (hb : attributeBase e f X.env (eval e X.env) = eval e X.env) : PE X (.Attribute e f pos) (tFld K ta f) := hK ▸ pe_fld he hb
end L2
namespace K42
open PySem L2 PyProof.Rows
theorem le1000 {n : Nat} (h : n ≤ 1000) : n ≤ sizeLine := Nat.le_of_lt (small1000 h)
theorem nm_take {rows : List Rw} {i : Nat} {r : Rw} (h : rows[i]? = some r) : nms (rows.take (i + 1)) = nms (rows.take i) ++ (if byNm r.k = true then [r.z] else []) := by
  have hi : i < rows.length := (List.getElem?_eq_some_iff.mp h).1
  have e : rows[i] = r := by rw [List.getElem?_eq_getElem hi] at h; exact Option.some.inj h
  unfold nms
  rw [List.take_succ_eq_append_getElem hi, List.filter_append, List.map_append, e]
  cases hb : byNm r.k <;> simp [hb]
section
variable {P : Program} {w : World} {K : PySem.W.Frag} {mg : Str → Option Value} {base : Heap} {f G sg : Addr} {fd : FuncData} {c : C5} {m : MA}
theorem scNumW : FnScope ["parameters", "word", "at", "parameter"] ["parameters", "word"] (defScope sNumW) := ⟨rfl, rfl, rfl, by decide +kernel, rfl, by decide +kernel, by decide +kernel⟩
theorem ok_numw (F : Fun K "number_of_word" "number_of_word" sNumW f fd) (T : TxtF w K mg G sg) (PP : Pcs K m c) : FnOk P w K mg base CX0 1 f fd ["parameters", "word"] (spNW c) := by
  refine F.ok scNumW (fun vs H Q E h => ?_) (fun cdv A outer s H vs Q E hr h => ?_)
  · obtain ⟨a, ps, rows, kk, rfl, _⟩ := h
    rfl
  obtain ⟨a, ps, rows, kk, rfl, hkk, ha, hp, hok, q⟩ := h
  refine ⟨_, pss_cons (ps_for PassesOwn.never rfl (pi_enum rfl T.en (ac (pv 0) pa_nil)) (pg_tup rfl (pgs_cons (pg_name (i := 2) scNumW.nd rfl (Or.inl rfl)) (pgs_cons (pg_name (i := 3) scNumW.nd rfl (Or.inl rfl)) pgs_nil)))
      (pss_one (ps_if (pt_cmpR op_eq (pe_fld (pv 3) rfl) (pv 1) (nomark _)) (pss_one (ps_ret (pv 2))) pss_nil))) (pss_one (ps_ret pe_non)), ?_⟩
  refine ⟨_, rfl, a, rfl, ⟨_, SqL.of ha⟩, for_enum (K := K) (a := a) (xs := ps.map V.ref) (fun i σ H' => ∃ (v2 v3 : Option V), σ = [some (.ref a), some (.str (kw kk)), v2, v3] ∧ Same H H' ∧ firstK kk i (rows.drop i) = firstK kk 0 rows)
    ⟨_, _, rfl, Same.refl _, rfl⟩ (fun i σ H' _ ⟨_, _, _, sH, _⟩ => SqL.of (sH _ _ ha)) ?_ ?_⟩
  · rintro i x p σ H' hx ⟨v2, v3, rfl, sH, hl⟩ hpn
    obtain ⟨pa, hpa, rfl⟩ := refs_at hx
    obtain ⟨r, hr', dx, hdx⟩ := paired_at hp hpa
    have rok := hok r (List.mem_of_getElem? hr')
    have C := PP r.k rok.1
    rw [drop_at hr'] at hl
    have hl' : (if r.k = kk then some i else firstK kk (i + 1) (rows.drop (i + 1))) = firstK kk 0 rows := hl
    have sp := same_new hpn (.tup [.int (i : Nat), .ref pa])
    refine ⟨p, _, rfl, SqT.of upd_same, rfl, _, _, rfl, _, _, rfl, rfl, ?_⟩
    refine ⟨_, rfl, pa, _, dx, _, _, rfl, sp _ _ (sH _ _ hdx), C.cl, C.nW, pf_word, _, rfl, rfl, _, rfl, ?_⟩
    by_cases e : r.k = kk
    · refine dT (by rw [e]) ?_
      rw [if_pos e] at hl'
      refine ⟨_, rfl, ?_⟩
      have := q _ (sH.trans sp)
      rw [← hl'] at this
      exact this
    · refine dF (fun z => ?_) ?_
      · have h1 := kw_inj kk hkk r.k rok.1
        rw [decide_eq_true z] at h1
        exact e (by simpa using h1.symm)
      · rw [if_neg e] at hl'
        exact ⟨_, _, rfl, sH.trans sp, hl'⟩
  · rintro σ H' ⟨v2, v3, rfl, sH, hl⟩
    have e : firstK kk 0 rows = none := by
      rw [← hl, List.length_map, hp.length, List.drop_length]
      rfl
    have := q _ sH
    rw [e] at this
    exact this
theorem scRBars : FnScope ["bars", "bar"] ["bars"] (defScope sRBars) := ⟨rfl, rfl, rfl, by decide +kernel, rfl, by decide +kernel, by decide +kernel⟩
theorem ok_rbars {g : Addr} {gd : FuncData} (F : Fun K "refuse_bars_without_name" "refuse_bars_without_name" sRBars f fd) (cI : Callee P w K mg base 1 "is_name" g gd ["thing"] (spIs K)) : FnOk P w K mg base CX0 2 f fd ["bars"] spRB := by
  refine F.ok scRBars (fun vs H Q E h => ?_) (fun cdv A outer s H vs Q E hr h => ?_)
  · obtain ⟨b, bars, rfl, _⟩ := h
    rfl
  obtain ⟨b, bars, rfl, hb, hn, q⟩ := h
  refine ⟨_, pss_one (ps_for PassesOwn.never rfl (pi_list (pv 0)) (pg_name (i := 1) scRBars.nd rfl (Or.inl rfl)) (pss_one (ps_if (pt_not (pt_val (cF cI hr (ac (pv 1) pa_nil)))) (pss_one ps_dead) pss_nil))), ?_⟩
  refine ⟨_, rfl, b, rfl, ⟨_, SqL.of hb⟩, for_list (K := K) (a := b) (xs := bars.map V.str) (fun i σ H' => ∃ v1, σ = [some (.ref b), v1] ∧ Same H H') ⟨_, rfl, Same.refl _⟩ (fun i σ H' _ ⟨_, _, sH⟩ => SqL.of (sH _ _ hb)) ?_ ?_⟩
  · rintro i x σ H' hx ⟨v1, rfl, sH⟩
    obtain ⟨z, hz, rfl⟩ := strs_at hx
    have nz := hn z (List.mem_of_getElem? hz)
    refine ⟨_, rfl, _, rfl, .inl ⟨z, rfl, nameB_ok nz⟩, fun H2 s2 => ⟨_, rfl, ?_⟩⟩
    rw [show nmV (.str z) = true from nz]
    refine iteF ?_
    exact ⟨_, rfl, sH.trans s2⟩
  · rintro σ H' ⟨v1, rfl, sH⟩
    exact q _ sH
theorem ndPm : ([Str.ofString "parameter"] : List Str).Nodup := by decide +kernel
theorem scRTwice : FnScope ["parameters", "bars", "seen", "name"] ["parameters", "bars"] (defScope sRTwice) := ⟨rfl, rfl, rfl, by decide +kernel, rfl, by decide +kernel, by decide +kernel⟩
theorem ok_twice {gd : FuncData} (F : Fun K "refuse_twice" "refuse_twice" sRTwice f fd) (T : TxtF w K mg G sg) (PP : Pcs K m c) (GB : FnOk P w K mg base CX0 1 m.fB gd ["self"] (spIn K m bnL)) (bB : Binds K gd ["self"] []) : FnOk P w K mg base CX0 2 f fd ["parameters", "bars"] (spTw c) := by
  refine F.ok scRTwice (fun vs H Q E h => ?_) (fun cdv A outer s H vs Q E hr h => ?_)
  · obtain ⟨a, b, ps, rows, bars, rfl, _⟩ := h
    rfl
  obtain ⟨a, b, ps, rows, bars, rfl, ha, hp, hok, l1, hb, l2, nd, q⟩ := h
  have hC : ∀ C, Cs5 c C → Cls K C ∧ Meth K C "by_name" m.fB := fun C ⟨k, hk, e⟩ => by rw [e]; exact ⟨(PP k hk).cl, (PP k hk).mB⟩
  refine ⟨_, pss_cons (ps_set (i := 2) scRTwice.nd rfl (Or.inl rfl) (pe_callTy0 call_set0 rfl T.set (by decide +kernel : bootBuiltins "set" = some (.type "set"))))
    (pss_one (ps_for PassesOwn.never rfl (pi_list (pe_op op_cat (pe_lc [] ["parameter"] [none] rfl ⟨rfl, rfl, rfl, rfl⟩ (pi_list (pv 0)) (gown_name 0) rfl rfl rfl
        (fun pins fp s H C => ⟨pg_name (i := 0) ndPm rfl (Or.inl rfl) (.inr rfl), pif_one (pt_val (pe_methP (pv 0) hC GB hr bB pass0)), pe_fldK (K := K) rfl (pv 0) rfl⟩)) (cTy call_list_of T.lst PyProof.Rows.boot_list (ac (pv 1) pa_nil)))) (pg_name (i := 3) scRTwice.nd rfl (Or.inl rfl))
      (pss_cons (ps_if (pt_cmpR op_in_setT (pv 3) (pv 2) (by with_unfolding_all rfl)) (pss_one ps_dead) pss_nil)
      (pss_one (ps_expr (pe_sadd (pv 2) (pv 3) ⟨rfl, rfl, rfl, rfl⟩)))))), ?_⟩
  refine ⟨rfl, fun se hse => ?_⟩
  have s1 : Same H (upd H se (setO P w se (fun _ => false) 0)) := same_new hse _
  have g1 : upd H se (setO P w se (fun _ => false) 0) se = some (setO P w se (fun _ => false) 0) := upd_same
  show tSeq _ _ _ _ (upd H se (setO P w se (fun _ => false) 0))
  generalize upd H se (setO P w se (fun _ => false) 0) = H1 at s1 g1 ⊢
  have ha1 := s1 _ _ ha
  have hp1 := pats_same s1 hp
  refine ⟨_, rfl, a, rfl, ⟨_, SqL.of ha1⟩, fun D hD => ?_⟩
  refine lc_list (K := K) (xs := ps.map V.ref) (fun i ys H' => Same H1 H' ∧ H' D = some (.lst ys) ∧ ys = (nms (rows.take i)).map V.str) ⟨same_new hD _, upd_same, rfl⟩ (fun i ys H' h => SqL.of (h.1 _ _ ha1)) ?_ ?_
  · rintro i x ys H' hlt hx ⟨sH, hDy, ey⟩
    obtain ⟨pa, hpa, rfl⟩ := refs_at hx
    obtain ⟨r, hr', dx, hdx⟩ := paired_at hp1 hpa
    have rok := hok r (List.mem_of_getElem? hr')
    have C := PP r.k rok.1
    have nl : ys.length ≤ i := by
      rw [ey, List.length_map]
      unfold nms
      rw [List.length_map]
      refine Nat.le_trans (List.length_filter_le _ _) ?_
      rw [List.length_take]
      omega
    have hd2 := sH _ _ hdx
    refine ⟨_, rfl, pa, _, dx, _, rfl, ⟨r.k, rok.1, rfl⟩, hd2, pf_no (by decide +kernel) (by decide +kernel) (by decide +kernel), pa, dx, _, _, _, _, rfl, C, hd2, _, rfl, ?_⟩
    rw [in_nm r.k rok.1]
    have tk := nm_take hr'
    refine ⟨fun e => ?_, fun e => ?_⟩
    · rw [e, if_pos rfl] at tk
      refine ⟨_, rfl, pa, _, dx, _, _, rfl, hd2, C.cl, C.nN, pf_name, ?_⟩
      refine lcN.mk hlt (le1000 (by rw [List.length_map, hp.length]; omega)) hDy nl ⟨fun b u e => ?_, upd_same, ?_⟩
      · rw [upd_ne (ne_of_none e hD)]
        exact sH b u e
      · rw [ey, tk, List.map_append]
        rfl
    · rw [e, if_neg Bool.false_ne_true, List.append_nil] at tk
      exact lcS.mk hlt ⟨sH, hDy, by rw [ey, tk]⟩
  rintro ys H2 ⟨s2, hDy, ey⟩
  have ey : ys = (nms rows).map V.str := by
    rw [ey, List.length_map, hp.length, List.take_length]
  subst ey
  have hb2 := s2 _ _ (s1 _ _ hb)
  refine ⟨_, rfl, b, _, rfl, .inl (SqL.of hb2), fun l hl => ?_⟩
  have s3 := same_new hl (.lst (bars.map V.str))
  have g3 : upd H2 l (.lst (bars.map V.str)) l = some (.lst (bars.map V.str)) := upd_same
  generalize upd H2 l (.lst (bars.map V.str)) = H3 at s3 g3 ⊢
  have ln : (nms rows).length ≤ 500 := by
    unfold nms
    rw [List.length_map]
    exact Nat.le_trans (List.length_filter_le _ _) l1
  refine ⟨D, l, _, _, rfl, rfl, s3 _ _ hDy, g3, le1000 (by rw [List.length_map, List.length_map]; omega), fun l4 hl4 => ?_⟩
  rw [← List.map_append]
  have s4 := same_new hl4 (.lst ((nms rows ++ bars).map V.str))
  have g4 : upd H3 l4 (.lst ((nms rows ++ bars).map V.str)) l4 = some (.lst ((nms rows ++ bars).map V.str)) := upd_same
  have nse : l4 ≠ se := fun z => by
    rw [z] at hl4
    rw [s3 _ _ (s2 _ _ g1)] at hl4
    cases hl4
  generalize upd H3 l4 (.lst ((nms rows ++ bars).map V.str)) = H4 at s4 g4 ⊢
  have sA : Same H1 H4 := s2.trans (s3.trans s4)
  have gse := sA _ _ g1
  refine ⟨l4, rfl, ⟨_, SqL.of g4⟩, for_list (K := K) (a := l4) (xs := (nms rows ++ bars).map V.str) (fun i σ H' => ∃ (S : Str → Bool) (n : Nat) (v3 : Option V), σ = [some (.ref a), some (.ref b), some (.ref se), v3] ∧ H' se = some (setO P w se S n) ∧ (∀ z, S z = decide (z ∈ (nms rows ++ bars).take i)) ∧ n ≤ i ∧ (∀ b' u, H4 b' = some u → b' ≠ se → H' b' = some u))
    ⟨_, 0, _, rfl, gse, fun z => by simp, Nat.le_refl _, fun b' u e _ => e⟩ (fun i σ H' _ ⟨_, _, _, _, _, _, _, k⟩ => SqL.of (k _ _ g4 nse)) ?_ ?_⟩
  · rintro i x σ H' hx ⟨S, n, v3, rfl, hS, hSz, hn, k⟩
    obtain ⟨z, hz, rfl⟩ := strs_at hx
    have hi : i < (nms rows ++ bars).length := (List.getElem?_eq_some_iff.mp hz).1
    have ez : (nms rows ++ bars)[i] = z := by rw [List.getElem?_eq_getElem hi] at hz; exact Option.some.inj hz
    have nz : S z = false := by
      rw [hSz, decide_eq_false_iff_not]
      intro hm
      obtain ⟨j, hj, ej⟩ := List.mem_take_iff_getElem.mp hm
      have := List.pairwise_iff_getElem.mp nd j i (by omega) hi (by omega)
      exact this (ej.trans ez.symm)
    refine ⟨_, rfl, _, rfl, se, S, n, z, rfl, rfl, hS, _, rfl, ?_⟩
    rw [nz]
    refine iteF ?_
    refine ⟨_, rfl, se, S, n, rfl, hS, _, rfl, S, n, z, rfl, hS, ?_, ?_⟩
    · rw [List.length_append] at hi
      show n + 1 < 4096
      omega
    · refine ⟨_, _, _, rfl, upd_same, fun y => ?_, ?_, fun b' u e ne => ?_⟩
      · rw [hSz y, List.take_succ_eq_append_getElem hi, ez]
        simp [List.mem_append]
      · rw [nz]
        show n + 1 ≤ i + 1
        omega
      · rw [upd_ne ne]
        exact k b' u e ne
  · rintro σ H' ⟨S, n, v3, rfl, hS, hSz, hn, k⟩
    refine q _ fun b' u e => k b' u (sA _ _ (s1 _ _ e)) fun z => ?_
    rw [z, hse] at e
    cases e
end
end K42

set_option Elab.async false
set_option linter.all false
set_option maxRecDepth 100000
set_option maxHeartbeats 4000000
namespace K42
open PySem L2 PyProof.Rows
def SX (f : Addr) (H H' : Hp) : Prop := ∀ b u, H b = some u → b ≠ f → H' b = some u
theorem SX.same {f : Addr} {H H1 H2 : Hp} (x : SX f H H1) (s : Same H1 H2) : SX f H H2 := fun b u e n => s b u (x b u e n)
theorem SX.upd {f : Addr} {H H1 : Hp} {o : HO} (x : SX f H H1) : SX f H (upd H1 f o) := fun b u e n => by rw [upd_ne n]; exact x b u e n
theorem SX.refl {f : Addr} {H : Hp} : SX f H H := fun _ _ e _ => e
theorem putF_le (f : Str) (v : V) : ∀ fs : List (Str × V), (putF f v fs).length ≤ fs.length + 1
  | [] => Nat.le_refl _
  | (g, x) :: r => by
    show (if g = f then (g, v) :: r else (g, x) :: putF f v r).length ≤ _
    split
    · simp
    · have := putF_le f v r
      simp only [List.length_cons]
      omega
def Pre (fs : List (Str × V)) : Prop := fs.length ≤ 50 ∧ ∀ m, m ∉ attrs → fs.lookup m = none
structure FC (K : PySem.W.Frag) (CF : Addr) : Prop where
  cl : Cls K CF
  n1 : NoAttr K CF "row"
  n2 : NoAttr K CF "bar_names"
  n3 : NoAttr K CF "place_count"
  n4 : NoAttr K CF "tail_number"
  n5 : NoAttr K CF "bag_number"
  n6 : NoAttr K CF "doors"
def spKeep (c : C5) (CF : Addr) : Sp := fun vs H Q _ => ∃ (f a b dx : Addr) (fs : List (Str × V)) (ps : List Addr) (rows : List Rw) (bars : List Str), vs = [.ref f, .ref a, .ref b] ∧ H f = some (.ins CF dx fs) ∧ Pre fs ∧ H a = some (.lst (ps.map V.ref)) ∧ Paired (PAt c H) ps rows ∧ (∀ r ∈ rows, r.ok) ∧ rows.length ≤ 500 ∧ H b = some (.lst (bars.map V.str)) ∧
  ∀ H', SX f H H' → FormN c CF H H' f rows bars → (∃ dx' fs', H' f = some (.ins CF dx' fs') ∧ fs'.length ≤ fs.length + 6) → Q .non H'
theorem pl_take {rows : List Rw} {i : Nat} {r : Rw} (h : rows[i]? = some r) : plN (rows.take (i + 1)) = plN (rows.take i) + (if byPl r.k = true then 1 else 0) := by
  have hi : i < rows.length := (List.getElem?_eq_some_iff.mp h).1
  have e : rows[i] = r := by rw [List.getElem?_eq_getElem hi] at h; exact Option.some.inj h
  unfold plN
  rw [List.take_succ_eq_append_getElem hi, List.filter_append, List.length_append, e]
  cases hb : byPl r.k <;> simp [hb]
theorem doors_len : ∀ (rows : List Rw) (i : Nat) (acc : List (Key × V)), (doorsF i acc rows).length ≤ acc.length + rows.length
  | [], _, _ => Nat.le_refl _
  | r :: rs, i, acc => by
    have h := doors_len rs (i + 1) (if byNm r.k = true then putK acc (.inr r.z) (.int i) else acc)
    have h2 : (if byNm r.k = true then putK acc (.inr r.z) (.int i) else acc).length ≤ acc.length + 1 := by
      split
      · exact length_putK acc _ _
      · omega
    show (doorsF (i + 1) _ rs).length ≤ acc.length + (rs.length + 1)
    omega
theorem doorsF_take {r : Rw} : ∀ (rows : List Rw) (j i : Nat) (acc : List (Key × V)), rows[i]? = some r → doorsF j acc (rows.take (i + 1)) = (if byNm r.k = true then putK (doorsF j acc (rows.take i)) (.inr r.z) (.int (j + i : Nat)) else doorsF j acc (rows.take i))
  | [], _, _, _, h => by simp at h
  | r0 :: rs, j, 0, acc, h => by
    have e : r0 = r := by simpa using h
    subst e
    show (if byNm r0.k = true then putK acc (.inr r0.z) (.int j) else acc) = _
    rfl
  | r0 :: rs, j, i + 1, acc, h => by
    have := doorsF_take rs (j + 1) i (if byNm r0.k = true then putK acc (.inr r0.z) (.int j) else acc) (by simpa using h)
    show doorsF (j + 1) _ (rs.take (i + 1)) = _
    rw [this, show j + 1 + i = j + (i + 1) by omega]
    rfl
section
variable {P : Program} {w : World} {K : PySem.W.Frag} {mg : Str → Option Value} {base : Heap} {f G sg CF : Addr} {fd : FuncData} {c : C5} {m : MA}
theorem PAt.ne {H : Hp} {p f CF dx : Addr} {r : Rw} {fs : List (Str × V)} (h : PAt c H p r) (e : H f = some (.ins CF dx fs)) (n : fs.lookup ("word" : Str) = none) : p ≠ f := fun z => by
  obtain ⟨d, h⟩ := h
  rw [z, e] at h
  injection h with h
  injection h with h1 h2 h3
  rw [h3, pf_word] at n
  cases n
theorem pats_sx {H H' : Hp} {f CF dx : Addr} {fs : List (Str × V)} (e : H f = some (.ins CF dx fs)) (n : fs.lookup ("word" : Str) = none) (x : SX f H H') {ps : List Addr} {rows : List Rw} (h : Paired (PAt c H) ps rows) : Paired (PAt c H') ps rows :=
  Paired.imp' (fun _ _ z => by
    have ne := z.ne e n
    obtain ⟨d, q⟩ := z
    exact ⟨d, x _ _ q ne⟩) h
theorem ndAP : ([Str.ofString "at", Str.ofString "parameter"] : List Str).Nodup := by decide +kernel
theorem scKeep : FnScope ["self", "parameters", "bars"] ["self", "parameters", "bars"] (defScope sKeep) := ⟨rfl, rfl, rfl, by decide +kernel, rfl, by decide +kernel, by decide +kernel⟩
theorem ok_keep {g : Addr} {gd gp gb : FuncData} (F : Fun K "keep" "Form.keep" sKeep f fd) (T : TxtF w K mg G sg) (PP : Pcs K m c) (FK : FC K CF) (cW : Callee P w K mg base 1 "number_of_word" g gd ["parameters", "word"] (spNW c))
    (GP : FnOk P w K mg base CX0 1 m.fP gp ["self"] (spIn K m bpL)) (bP : Binds K gp ["self"] []) (GB : FnOk P w K mg base CX0 1 m.fB gb ["self"] (spIn K m bnL)) (bB : Binds K gb ["self"] []) : FnOk P w K mg base CX0 2 f fd ["self", "parameters", "bars"] (spKeep c CF) := by
  refine F.ok scKeep (fun vs H Q E h => ?_) (fun cdv A outer s H vs Q E hr h => ?_)
  · obtain ⟨f, a, b, dx, fs, ps, rows, bars, rfl, _⟩ := h
    rfl
  obtain ⟨f, a, b, dx, fs, ps, rows, bars, rfl, hf, ⟨pl, pn⟩, ha, hp, hok, l5, hb, q⟩ := h
  have hP : ∀ C, Cs5 c C → Cls K C ∧ Meth K C "by_place" m.fP := fun C ⟨k, hk, e⟩ => by rw [e]; exact ⟨(PP k hk).cl, (PP k hk).mP⟩
  have hB : ∀ C, Cs5 c C → Cls K C ∧ Meth K C "by_name" m.fB := fun C ⟨k, hk, e⟩ => by rw [e]; exact ⟨(PP k hk).cl, (PP k hk).mB⟩
  have nw : fs.lookup ("word" : Str) = none := pn _ (by decide +kernel)
  refine ⟨_, pss_cons (ps_fld (pv 0) (cTy call_list_of T.lst PyProof.Rows.boot_list (ac (pv 1) pa_nil)) rfl)
    (pss_cons (ps_fld (pv 0) (cTy call_list_of T.lst PyProof.Rows.boot_list (ac (pv 2) pa_nil)) rfl)
    (pss_cons (ps_fld (pv 0) (cB call_len_seq T.len PySem.boot_len (ac (pe_lc [] ["parameter"] [none] rfl ⟨rfl, rfl, rfl, rfl⟩ (pi_list (pe_fld (pv 0) rfl)) (gown_name 0) rfl rfl rfl
        (fun pins fp s H C => ⟨pg_name (i := 0) ndPm rfl (Or.inl rfl) (.inr rfl), pif_one (pt_val (pe_methP (pv 0) hP GP hr bP pass0)), pv 0⟩)) pa_nil)) rfl)
    (pss_cons (ps_fld (pv 0) (cF cW hr (ac (pe_fld (pv 0) rfl) (ac pe_str pa_nil))) rfl)
    (pss_cons (ps_fld (pv 0) (cF cW hr (ac (pe_fld (pv 0) rfl) (ac pe_str pa_nil))) rfl)
    (pss_one (ps_fld (pv 0) (pe_dc [] ["at", "parameter"] [none, none] rfl ⟨rfl, rfl, rfl, rfl⟩ (pi_enum rfl T.en (ac (pe_fld (pv 0) rfl) pa_nil)) (gown_tup2 (K := K) (n := 2) 0 1) rfl rfl rfl
        (fun pins fp s H C => ⟨pg_tup rfl (pgs_cons (pg_name (i := 0) ndAP rfl (Or.inl rfl) (.inr rfl)) (pgs_cons (pg_name (i := 1) ndAP rfl (Or.inl rfl) (.inr rfl)) pgs_nil)), pif_one (pt_val (pe_methP (pv 1) hB GB hr bB pass0)), pe_fldK (K := K) rfl (pv 1) rfl, pv 0⟩)) rfl)))))), ?_⟩
  -- row
  refine ⟨_, rfl, a, _, rfl, .inl (SqL.of ha), fun l1 hl1 => ?_⟩
  have s1 := same_new hl1 (.lst (ps.map V.ref))
  refine ⟨_, rfl, f, CF, dx, fs, rfl, s1 _ _ hf, FK.cl, FK.n1, (by omega), ?_⟩
  have x1 : SX f H (upd (upd H l1 (.lst (ps.map V.ref))) f (.ins CF dx (putF "row" (.ref l1) fs))) := (SX.refl.same s1).upd
  have f1 : upd (upd H l1 (.lst (ps.map V.ref))) f (.ins CF dx (putF "row" (.ref l1) fs)) f = some (.ins CF dx (putF "row" (.ref l1) fs)) := upd_same
  have e1 : upd (upd H l1 (.lst (ps.map V.ref))) f (.ins CF dx (putF "row" (.ref l1) fs)) l1 = some (.lst (ps.map V.ref)) := by
    rw [upd_ne (fun z => by rw [z, hf] at hl1; cases hl1), upd_same]
  have p1 := putF_le "row" (.ref l1) fs
  have r1 : (putF "row" (.ref l1) fs).lookup ("row" : Str) = some (.ref l1) := by rw [lookup_putF, if_pos rfl]
  show tSeq _ _ _ _ (upd (upd H l1 (.lst (ps.map V.ref))) f (.ins CF dx (putF "row" (.ref l1) fs)))
  generalize upd (upd H l1 (.lst (ps.map V.ref))) f (.ins CF dx (putF "row" (.ref l1) fs)) = H1 at x1 f1 e1 ⊢
  have nbf : b ≠ f := ne_of hb hf (by intro z; cases z)
  -- bar_names
  refine ⟨_, rfl, b, _, rfl, .inl (SqL.of (x1 _ _ hb nbf)), fun l2 hl2 => ?_⟩
  have s2 := same_new hl2 (.lst (bars.map V.str))
  have hlb : H l2 = none := by
    cases e : H l2 with
    | none => rfl
    | some u => exact absurd (x1 _ _ e (fun z => by rw [z, f1] at hl2; cases hl2)) (by rw [hl2]; intro z; cases z)
  refine ⟨_, rfl, f, CF, dx, _, rfl, s2 _ _ f1, FK.cl, FK.n2, (by omega), ?_⟩
  have x2 : SX f H (upd (upd H1 l2 (.lst (bars.map V.str))) f (.ins CF dx (putF "bar_names" (.ref l2) (putF "row" (.ref l1) fs)))) := (x1.same s2).upd
  have f2 : upd (upd H1 l2 (.lst (bars.map V.str))) f (.ins CF dx (putF "bar_names" (.ref l2) (putF "row" (.ref l1) fs))) f = some (.ins CF dx (putF "bar_names" (.ref l2) (putF "row" (.ref l1) fs))) := upd_same
  have g2 : upd (upd H1 l2 (.lst (bars.map V.str))) f (.ins CF dx (putF "bar_names" (.ref l2) (putF "row" (.ref l1) fs))) l2 = some (.lst (bars.map V.str)) := by
    rw [upd_ne (fun z => by rw [z, f1] at hl2; cases hl2), upd_same]
  have e2 : upd (upd H1 l2 (.lst (bars.map V.str))) f (.ins CF dx (putF "bar_names" (.ref l2) (putF "row" (.ref l1) fs))) l1 = some (.lst (ps.map V.ref)) := by
    rw [upd_ne (ne_of e1 f1 (by intro z; cases z)), s2 _ _ e1]
  have p2 := putF_le "bar_names" (.ref l2) (putF "row" (.ref l1) fs)
  have r2 : (putF "bar_names" (.ref l2) (putF "row" (.ref l1) fs)).lookup ("row" : Str) = some (.ref l1) := by rw [lookup_putF, if_neg (by decide +kernel)]; exact r1
  show tSeq _ _ _ _ (upd (upd H1 l2 (.lst (bars.map V.str))) f (.ins CF dx (putF "bar_names" (.ref l2) (putF "row" (.ref l1) fs))))
  generalize hfs2 : putF "bar_names" (.ref l2) (putF "row" (.ref l1) fs) = fs2 at f2 e2 g2 p2 r2 x2 ⊢
  generalize upd (upd H1 l2 (.lst (bars.map V.str))) f (.ins CF dx fs2) = H2 at x2 f2 e2 g2 ⊢
  have hp2 := pats_sx hf nw x2 hp
  -- place_count
  refine ⟨_, rfl, f, CF, dx, _, _, rfl, f2, FK.cl, FK.n1, r2, l1, rfl, ⟨_, SqL.of e2⟩, fun D hD => ?_⟩
  refine lc_list (K := K) (xs := ps.map V.ref) (fun i ys H' => Same H2 H' ∧ H' D = some (.lst ys) ∧ ys.length = plN (rows.take i)) ⟨same_new hD _, upd_same, rfl⟩ (fun i ys H' h => SqL.of (h.1 _ _ e2)) ?_ ?_
  · rintro i x ys H' hlt hx ⟨sH, hDy, ey⟩
    obtain ⟨pa, hpa, rfl⟩ := refs_at hx
    obtain ⟨r, hr', dx', hdx⟩ := paired_at hp2 hpa
    have rok := hok r (List.mem_of_getElem? hr')
    have C := PP r.k rok.1
    have nl : ys.length ≤ i := by
      rw [ey]
      unfold plN
      refine Nat.le_trans (List.length_filter_le _ _) ?_
      rw [List.length_take]
      omega
    have hd2 := sH _ _ hdx
    refine ⟨_, rfl, pa, _, dx', _, rfl, ⟨r.k, rok.1, rfl⟩, hd2, pf_no (by decide +kernel) (by decide +kernel) (by decide +kernel), pa, dx', _, _, _, _, rfl, C, hd2, _, rfl, ?_⟩
    rw [in_pl r.k rok.1]
    have tk := pl_take hr'
    refine ⟨fun e => ?_, fun e => ?_⟩
    · rw [e, if_pos rfl] at tk
      refine ⟨_, rfl, lcN.mk hlt (le1000 (by rw [List.length_map, hp.length]; omega)) hDy nl ⟨fun b u e => ?_, upd_same, ?_⟩⟩
      · rw [upd_ne (ne_of_none e hD)]
        exact sH b u e
      · rw [List.length_append, ey, tk]
        rfl
    · rw [e, if_neg Bool.false_ne_true] at tk
      exact lcS.mk hlt ⟨sH, hDy, by rw [ey, tk]; rfl⟩
  rintro ys H3 ⟨s3, hDy, ey⟩
  rw [List.length_map, hp.length, List.take_length] at ey
  refine ⟨D, _, rfl, .inl (SqL.of hDy), ?_⟩
  rw [ey]
  have x3 := x2.same s3
  refine ⟨_, rfl, f, CF, dx, _, rfl, s3 _ _ f2, FK.cl, FK.n3, (by omega), ?_⟩
  have f3 : upd H3 f (.ins CF dx (putF "place_count" (.int (plN rows : Nat)) fs2)) f = some (.ins CF dx (putF "place_count" (.int (plN rows : Nat)) fs2)) := upd_same
  have x4 : SX f H (upd H3 f (.ins CF dx (putF "place_count" (.int (plN rows : Nat)) fs2))) := x3.upd
  have e4 : upd H3 f (.ins CF dx (putF "place_count" (.int (plN rows : Nat)) fs2)) l1 = some (.lst (ps.map V.ref)) := by rw [upd_ne (ne_of e2 f2 (by intro z; cases z))]; exact s3 _ _ e2
  have g4 : upd H3 f (.ins CF dx (putF "place_count" (.int (plN rows : Nat)) fs2)) l2 = some (.lst (bars.map V.str)) := by rw [upd_ne (ne_of g2 f2 (by intro z; cases z))]; exact s3 _ _ g2
  have p3 := putF_le "place_count" (.int (plN rows : Nat)) fs2
  have r3 : (putF "place_count" (.int (plN rows : Nat)) fs2).lookup ("row" : Str) = some (.ref l1) := by rw [lookup_putF, if_neg (by decide +kernel)]; exact r2
  show tSeq _ _ _ _ (upd H3 f (.ins CF dx (putF "place_count" (.int (plN rows : Nat)) fs2)))
  generalize hfs3 : putF "place_count" (.int (plN rows : Nat)) fs2 = fs3 at f3 x4 e4 g4 p3 r3 ⊢
  generalize upd H3 f (.ins CF dx fs3) = H4 at x4 f3 e4 g4 ⊢
  -- tail_number
  refine ⟨_, rfl, f, CF, dx, _, _, rfl, f3, FK.cl, FK.n1, r3, l1, ps, rows, 2, rfl, by decide, e4, pats_sx hf nw x4 hp, hok, fun H5 s5 => ?_⟩
  refine ⟨_, rfl, f, CF, dx, _, rfl, s5 _ _ f3, FK.cl, FK.n4, (by omega), ?_⟩
  have f5 : upd H5 f (.ins CF dx (putF "tail_number" (numV (firstK 2 0 rows)) fs3)) f = some (.ins CF dx (putF "tail_number" (numV (firstK 2 0 rows)) fs3)) := upd_same
  have x5 : SX f H (upd H5 f (.ins CF dx (putF "tail_number" (numV (firstK 2 0 rows)) fs3))) := (x4.same s5).upd
  have e5 : upd H5 f (.ins CF dx (putF "tail_number" (numV (firstK 2 0 rows)) fs3)) l1 = some (.lst (ps.map V.ref)) := by rw [upd_ne (ne_of e4 f3 (by intro z; cases z))]; exact s5 _ _ e4
  have g5 : upd H5 f (.ins CF dx (putF "tail_number" (numV (firstK 2 0 rows)) fs3)) l2 = some (.lst (bars.map V.str)) := by rw [upd_ne (ne_of g4 f3 (by intro z; cases z))]; exact s5 _ _ g4
  have p4 := putF_le "tail_number" (numV (firstK 2 0 rows)) fs3
  have r4 : (putF "tail_number" (numV (firstK 2 0 rows)) fs3).lookup ("row" : Str) = some (.ref l1) := by rw [lookup_putF, if_neg (by decide +kernel)]; exact r3
  show tSeq _ _ _ _ (upd H5 f (.ins CF dx (putF "tail_number" (numV (firstK 2 0 rows)) fs3)))
  generalize hfs4 : putF "tail_number" (numV (firstK 2 0 rows)) fs3 = fs4 at f5 x5 e5 g5 p4 r4 ⊢
  generalize upd H5 f (.ins CF dx fs4) = H6 at x5 f5 e5 g5 ⊢
  -- bag_number
  refine ⟨_, rfl, f, CF, dx, _, _, rfl, f5, FK.cl, FK.n1, r4, l1, ps, rows, 4, rfl, by decide, e5, pats_sx hf nw x5 hp, hok, fun H7 s7 => ?_⟩
  refine ⟨_, rfl, f, CF, dx, _, rfl, s7 _ _ f5, FK.cl, FK.n5, (by omega), ?_⟩
  have f7 : upd H7 f (.ins CF dx (putF "bag_number" (numV (firstK 4 0 rows)) fs4)) f = some (.ins CF dx (putF "bag_number" (numV (firstK 4 0 rows)) fs4)) := upd_same
  have x7 : SX f H (upd H7 f (.ins CF dx (putF "bag_number" (numV (firstK 4 0 rows)) fs4))) := (x5.same s7).upd
  have e7 : upd H7 f (.ins CF dx (putF "bag_number" (numV (firstK 4 0 rows)) fs4)) l1 = some (.lst (ps.map V.ref)) := by rw [upd_ne (ne_of e5 f5 (by intro z; cases z))]; exact s7 _ _ e5
  have g7 : upd H7 f (.ins CF dx (putF "bag_number" (numV (firstK 4 0 rows)) fs4)) l2 = some (.lst (bars.map V.str)) := by rw [upd_ne (ne_of g5 f5 (by intro z; cases z))]; exact s7 _ _ g5
  have p5 := putF_le "bag_number" (numV (firstK 4 0 rows)) fs4
  have r5 : (putF "bag_number" (numV (firstK 4 0 rows)) fs4).lookup ("row" : Str) = some (.ref l1) := by rw [lookup_putF, if_neg (by decide +kernel)]; exact r4
  generalize hfs5 : putF "bag_number" (numV (firstK 4 0 rows)) fs4 = fs5 at f7 x7 e7 g7 p5 r5 ⊢
  generalize upd H7 f (.ins CF dx fs5) = H8 at x7 f7 e7 g7 ⊢
  have hp8 := pats_sx hf nw x7 hp
  -- doors
  refine ⟨_, rfl, f, CF, dx, _, _, rfl, f7, FK.cl, FK.n1, r5, l1, rfl, ⟨_, SqL.of e7⟩, fun D2 hD2 => ?_⟩
  refine dc_enum (K := K) (xs := ps.map V.ref) (fun i ys H' => Same H8 H' ∧ H' D2 = some (.dK ys) ∧ ys = doorsF 0 [] (rows.take i)) ⟨same_new hD2 _, upd_same, rfl⟩ (fun i ys H' h => SqL.of (h.1 _ _ e7)) ?_ ?_
  · rintro i x p ys H' hlt hx ⟨sH, hDy, ey⟩ hpn
    obtain ⟨pa, hpa, rfl⟩ := refs_at hx
    obtain ⟨r, hr', dx', hdx⟩ := paired_at hp8 hpa
    have rok := hok r (List.mem_of_getElem? hr')
    have C := PP r.k rok.1
    have sp := same_new hpn (.tup [.int (i : Nat), .ref pa])
    have hd2 := sp _ _ (sH _ _ hdx)
    have hDp : upd H' p (.tup [.int (i : Nat), .ref pa]) D2 = some (.dK ys) := by rw [upd_ne (ne_of_none hDy hpn)]; exact hDy
    have nl : ys.length ≤ i := by
      rw [ey]
      refine Nat.le_trans (doors_len _ _ _) ?_
      rw [List.length_take]
      show 0 + _ ≤ i
      omega
    refine ⟨p, _, rfl, SqT.of upd_same, rfl, _, _, rfl, _, _, rfl, rfl, ?_⟩
    refine ⟨_, rfl, pa, _, dx', _, rfl, ⟨r.k, rok.1, rfl⟩, hd2, pf_no (by decide +kernel) (by decide +kernel) (by decide +kernel), pa, dx', _, _, _, _, rfl, C, hd2, _, rfl, ?_⟩
    rw [in_nm r.k rok.1]
    have tk := doorsF_take rows 0 i [] hr'
    refine ⟨fun e => ?_, fun e => ?_⟩
    · rw [e, if_pos rfl] at tk
      refine ⟨_, rfl, pa, _, dx', _, _, rfl, hd2, C.cl, C.nN, pf_name, _, rfl, dcN.mk (.inr r.z) hlt rfl (le1000 (by rw [List.length_map, hp.length]; omega)) hDp nl ⟨fun b u e => ?_, upd_same, ?_⟩⟩
      · rw [upd_ne (ne_of_none e hD2)]
        exact sp _ _ (sH b u e)
      · rw [tk, ← ey, Nat.zero_add]
    · rw [e, if_neg Bool.false_ne_true] at tk
      exact dcS.mk hlt ⟨sH.trans sp, hDp, by rw [ey, tk]⟩
  rintro ys H9 ⟨s9, hDy, ey⟩
  rw [List.length_map, hp.length, List.take_length] at ey
  refine ⟨_, rfl, f, CF, dx, _, rfl, s9 _ _ f7, FK.cl, FK.n6, (by omega), ?_⟩
  have nf : ∀ {x : Addr} {o : HO}, H9 x = some o → (∀ C d g, o ≠ .ins C d g) → upd H9 f (.ins CF dx (putF "doors" (.ref D2) fs5)) x = some o := fun {x o} e n => by
    rw [upd_ne (ne_of e (s9 _ _ f7) (by intro z; exact n _ _ _ z))]
    exact e
  refine q _ (x7.same s9).upd ⟨dx, _, l1, l2, D2, ps, upd_same, ?_, nf (s9 _ _ e7) (by intro _ _ _ z; cases z), pats_sx hf nw (x7.same s9).upd hp, nf (s9 _ _ g7) (by intro _ _ _ z; cases z), nf (by rw [hDy, ey]) (by intro _ _ _ z; cases z), hl1, hlb⟩ ⟨dx, _, upd_same, Nat.le_trans (putF_le _ _ _) (by omega)⟩
  rw [← hfs5, ← hfs4, ← hfs3, ← hfs2]
  refine ⟨?_, ?_, ?_, ?_, ?_, ?_, fun mm hm => ?_⟩
  · rw [lookup_putF, if_neg (by decide +kernel), lookup_putF, if_neg (by decide +kernel), lookup_putF, if_neg (by decide +kernel), lookup_putF, if_neg (by decide +kernel), lookup_putF, if_neg (by decide +kernel), lookup_putF, if_pos rfl]
  · rw [lookup_putF, if_neg (by decide +kernel), lookup_putF, if_neg (by decide +kernel), lookup_putF, if_neg (by decide +kernel), lookup_putF, if_neg (by decide +kernel), lookup_putF, if_pos rfl]
  · rw [lookup_putF, if_neg (by decide +kernel), lookup_putF, if_neg (by decide +kernel), lookup_putF, if_neg (by decide +kernel), lookup_putF, if_pos rfl]
  · rw [lookup_putF, if_neg (by decide +kernel), lookup_putF, if_neg (by decide +kernel), lookup_putF, if_pos rfl]
  · rw [lookup_putF, if_neg (by decide +kernel), lookup_putF, if_pos rfl]
  · rw [lookup_putF, if_pos rfl]
  · have h' : ∀ a ∈ attrs, ¬ mm = a := fun a ha e => hm (e ▸ ha)
    rw [lookup_putF, if_neg (h' _ (by decide +kernel)), lookup_putF, if_neg (h' _ (by decide +kernel)), lookup_putF, if_neg (h' _ (by decide +kernel)), lookup_putF, if_neg (h' _ (by decide +kernel)), lookup_putF, if_neg (h' _ (by decide +kernel)), lookup_putF, if_neg (h' _ (by decide +kernel))]
    exact pn mm hm
end
end K42

set_option Elab.async false
set_option linter.all false
set_option maxRecDepth 100000
set_option maxHeartbeats 4000000
namespace K42
open PySem L2 PyProof.Rows
def spFI (c : C5) (CF : Addr) : Sp := fun vs H Q _ => ∃ (f a dx : Addr) (bv : V) (ps : List Addr) (rows : List Rw) (bars : List Str), vs = [.ref f, .ref a, bv] ∧ H f = some (.ins CF dx []) ∧ H a = some (.lst (ps.map V.ref)) ∧ Paired (PAt c H) ps rows ∧ ((bv = .non ∧ bars = []) ∨ ∃ b, bv = .ref b ∧ H b = some (.lst (bars.map V.str))) ∧ Valid rows bars ∧
  ∀ H', SX f H H' → FormN c CF H H' f rows bars → (∃ dx' fs', H' f = some (.ins CF dx' fs') ∧ fs'.length ≤ 6) → Q .non H'
def spPars (c : C5) (CF : Addr) : Sp := fun vs H Q _ => ∃ (f : Addr) (rows : List Rw) (bars : List Str), vs = [.ref f] ∧ FormAt c CF H f rows bars ∧ ∀ (l : Addr) (ps : List Addr) (H' : Hp), Same H H' → H l = none → H' l = some (.lst (ps.map V.ref)) → Paired (PAt c H') ps rows → Q (.ref l) H'
def spWord (c : C5) (CF : Addr) (kk : Nat) : Sp := fun vs H Q _ => ∃ (f : Addr) (rows : List Rw) (bars : List Str), vs = [.ref f] ∧ FormAt c CF H f rows bars ∧ Q (numV (firstK kk 0 rows)) H
def TAt (H : Hp) (u : Addr) (r : Rw) : Prop := H u = some (.tup (rv r))
def spFTold (c : C5) (CF : Addr) : Sp := fun vs H Q _ => ∃ (f : Addr) (rows : List Rw) (bars : List Str), vs = [.ref f] ∧ (∀ r ∈ rows, r.ok) ∧ rows.length ≤ 500 ∧ FormAt c CF H f rows bars ∧ ∀ (t l1 l2 : Addr) (us : List Addr) (H' : Hp), Same H H' → H l1 = none → H l2 = none → l1 ≠ l2 → H' t = some (.tup [.ref l1, .ref l2]) →
  H' l1 = some (.lst (us.map V.ref)) → Paired (TAt H') us rows → H' l2 = some (.lst (bars.map V.str)) → Q (.ref t) H'
theorem tats_same {H H' : Hp} {us : List Addr} {rows : List Rw} (s : Same H H') (h : Paired (TAt H) us rows) : Paired (TAt H') us rows := Paired.imp' (fun _ _ z => s _ _ z) h
section
variable {P : Program} {w : World} {K : PySem.W.Frag} {mg : Str → Option Value} {base : Heap} {f G sg CF : Addr} {fd : FuncData} {c : C5} {m : MA}
theorem scFInit : FnScope ["self", "parameters", "bars", "names"] ["self", "parameters", "bars"] (defScope sFInit) := ⟨rfl, rfl, rfl, by decide +kernel, rfl, by decide +kernel, by decide +kernel⟩
theorem ok_finit {ds : List Value} {g1 g2 g3 g4 g5 : Addr} {e1 e2 e3 e4 e5 : FuncData} (F : FunD K "__init__" "Form.__init__" sFInit f fd ds) (FK : FC K CF) (mK : Meth K CF "keep" g5)
    (cM : Callee P w K mg base 1 "refuse_too_many" g1 e1 ["parameters", "bars"] (spMany K)) (cO : Callee P w K mg base 1 "refuse_bad_order" g2 e2 ["parameters"] (spOrd c)) (cB' : Callee P w K mg base 2 "refuse_bars_without_name" g3 e3 ["bars"] spRB) (cT : Callee P w K mg base 2 "refuse_twice" g4 e4 ["parameters", "bars"] (spTw c))
    (GK : FnOk P w K mg base CX0 2 g5 e5 ["self", "parameters", "bars"] (spKeep c CF)) (bK : Binds K e5 ["self", "parameters", "bars"] []) : FnOk P w K mg base CX0 3 f fd ["self", "parameters", "bars"] (spFI c CF) := by
  refine F.ok scFInit (fun vs H Q E h => ?_) (fun cdv A outer s H vs Q E hr h => ?_)
  · obtain ⟨f, a, dx, bv, ps, rows, bars, rfl, _⟩ := h
    rfl
  obtain ⟨f, a, dx, bv, ps, rows, bars, rfl, hf, ha, hp, hb, V', q⟩ := h
  have hr1 : Room 1 _ := hr.mono (by decide)
  refine ⟨_, pss_cons (ps_set (i := 3) scFInit.nd rfl (Or.inl rfl) (pe_ifExp (pt_cmp (pc_isN (pv 2))) (pe_lst pa_nil) (pv 2)))
    (pss_cons (ps_expr (cF cM hr1 (ac (pv 1) (ac (pv 3) pa_nil))))
    (pss_cons (ps_expr (cF cO hr1 (ac (pv 1) pa_nil)))
    (pss_cons (ps_expr (cF cB' hr (ac (pv 3) pa_nil)))
    (pss_cons (ps_expr (cF cT hr (ac (pv 1) (ac (pv 3) pa_nil))))
    (pss_one (ps_expr (pe_meth (pv 0) FK.cl mK GK hr bK .nil pass0 (ac (pv 1) (ac (pv 3) pa_nil))))))))), ?_⟩
  try dsimp only
  refine seq_via (fun σ' H' => ∃ b, σ' = [some (.ref f), some (.ref a), some bv, some (.ref b)] ∧ Same H H' ∧ H' b = some (.lst (bars.map V.str))) ?_ (fun key => ?_)
  rotate_left
  · rcases hb with ⟨rfl, rfl⟩ | ⟨b, rfl, hb⟩
    · refine ⟨_, rfl, _, rfl, ?_⟩
      refine dT rfl ?_
      refine ⟨(by show 0 ≤ sizeLine; decide), fun l hl => ?_⟩
      exact key _ _ ⟨l, rfl, same_new hl _, upd_same⟩
    · refine ⟨_, rfl, _, rfl, ?_⟩
      refine dF (by intro z; cases z) ?_
      exact ⟨_, rfl, key _ _ ⟨b, rfl, Same.refl _, hb⟩⟩
  rintro σ1 H1 ⟨b, rfl, s1, hb1⟩
  have ha1 := s1 _ _ ha
  refine ⟨_, rfl, _, rfl, a, b, _, _, rfl, SqL.of ha1, SqL.of hb1, (by rw [List.length_map, hp.length]; exact V'.l24), (by rw [List.length_map]; exact V'.l60), ?_⟩
  refine ⟨_, rfl, a, ps, rows, rfl, ha1, pats_same s1 hp, V'.ok, V'.ord, fun H2 s2 => ?_⟩
  refine ⟨_, rfl, b, bars, rfl, s2 _ _ hb1, V'.bn, fun H3 s3 => ?_⟩
  have s13 := s1.trans (s2.trans s3)
  refine ⟨_, rfl, _, rfl, a, b, ps, rows, bars, rfl, s13 _ _ ha, pats_same s13 hp, V'.ok, Nat.le_trans V'.l24 (by decide), s3 _ _ (s2 _ _ hb1), Nat.le_trans V'.l60 (by decide), V'.nd, fun H4 s4 => ?_⟩
  have s14 := s13.trans s4
  refine ⟨_, rfl, f, dx, _, rfl, s14 _ _ hf, rfl, _, rfl, _, rfl, f, a, b, dx, [], ps, rows, bars, rfl, s14 _ _ hf, ⟨by decide, fun _ _ => rfl⟩, s14 _ _ ha, pats_same s14 hp, V'.ok, Nat.le_trans V'.l24 (by decide), s4 _ _ (s3 _ _ (s2 _ _ hb1)), fun H5 x5 F5 L5 => ?_⟩
  exact q _ (fun b' u e n => x5 b' u (s14 _ _ e) n) (F5.of s14) L5
theorem scFPars : FnScope ["self"] ["self"] (defScope sFPars) := ⟨rfl, rfl, rfl, by decide +kernel, rfl, by decide +kernel, by decide +kernel⟩
theorem ok_fpars (F : Fun K "parameters" "Form.parameters" sFPars f fd) (T : TxtF w K mg G sg) (FK : FC K CF) : FnOk P w K mg base CX0 1 f fd ["self"] (spPars c CF) := by
  refine F.ok scFPars (fun vs H Q E h => ?_) (fun cdv A outer s H vs Q E hr h => ?_)
  · obtain ⟨f, rows, bars, rfl, _⟩ := h
    rfl
  obtain ⟨f, rows, bars, rfl, ⟨dx, fs, lr, lb, ld, ps, h1, h2, h3, h4, h5, h6⟩, q⟩ := h
  refine ⟨_, pss_one (ps_ret (cTy call_list_of T.lst PyProof.Rows.boot_list (ac (pe_fld (pv 0) rfl) pa_nil))), ?_⟩
  refine ⟨_, rfl, f, CF, dx, _, _, rfl, h1, FK.cl, FK.n1, h2.row, lr, _, rfl, .inl (SqL.of h3), fun l hl => ?_⟩
  have s1 := same_new hl (.lst (ps.map V.ref))
  exact q l ps _ s1 hl upd_same (pats_same s1 h4)
theorem scFTail : FnScope ["self"] ["self"] (defScope sFTail) := ⟨rfl, rfl, rfl, by decide +kernel, rfl, by decide +kernel, by decide +kernel⟩
theorem ok_ftail (F : Fun K "tail" "Form.tail" sFTail f fd) (FK : FC K CF) : FnOk P w K mg base CX0 1 f fd ["self"] (spWord c CF 2) := by
  refine F.ok scFTail (fun vs H Q E h => ?_) (fun cdv A outer s H vs Q E hr h => ?_)
  · obtain ⟨f, rows, bars, rfl, _⟩ := h
    rfl
  obtain ⟨f, rows, bars, rfl, ⟨dx, fs, lr, lb, ld, ps, h1, h2, h3, h4, h5, h6⟩, q⟩ := h
  exact ⟨_, pss_one (ps_ret (pe_fld (pv 0) rfl)), _, rfl, f, CF, dx, _, _, rfl, h1, FK.cl, FK.n4, h2.tn, q⟩
theorem scFTold : FnScope ["self"] ["self"] (defScope sFTold) := ⟨rfl, rfl, rfl, by decide +kernel, rfl, by decide +kernel, by decide +kernel⟩
theorem ok_ftold {gd : FuncData} (F : Fun K "told" "Form.told" sFTold f fd) (T : TxtF w K mg G sg) (FK : FC K CF) (PP : Pcs K m c) (GO : FnOk P w K mg base CX0 2 m.fO gd ["self"] (spTold K m)) (bO : Binds K gd ["self"] []) : FnOk P w K mg base CX0 3 f fd ["self"] (spFTold c CF) := by
  refine F.ok scFTold (fun vs H Q E h => ?_) (fun cdv A outer s H vs Q E hr h => ?_)
  · obtain ⟨f, rows, bars, rfl, _⟩ := h
    rfl
  obtain ⟨f, rows, bars, rfl, hok, l5, ⟨dx, fs, lr, lb, ld, ps, h1, h2, h3, h4, h5, h6⟩, q⟩ := h
  have hO : ∀ C, Cs5 c C → Cls K C ∧ Meth K C "told" m.fO := fun C ⟨k, hk, e⟩ => by rw [e]; exact ⟨(PP k hk).cl, (PP k hk).mO⟩
  refine ⟨_, pss_one (ps_ret (pe_tup (ac (pe_lc [] ["parameter"] [none] rfl ⟨rfl, rfl, rfl, rfl⟩ (pi_list (pe_fld (pv 0) rfl)) (gown_name 0) rfl rfl rfl
      (fun pins fp s H C => ⟨pg_name (i := 0) ndPm rfl (Or.inl rfl) (.inr rfl), pif_nil, pe_methP (pv 0) hO GO hr bO pass0⟩)) (ac (cTy call_list_of T.lst PyProof.Rows.boot_list (ac (pe_fld (pv 0) rfl) pa_nil)) pa_nil)))), ?_⟩
  refine ⟨_, rfl, f, CF, dx, _, _, rfl, h1, FK.cl, FK.n1, h2.row, lr, rfl, ⟨_, SqL.of h3⟩, fun D hD => ?_⟩
  refine lc_list (K := K) (xs := ps.map V.ref) (fun i ys H' => Same H H' ∧ H' D = some (.lst ys) ∧ ∃ us, ys = us.map V.ref ∧ Paired (TAt H') us (rows.take i)) ⟨same_new hD _, upd_same, [], rfl, .nil⟩ (fun i ys H' h => SqL.of (h.1 _ _ h3)) ?_ ?_
  · rintro i x ys H' hlt hx ⟨sH, hDy, us, ey, pu⟩
    obtain ⟨pa, hpa, rfl⟩ := refs_at hx
    obtain ⟨r, hr', dx', hdx⟩ := paired_at h4 hpa
    have rok := hok r (List.mem_of_getElem? hr')
    have C := PP r.k rok.1
    have hd2 := sH _ _ hdx
    have hi : i < rows.length := (List.getElem?_eq_some_iff.mp hr').1
    have er : rows[i] = r := by rw [List.getElem?_eq_getElem hi] at hr'; exact Option.some.inj hr'
    refine ⟨fun _ => ?_, fun e => Bool.noConfusion e⟩
    refine ⟨_, rfl, pa, _, dx', _, rfl, ⟨r.k, rok.1, rfl⟩, hd2, pf_no (by decide +kernel) (by decide +kernel) (by decide +kernel), pa, dx', _, r.k, .str r.z, r.b, rfl, rok.1, C, hd2, fun u H2 s2 hu2 => ?_⟩
    have nl : ys.length ≤ i := by
      rw [ey, List.length_map, pu.length, List.length_take]
      omega
    have nDu : u ≠ D := fun z => by
      rw [z, s2 _ _ hDy] at hu2
      cases hu2
    refine lcN.mk hlt (le1000 (by rw [List.length_map, h4.length]; omega)) (s2 _ _ hDy) nl ⟨fun b u' e => ?_, upd_same, us ++ [u], by rw [ey, List.map_append]; rfl, ?_⟩
    · rw [upd_ne (ne_of_none e hD)]
      exact s2 _ _ (sH b u' e)
    · rw [List.take_succ_eq_append_getElem hi, er]
      refine Paired.snoc (Paired.imp' (fun v r' z => ?_) pu) ?_
      · have z2 : H2 v = some (.tup (rv r')) := s2 _ _ z
        show upd H2 D _ v = some (.tup (rv r'))
        rw [upd_ne (fun e => by rw [e, s2 _ _ hDy] at z2; cases z2)]
        exact z2
      · show upd H2 D _ u = some (.tup (rv r))
        rw [upd_ne nDu]
        exact hu2
  rintro ys H2 ⟨s2, hDy, us, rfl, pu⟩
  rw [List.length_map, h4.length, List.take_length] at pu
  refine ⟨_, rfl, f, CF, dx, _, _, rfl, s2 _ _ h1, FK.cl, FK.n2, h2.bn, lb, _, rfl, .inl (SqL.of (s2 _ _ h5)), fun l2 hl2 => ?_⟩
  have s3 := same_new hl2 (.lst (bars.map V.str))
  refine ⟨(by show 2 ≤ sizeLine; decide), fun t ht => ?_⟩
  have s4 := same_new ht (.tup [.ref D, .ref l2])
  exact q t D l2 us _ (s2.trans (s3.trans s4)) hD (s2.free hl2) (ne_of_none hDy hl2) upd_same (s4 _ _ (s3 _ _ hDy)) (tats_same (s3.trans s4) pu) (s4 _ _ upd_same)
end
end K42

set_option Elab.async false
set_option linter.all false
set_option maxRecDepth 100000
set_option maxHeartbeats 4000000
namespace L2
open PySem PySem.Spec PyProof.Rows
/-! ### a dict that is only read from now on -/
section
variable {X : Cx} {pins : List (Addr × Obj)} {σ : St} {H : Hp} {s : Shared}
end
/-! ### for k, v in d.items(), d only read -/
section
variable {X : Cx} {elts : List Expr} {x1 : Nat} {tpos : Pos}
end
/-! ### == of tuples of flat items -/
end L2

set_option Elab.async false
set_option linter.all false
set_option maxRecDepth 100000
set_option maxHeartbeats 4000000
namespace L2
open PySem PySem.Spec PyProof.Rows
/-! ### set(xs), xs a list of texts -/
def seen (val : Nat → Str) (T : Str → Bool) : Nat → Nat → Str → Bool
  | _, 0, z => T z
  | i, k + 1, z => seen val (fun y => T y || decide (y = val i)) (i + 1) k z
section
variable {P : Program} {w : World} {A : Around} {R : Result → Shared → Prop} {I : Addr} {fp wr : List Addr} {G : Array GenState → Array GenState → Prop} {n : Nat} {Pr : Nat → Value → Prop} {Sg : Nat → Shared → Prop}
end
end L2

set_option Elab.async false
set_option linter.all false
set_option maxRecDepth 100000
set_option maxHeartbeats 4000000
namespace L2
open PySem PySem.Spec PyProof.Rows
end L2

set_option Elab.async false
set_option linter.all false
set_option maxRecDepth 100000
set_option maxHeartbeats 4000000
namespace L2
open PySem PySem.Spec PyProof.Rows
section
variable {X : Cx}
/-! ### any(xs), a list of bools -/
end
end L2

set_option Elab.async false
set_option linter.all false
set_option maxRecDepth 100000
set_option maxHeartbeats 4000000
namespace L2
open PySem PySem.Spec PyProof.Rows
/-! ### range(n) as a thing, list(range(n)) -/
section
variable {X : Cx}
end
end L2

set_option Elab.async false
set_option linter.all false
set_option maxRecDepth 100000
set_option maxHeartbeats 4000000
namespace L2
open PySem PySem.W PySem.Builtin PySem.Builtin.ObjectAttr PySem.Spec PyProof.Rows
/-! ### an own exception class whose instances an own __init__ makes ready -/
def xmIn (K : PySem.W.Frag) (C : Addr) : Bool :=
  match K.lookup C with
  | some ⟨.type "type", _, .cls cd, sl⟩ =>
    match cd.mro, sl.toList with
    | .ref C' :: bm, [_, _, _, _, some (.builtin n), _] => C' == C && n == "ValueError.__new__" && !cd.hasDel && cd.hasDict && bm.contains (.type "ValueError") && bm.contains (.type "BaseException") && !bm.contains (.type "AttributeError") && !bm.contains (.type "NameError")
    | _, _ => false
  | _ => false
structure XObj (h : Heap) (C : Addr) : Prop where
  ob : ∃ nm q N bs bm sn sub ab col dd k0 k1 k2 k3 k5, h.get? C = some (excClassObj nm q C N bs bm true sn sub ab col dd k0 k1 k2 k3 k5 "ValueError.__new__") ∧ bm.contains (.type "ValueError") = true ∧ bm.contains (.type "BaseException") = true ∧ bm.contains (.type "AttributeError") = false ∧ bm.contains (.type "NameError") = false
theorem xobj_of {K : PySem.W.Frag} {h : Heap} {C : Addr} (X : K.In h) (q : xmIn K C = true) : XObj h C := by
  simp only [xmIn] at q
  split at q
  case h_2 => cases q
  rename_i dd cd sl ho
  obtain ⟨nm, bs, mro, ns, qn, hd, sn, sub, ab, col, del⟩ := cd
  obtain ⟨l⟩ := sl
  dsimp only at q
  split at q
  case h_2 => cases q
  rename_i C' m k0 k1 k2 k3 n k5
  simp only [Bool.and_eq_true, beq_iff_eq, Bool.not_eq_true'] at q
  obtain ⟨⟨⟨⟨⟨⟨⟨rfl, rfl⟩, rfl⟩, rfl⟩, h1⟩, h2⟩, h3⟩, h4⟩ := q
  exact ⟨_, _, _, _, _, _, _, _, _, _, _, _, _, _, _, X _ _ ho, h1, h2, h3, h4⟩
abbrev excNew (C t : Addr) : Obj := { cls := .ref C, data := .fields #[.ref t, .none, .none, .none, .bool false, .none] }
abbrev tupNew (us : List Value) : Obj := { cls := .type "tuple", data := .seq us.toArray }
section
variable {prog : Program} {w : World} {A : Around} {E : Value → Shared → Prop} {s : Shared} {K : PySem.W.Frag} {C f : Addr} {us : List Value}
theorem exc_new {R : Result → Shared → Prop} (m : XObj s.heap C) (hl : us.length ≤ sizeLine)
    (h : R (.ok (.ret (.ref (s.heap.objs.size + 1)))) { s with heap := (s.heap.push (tupNew us)).push (excNew C s.heap.objs.size) }) :
    codeAny (model prog w) A (.call (.builtin "ValueError.__new__") ⟨.ref C :: us, []⟩) R s := by
  obtain ⟨hh, g, d, t, os⟩ := s
  obtain ⟨nm, q, N, bs, bm, sn, sub, ab, col, dd, k0, k1, k2, k3, k5, hC, b1, b2, b3, b4⟩ := m.ob
  have F := PySem.F.excBase_ValueError
  refine codeAny_call_builtin_code (Code.quiet_builtin _ F.toExcCallFacts.quiet) ?_
  have k1' := F.newKind
  have k2' := F.newSplit
  have k3' := F.newRow
  simp only [checkBuiltinCall, k1', k2', k3']
  rw [if_pos (by decide +kernel)]
  refine wpAny_bind (ks_wpAny_isType_cls hC rfl ?_)
  rw [if_neg (by decide)]
  refine wpAny_bind (wpAny_isSubtype_exc hC ?_)
  rw [show (Value.ref C :: bm).contains (.type "ValueError") = true by rw [List.contains_cons, b1, Bool.or_true], if_neg (by decide)]
  refine wpAny_bind (wpAny_staticBase_exc hC (wpAny_bind (wpAny_madeBy_exc hC ?_)))
  dsimp only
  rw [if_neg (by decide +kernel)]
  rw [show Bind.checkArgs "ValueError.__new__" { machinery := Manifest.Machinery.any, full := "ValueError", short := "ValueError", receiver := Manifest.Receiver.cls, params := [{ name := "args", kind := Manifest.ParamKind.varPos, required := false }, { name := "kwargs", kind := Manifest.ParamKind.varKw, required := false }] } { pos := Value.ref C :: us } = pure () from rfl]
  refine wpAny_pure (PyProof.Rows.codeAny_builtin_at F.toExcCallFacts.toExcNewFacts.entry ?_)
  unfold Builtin.«BaseException.__new__»
  refine PyProof.Rows.wpAt_bind (PyProof.Rows.wpAt_owner rfl F.toExcCallFacts.toExcNewFacts.ends (PyProof.Rows.wpAt_of_any ?_))
  rw [F.toExcCallFacts.toExcNewFacts.owner]
  dsimp only
  refine wpAny_bind (ks_wpAny_isType_cls hC rfl ?_)
  rw [if_neg (by decide)]
  refine wpAny_bind (wpAny_isSubtype_exc hC ?_)
  rw [show (Value.ref C :: bm).contains (.type "ValueError") = true by rw [List.contains_cons, b1, Bool.or_true], if_neg (by decide)]
  refine wpAny_bind (wpAny_madeHere_exc F.canon hC ?_)
  have c3 : (Value.ref C :: bm).contains (.type "AttributeError") = false := by rw [List.contains_cons, b3]; rfl
  have c4 : (Value.ref C :: bm).contains (.type "NameError") = false := by rw [List.contains_cons, b4]; rfl
  refine wpAny_bind (?_ : wpAny _ _ (do
      let x ← isSubtype (.ref C) (.type "AttributeError")
      if x = true then pure 2
      else do
        let y ← isSubtype (.ref C) (.type "NameError")
        if y = true then pure 1 else pure 0 : Sem Nat) _ _ _)
  refine wpAny_bind (wpAny_isSubtype_exc hC ?_)
  rw [c3, if_neg Bool.false_ne_true]
  refine wpAny_bind (wpAny_isSubtype_exc hC ?_)
  rw [c4, if_neg Bool.false_ne_true]
  refine wpAny_pure (wpAny_bind (wpAny_newTuple ?_ hl))
  have hC2 := Heap.get?_push_of_some (tupNew us) hC
  unfold newObj
  dsimp only
  rw [if_neg (by show ¬ 6 > sizeLine + 2; decide)]
  unfold newObjAsIs
  refine wpAny_bind (wpAny_bind (wpAny_alloc ?_))
  dsimp only
  refine wpAny_bind ?_
  unfold classHasDel
  refine wpAny_bind (wpAny_load (Heap.get?_push_of_some _ hC2) ?_)
  dsimp only
  refine wpAny_pure ?_
  rw [if_neg Bool.false_ne_true]
  refine wpAny_pure (wpAny_pure ?_)
  have e1 : (hh.push (tupNew us)).objs.size = hh.objs.size + 1 := Heap.size_push _ _
  show R (.ok (.ret (.ref (hh.push (tupNew us)).objs.size))) _
  rw [e1]
  exact h
structure XCall (K : PySem.W.Frag) (C f : Addr) : Prop where
  ob : xmIn K C = true
  init : findIn K (.ref C) "__init__" = some (some (.ref f))
  fn : isFn K (.ref f) = true
  call : specialIn K (.ref C) "__call__" = some (some (.builtin "type.__call__"))
  typ : instIn K (.ref C) (.type "type") = some true
  kp : keepIn K (.ref C) = true
theorem exc_call {R : Result → Shared → Prop} (X : K.In s.heap) (m : XCall K C f) (hl : us.length ≤ sizeLine)
    (h : codeAny (model prog w) (A.under (.builtin "type.__call__" ⟨.ref C :: us, []⟩)) (.call (.ref f) ⟨.ref (s.heap.objs.size + 1) :: us, []⟩) (InitBack (s.heap.objs.size + 1) R)
      { s with heap := (s.heap.push (tupNew us)).push (excNew C s.heap.objs.size) }) : codeAny (model prog w) A (.call (.ref C) ⟨us, []⟩) R s := by
  have mo := xobj_of X m.ob
  have LC := looks_specialIn (M := model prog w) X m.call
  have LT := looks_instIn (M := model prog w) X m.typ
  obtain ⟨hh, g, d, t, os⟩ := s
  obtain ⟨nm, q, N, bs, bm, sn, sub, ab, col, dd, k0, k1, k2, k3, k5, hC, b1, b2, b3, b4⟩ := mo.ob
  refine codeAny_of_own ?_
  show wpOwn _ _ _ (callAny (.ref C) ⟨us, []⟩) _ _ _
  unfold callAny
  refine wpOwn_of_wpAny ?_
  dsimp only
  refine wpAny_bind (wpAny_load hC ?_)
  dsimp only
  unfold callAny.viaDunder
  refine wpAny_bind (LC.at ?_)
  dsimp only
  rw [show bindSpecial (.builtin "type.__call__") (.ref C) = pure (.builtin "type.__call__", [.ref C]) from by with_unfolding_all rfl]
  refine wpAny_bind (wpAny_pure ?_)
  dsimp only
  rw [show callAny.plainCallee (.builtin "type.__call__") = pure true from by with_unfolding_all rfl]
  refine wpAny_bind (wpAny_pure ?_)
  rw [if_pos rfl]
  refine wpAny_pure ⟨rfl, ?_⟩
  refine codeAny_call_builtin_code (Code.quiet_builtin _ (by decide +kernel)) ?_
  have k1' : builtinKind "type.__call__" = some .slot := by decide +kernel
  have k2' : splitId "type.__call__" = some ("type", "__call__") := by decide +kernel
  simp only [checkBuiltinCall, k1', k2', List.cons_append, List.nil_append]
  refine wpAny_bind (LT.at ?_)
  rw [if_neg (by decide)]
  have k3' : Manifest.signature? "type.__call__" = some { machinery := .hand, full := "wrapper __call__", short := "", receiver := .self, params := [] } := by with_unfolding_all rfl
  rw [k3']
  dsimp only
  rw [show Bind.checkArgs "type.__call__" { machinery := .hand, full := "wrapper __call__", short := "", receiver := .self, params := [] } { pos := Value.ref C :: us } = pure () from rfl]
  refine wpAny_pure (codeAny_builtin (b := Builtin.«type.__call__») rfl ?_)
  unfold Builtin.«type.__call__»
  dsimp only
  rw [if_neg (show ¬ (Value.ref C == Value.type "type") = true from fun z => by cases z)]
  refine wpAny_bind (wpAny_mroOf_exc hC ?_)
  rw [if_neg (show ¬ (Value.ref C :: bm).isEmpty = true from Bool.false_ne_true)]
  refine wpAny_bind (wpAny_madeBy_exc hC ?_)
  dsimp only
  refine wpAny_bind (wpAny_pure (wpAny_bind (wpAny_holding (wpAny_call (exc_new mo hl ?_)))))
  dsimp only at h ⊢
  have kp : ∀ b o, hh.get? b = some o → ((hh.push (tupNew us)).push (excNew C hh.objs.size)).get? b = some o := fun b o e => Heap.get?_push_of_some _ (Heap.get?_push_of_some _ e)
  have X2 : K.In ((hh.push (tupNew us)).push (excNew C hh.objs.size)) := X.keeps kp
  have eo : ((hh.push (tupNew us)).push (excNew C hh.objs.size)).get? (hh.objs.size + 1) = some (excNew C hh.objs.size) := by
    have := Heap.get?_push_size (hh.push (tupNew us)) (o := excNew C hh.objs.size) rfl
    rwa [Heap.size_push] at this
  have LI := looks_findIn (M := model prog w) X2 m.init
  have LB := bind_fn (M := model prog w) X2 (.ref (hh.objs.size + 1)) (beq_iff_eq.mp m.fn)
  generalize (hh.push (tupNew us)).push (excNew C hh.objs.size) = h2 at h kp X2 eo LI LB ⊢
  unfold isInstance
  have LTy : Looks (model prog w) h2 (typeOf (.ref (hh.objs.size + 1))) (.ref C) := (Looks.ld eo).andThen .now
  refine wpAny_bind (wpAny_bind (LTy.at (wpAny_isSubtype_exc (kp _ _ hC) ?_)))
  rw [show (Value.ref C :: bm).contains (.ref C) = true by rw [List.contains_cons, beq_self_eq_true, Bool.true_or], if_neg (by decide)]
  refine wpAny_bind (wpAny_holding ?_)
  unfold callSpecial? specialOf
  refine wpAny_bind (wpAny_bind (LTy.at (LI.at ?_)))
  dsimp only
  refine wpAny_holding (wpAny_bind (LB.at ?_))
  dsimp only
  refine wpAny_bind (wpAny_call (codeAny_mono h fun r s' hq => ?_))
  cases r with
  | error e => exact hq
  | ok fl =>
    cases fl with
    | ret u =>
      obtain ⟨rfl, hq⟩ := hq
      refine wpAny_pure ?_
      dsimp only
      rw [if_neg (by decide)]
      exact wpAny_pure hq
    | next => exact False.elim hq
    | brk => exact False.elim hq
    | cont => exact False.elim hq
end
end L2

set_option Elab.async false
set_option linter.all false
set_option maxRecDepth 100000
set_option maxHeartbeats 4000000
namespace L2
open PySem PySem.W PySem.Builtin PySem.Builtin.ObjectAttr PySem.Spec PyProof.Rows
/-! ### the own dict of an exception: self.x = v -/
def veMro : List Value := [.type "ValueError", .type "Exception", .type "BaseException", .type "object"]
def refsThen : List Value → Bool
  | .ref _ :: l => refsThen l
  | l => l == veMro
def xtIn (K : PySem.W.Frag) (C : Addr) : Bool := (clsIn K C).any fun cd => cd.hasDict && refsThen cd.mro
section
variable {prog : Program} {w : World} {A : Around} {E : Value → Shared → Prop} {s : Shared} {K : PySem.W.Frag} {C x : Addr} {us : List Value}
theorem over_loop {M : Model} {Q : Option Unit × Unit → Shared → Prop} {self : Value} : ∀ (l : List Value), refsThen l = true → (Q (some (), ()) s) →
    wpAny M A (forIn l ((none, ()) : Option Unit × Unit) fun c __s =>
        match c with
        | Value.type n =>
          if (n == "_thread._local") = true then do
            rule "setattr.thread-local-passed-by"
            pure (ForInStep.yield (none, ()))
          else
            if (n == "_pickle.Pickler" || n == "_pickle.Unpickler") = true then do
              rule "setattr.pickle-types-passed-by"
              pure (ForInStep.yield (none, ()))
            else do
              let own ← classOwn c (Str.ofString "__setattr__")
              if own.isSome = true then
                  have __do_jp := fun (__r : Unit) => pure (ForInStep.done (some (), ()));
                  if (!isObjects n (Str.ofString "__setattr__").toString) = true then do
                    rule "setattr.built-in-override"
                    let tn ← PySem.typeNameOf self
                    let __r ←
                      raiseErrorMade "TypeError"
                          (toString "can't apply this " ++ toString (Str.ofString "__setattr__").toString ++ toString " to " ++
                              toString tn ++
                            toString " object")
                    __do_jp __r
                  else __do_jp ()
                else pure (ForInStep.yield (none, ()))
        | x => pure (ForInStep.yield (none, ()))) Q E s := by
  intro l
  have o1 : classOwn (.type "ValueError") (Str.ofString "__setattr__") = pure none := by with_unfolding_all rfl
  have o2 : classOwn (.type "Exception") (Str.ofString "__setattr__") = pure none := by with_unfolding_all rfl
  have o3 : classOwn (.type "BaseException") (Str.ofString "__setattr__") = pure none := by with_unfolding_all rfl
  have o4 := F.own_object_setattr
  induction l with
  | nil => intro h; exact absurd h (by decide)
  | cons c l ih =>
    intro h q
    rw [List.forIn_cons]
    cases c with
    | ref a => exact wpAny_bind (wpAny_pure (ih h q))
    | type n =>
      have e : Value.type n :: l = veMro := by
        have : (Value.type n :: l == veMro) = true := h
        exact eq_of_beq this
      unfold veMro at e
      injection e with e1 e2
      injection e1 with e1
      subst e1 e2
      have n1 : ∀ n : String, n ∈ ["ValueError", "Exception", "BaseException", "object"] → (n == "_thread._local") = false ∧ (n == "_pickle.Pickler" || n == "_pickle.Unpickler") = false := by decide +kernel
      simp only [List.forIn_cons, n1 "ValueError" (by decide), n1 "Exception" (by decide), n1 "BaseException" (by decide), n1 "object" (by decide), o1, o2, o3, o4, Bool.false_eq_true, if_false]
      refine wpAny_bind (wpAny_bind (wpAny_pure ?_))
      refine wpAny_pure ?_
      refine wpAny_bind (wpAny_bind (wpAny_pure ?_))
      refine wpAny_pure ?_
      refine wpAny_bind (wpAny_bind (wpAny_pure ?_))
      refine wpAny_pure ?_
      refine wpAny_bind (wpAny_bind (wpAny_pure ?_))
      rw [if_pos (show (some (Value.builtin "object.__setattr__")).isSome = true from rfl), if_neg (show ¬ (!isObjects "object" (Str.ofString "__setattr__").toString) = true by unfold isObjects; simp)]
      exact wpAny_pure (wpAny_pure q)
    | _ => exact absurd h (by simp [refsThen, veMro])
theorem wp_eq {α : Type} {M : Model} {A : Around} {t t' : Sem α} {Q : α → Shared → Prop} {E : Value → Shared → Prop} {s : Shared} (e : t = t') (h : wpAny M A t' Q E s) : wpAny M A t Q E s := e ▸ h
structure XSet (K : PySem.W.Frag) (C : Addr) : Prop where
  t : xtIn K C = true
  sa : findIn K (.ref C) "__setattr__" = some (some (.builtin "object.__setattr__"))
  ob : mroIn K C (.type "object") = some true
theorem XSet.cd (m : XSet K C) : ∃ cd, clsIn K C = some cd ∧ cd.hasDict = true ∧ refsThen cd.mro = true := by
  have := m.t
  unfold xtIn at this
  cases e : clsIn K C with
  | none => rw [e] at this; cases this
  | some cd =>
    rw [e] at this
    have h2 : (cd.hasDict && refsThen cd.mro) = true := this
    exact ⟨cd, rfl, (Bool.and_eq_true _ _ ▸ h2).1, (Bool.and_eq_true _ _ ▸ h2).2⟩
theorem set_exc {oe : Obj} {vs : Array Value} {name : Str} {v : Value} {Q : Unit → Shared → Prop} (X : K.In s.heap) (m : XSet K C) (ha : findIn K (.ref C) name = some none) (he : s.heap.get? x = some oe) (hc : oe.cls = .ref C) (hd : oe.data = .fields vs) (hn : oe.dict = none)
    (h : ∀ h' : Heap, (∀ b o, b ≠ x → s.heap.get? b = some o → h'.get? b = some o) → h'.get? x = some { oe with dict := some s.heap.objs.size } → h'.Ns1 s.heap.objs.size (fun y => if y = name then some v else none) → Q () { s with heap := h', toks := s.toks + 2 }) :
    wpAny (model prog w) A (setAttr (.ref x) name v) Q E s := by
  obtain ⟨cd, hcd, hdict, hmro⟩ := m.cd
  have IA : InstAt s.heap x oe C none := ⟨he, hc, by unfold notCls; rw [hd], by rw [hn]; trivial⟩
  refine set_plain X IA m.sa ?_
  have LO := looks_mroIn (M := model prog w) X m.ob
  have LF := looks_findIn (M := model prog w) X ha
  have LCd := looks_clsIn (M := model prog w) X hcd
  have LTy : Looks (model prog w) s.heap (typeOf (.ref x)) (.ref C) := hc ▸ (Looks.ld he).andThen .now
  obtain ⟨hh, g, d, t, os⟩ := s
  dsimp only at *
  refine codeAny_call_builtin F.slot_object_setattr.plain F.entry_object_setattr ?_
  have k1 := F.bk_object_setattr
  have k2 := F.sp_object_setattr
  simp only [checkBuiltinCall, k1, k2]
  refine wpAny_bind ?_
  unfold isInstance
  refine wpAny_bind (LTy.at ?_)
  refine LO.at ?_
  rw [if_neg (by decide)]
  have k3 := F.args_object_setattr_3 (.ref x) (.str name t) v
  refine wp_eq k3 (wpAny_pure ?_)
  unfold Builtin.«object.__setattr__»
  rw [if_neg (show ¬ (!(⟨[Value.ref x, Value.str name t, v], []⟩ : Args).kw.isEmpty) = true from Bool.false_ne_true)]
  dsimp only
  unfold refuseIfOverridden
  refine wpAny_bind (wpAny_bind (LTy.at (wpAny_bind ?_)))
  unfold mroOf
  refine wpAny_bind (LCd.at (wpAny_pure (wpAny_bind (over_loop _ hmro ?_))))
  dsimp only
  refine wpAny_pure (wpAny_bind ?_)
  unfold attrName
  refine wpAny_pure (wpAny_bind (LTy.at (wpAny_bind (LF.at (wpAny_bind ?_)))))
  unfold storeTaker?
  refine wpAny_pure ?_
  dsimp only
  unfold storeInOwnDict ownStreamTells
  refine wpAny_bind (wpAny_pure ?_)
  rw [if_neg (show ¬ (Value.ref C == Value.type "module") = true from fun z => by cases z)]
  unfold ownDictForStores instanceDict
  refine wpAny_bind (wpAny_bind (wpAny_loadPart he ?_))
  rw [hc]
  dsimp only
  refine wpAny_bind (LCd.at ?_)
  rw [hdict, hn, hd]
  dsimp only
  rw [if_neg (by decide), if_neg (show ¬ (!true || !typeHasDict (Value.ref C)) = true from Bool.false_ne_true)]
  refine wpAny_bind (wpAny_alloc (wpAny_bind (wpAny_update (Heap.get?_push_of_some _ he) ?_)))
  unfold dictMade
  refine wpAny_pure ?_
  dsimp only
  unfold storeInDict newKeyGuard
  refine wpAny_bind (wpAny_pure (wpAny_bind ?_))
  have xlt : x ≠ hh.objs.size := Nat.ne_of_lt (Heap.lt_size he)
  have u1 : ((hh.push { cls := .type "dict", data := .dict #[] }).update x fun o => { cls := o.cls, dict := some hh.objs.size, data := o.data, slots := o.slots }).get? hh.objs.size = some { cls := .type "dict", data := .dict #[] } := by
    rw [Heap.get?_update_ne _ _ _ _ (Ne.symm xlt)]
    exact Heap.get?_push_size hh rfl
  have n1 : ((hh.push { cls := .type "dict", data := .dict #[] }).update x fun o => { cls := o.cls, dict := some hh.objs.size, data := o.data, slots := o.slots }).Ns1 hh.objs.size (fun _ => none) := Heap.Ns1.of_empty ⟨_, #[], _, u1, rfl, (fun e he => absurd he (by simp)), fun _ => rfl⟩
  refine wpAny_nsSet1 n1 fun h' hn2 hs2 => ?_
  have wi : PySem.Within (fun y => if y = name then some v else none) [name] := fun y hy => by
    by_cases e : y = name
    · rw [e]; exact List.mem_singleton.mpr rfl
    · exact absurd (if_neg e) hy
  obtain ⟨oD, esD, epD, hoD, hdD, hcD⟩ := hn2.count wi
  refine wpAny_bind (wpAny_lookBehind hoD (by rw [hdD]; exact pastItsLine_dict (Nat.le_trans hcD (by show 1 ≤ sizeLine + 1; decide))) ?_)
  refine wpAny_pure ?_
  have ux : ((hh.push { cls := .type "dict", data := .dict #[] }).update x fun o => { cls := o.cls, dict := some hh.objs.size, data := o.data, slots := o.slots }).get? x = some { oe with dict := some hh.objs.size } :=
    Heap.get?_update_self _ (Heap.get?_push_of_some _ he) (by unfold Obj.isFreed; rw [hd])
  refine h h' (fun b o hb e => ?_) ?_ hn2
  · have hb2 : b ≠ hh.objs.size := Nat.ne_of_lt (Heap.lt_size e)
    rw [hs2.2 b hb2, Heap.get?_update_ne _ _ _ _ hb]
    exact Heap.get?_push_of_some _ e
  · rw [hs2.2 x xlt]
    exact ux
end
end L2

set_option Elab.async false
set_option linter.all false
set_option maxRecDepth 100000
set_option maxHeartbeats 4000000
namespace L2
open PySem PySem.W PySem.Builtin PySem.Builtin.ObjectAttr PySem.Builtin.Getset_descriptor PySem.Spec PyProof.Rows
/-! ### e.x, e an exception with an own dict -/
section
variable {prog : Program} {w : World} {A : Around} {E : Value → Shared → Prop} {s : Shared} {K : PySem.W.Frag} {C D x dx : Addr} {us : List Value}
theorem get_exc {oe : Obj} {vs : Array Value} {name : Str} {v : Value} {mA : Str → Option Value} {b : Bool} {Q : Value → Shared → Prop} (c : ExcCls K D) (m : XSet K D) (X : K.In s.heap) (ha : findIn K (.ref D) name = some none) (he : s.heap.get? x = some oe) (hc : oe.cls = .ref D) (hd : oe.data = .fields vs) (hx : oe.dict = some dx)
    (hn : s.heap.Ns1 dx mA) (hv : mA name = some v) (hv' : handedIn v = true) (h : Q v { s with toks := s.toks + 1 }) : wpAny (model prog w) A (getAttr (.ref x) name b) Q E s := by
  obtain ⟨cd, hcd, hdict, hmro⟩ := m.cd
  obtain ⟨hh, g, dr, t, os⟩ := s
  have LT : Looks (model prog w) hh (typeOf (.ref x)) (.ref D) := hc ▸ (Looks.ld he).andThen .now
  have LG := looks_findIn (M := model prog w) X c.ga
  have LN := looks_findIn (M := model prog w) X c.no
  have LC := looks_findIn (M := model prog w) X ha
  have LB := looks_mroIn (M := model prog w) X c.be
  have LCd := looks_clsIn (M := model prog w) X hcd
  unfold getAttr
  refine wpAny_bind (wpAny_mkText ?_)
  unfold getAttrBy
  dsimp only
  refine wpAny_holding (wpAny_bind (LT.at (wpAny_bind (LG.at ?_))))
  have hne : (onTheHeap (Value.ref D) && Value.builtin "BaseException.__getattribute__" == Value.builtin "object.__getattribute__") = false := by
    rw [show (Value.builtin "BaseException.__getattribute__" == Value.builtin "object.__getattribute__") = false from by decide +kernel, Bool.and_false]
  dsimp only
  rw [hne]
  rw [if_neg Bool.false_ne_true]
  unfold getAttrByItsOwn hookBefore
  rw [if_pos (show onTheHeap (Value.ref D) = true from rfl)]
  refine wpAny_bind (LN.at (wpAny_bind (wpAny_attempt (wpAny_holding ?_))))
  unfold callGetattribute boundAndCalled
  rw [if_neg (show ¬ (b && onTheHeap (Value.builtin "BaseException.__getattribute__")) = true from by rw [show onTheHeap (Value.builtin "BaseException.__getattribute__") = false from rfl, Bool.and_false]; exact Bool.false_ne_true)]
  have fb := PySem.F.attrBase_ValueError.ga
  rw [fb.bind (.ref x)]
  refine wpAny_bind (wpAny_pure ?_)
  refine wpAny_call (codeAny_call_builtin fb.plain F.entry_bexc_ga ?_)
  have k1 : builtinKind "BaseException.__getattribute__" = some .slot := by decide +kernel
  have k2 : splitId "BaseException.__getattribute__" = some ("BaseException", "__getattribute__") := by decide +kernel
  have k3 := F.args_bexc_ga (.ref x) (.str name t)
  simp only [checkBuiltinCall, k1, k2, List.cons_append, List.nil_append]
  refine wpAny_bind ?_
  unfold isInstance
  refine wpAny_bind (LT.at (LB.at ?_))
  rw [if_neg (by decide)]
  refine wp_eq k3 (wpAny_pure ?_)
  unfold Builtin.«object.__getattribute__»
  obtain ⟨od, hod, hlk⟩ := lookIn_ns hn
  have IA : InstAt hh x oe D (some od) := ⟨he, hc, by unfold notCls; rw [hd], by rw [hx]; exact hod⟩
  have hD : hasDictIn K D = true := by unfold hasDictIn; rw [hcd]; exact hdict
  have LFi := looks_find (M := model prog w) X IA (findObj_own hD ha rfl (by rw [hlk, hv]))
  rw [show slotArgs "__getattribute__" 1 { pos := [Value.ref x, Value.str name t] } = pure (.ref x, [.str name t]) from rfl]
  refine wpAny_bind (wpAny_pure (wpAny_bind ?_))
  unfold attrName
  refine wpAny_pure (wpAny_bind (LT.at (wpAny_bind (LFi.at ?_))))
  refine wpAny_pure ?_
  show wpAny _ _ (handedOut v) _ _ _
  rw [handedOut_of hv']
  exact wpAny_pure h
end
end L2

set_option Elab.async false
set_option linter.all false
set_option maxRecDepth 100000
set_option maxHeartbeats 4000000
namespace L2
open PySem PySem.Spec PyProof.Rows
/-! ### exceptions as things: made, their attributes set and read -/
/-- the exception at ea, as it was made (its dict, its args at t), not yet raised -/
abbrev excX (ea C : Addr) (od : Option Addr) (t : Addr) : HO := .ext fun h => h.get? ea = some { cls := .ref C, dict := od, data := .fields #[.ref t, .none, .none, .none, .bool false, .none] }
theorem excX_ok {P : Program} {w : World} {H : Hp} {h : Heap} {ea C t : Addr} {od : Option Addr} (e : h.get? ea = some { cls := .ref C, dict := od, data := .fields #[.ref t, .none, .none, .none, .bool false, .none] }) : ObjOk P w H h ea (excX ea C od t) :=
  ⟨e, ⟨_, e⟩, fun g1 g2 q k => k _ q⟩
section
variable {X : Cx} {pins : List (Addr × Obj)} {σ : St} {H : Hp} {s : Shared} {x C t : Addr} {f : Str} {y : V} {u : Value} {A : Around} {E : Value → Shared → Prop}
theorem excX_at {od : Option Addr} (I : Inv X pins σ H s) (e : H x = some (excX x C od t)) : s.heap.get? x = some { cls := .ref C, dict := od, data := .fields #[.ref t, .none, .none, .none, .bool false, .none] } := (I.hok x _ e).1
theorem setX_ok {Q : Unit → Shared → Prop} (I : Inv X pins σ H s) (e : H x = some (excX x C none t)) (m : XSet X.K C) (n : NoAttr X.K C f) (ry : RelV y u)
    (h : ∀ dx s', H dx = none → Inv X pins σ (upd (upd H x (excX x C (some dx) t)) dx (.xd [(f, y)])) s' → Q () s') : wpAny (model X.prog X.w) A (setAttr (.ref x) f u) Q E s := by
  have hx := excX_at I e
  have hsz : H s.heap.objs.size = none := I.hok.fresh (Nat.le_refl _)
  refine set_exc I.kIn m n hx rfl rfl rfl fun h' k e1 ns => h s.heap.objs.size _ hsz ?_
  have I1 : Inv X pins σ (upd H x (excX x C (some s.heap.objs.size) t)) { s with heap := h', toks := s.toks + 2 } :=
    I.write (by rw [e]; exact True.intro) (.inl rfl) k ⟨_, e1⟩ (excX_ok e1)
  have nx : s.heap.objs.size ≠ x := Ne.symm (Nat.ne_of_lt (Heap.lt_size hx))
  refine I1.track (by rw [upd_ne nx]; exact hsz) ⟨_, ns, fun g => ?_⟩ (fun v e2 _ _ => ?_) (fun z => ?_) (fun z c e2 z2 => ?_) fun p hp z => ?_
  · show RelO (List.lookup g [(f, y)]) (if g = f then some u else none)
    by_cases q : g = f
    · subst q; rw [List.lookup_cons_self, if_pos rfl]; exact ry
    · rw [List.lookup_cons, beq_eq_false_iff_ne.mpr q, if_neg q]; trivial
  · exact absurd (Heap.lt_size e2) (Nat.not_lt.mpr I.sz)
  · have := I.lt
    rw [z] at this
    exact absurd this (Nat.lt_irrefl _)
  · obtain ⟨v, oc, hoc, _⟩ := I.cell z c e2
    rw [z2] at hoc
    exact absurd (Heap.lt_size hoc) (Nat.lt_irrefl _)
  · have := (I.pin p hp).1
    rw [z] at this
    exact absurd (Heap.lt_size this) (Nat.lt_irrefl _)
end
/-! the rules -/
def sFldX (K : PySem.W.Frag) (ta tv : TE) (f : Str) : TS := fun D σ H => tv σ H fun y H1 => ta σ H1 fun x H2 => ∃ (a C t : Addr), x = .ref a ∧ H2 a = some (excX a C none t) ∧ XSet K C ∧ NoAttr K C f ∧ ∀ dx, H2 dx = none → D.nx σ (upd (upd H2 a (excX a C (some dx) t)) dx (.xd [(f, y)]))
section
variable {X : Cx} {o e value : Expr} {f : Str} {pos pos' tpos : Pos} {ta tv : TE}
theorem ps_fldX (ha : PE X o ta) (hv : PE X value tv) (hs : swapsWith value (some (.Attribute o f pos')) pos.line X.env = pure false) : PS X (.Assign [.Attribute o f pos'] value pos) (sFldX X.K ta tv f) := by
  refine ⟨?_⟩
  intro pins s σ H D I h
  refine plainObj_wpAny_Assign_Attribute (thn (hv pins s σ H _ I h) fun u s1 ⟨y, H1, I1, ry, q⟩ => thn (ha pins s1 σ H1 _ I1 q) fun ov s2 ⟨x, H2, I2, rx, a, C, t, ex, ea, c, n, q2⟩ => ?_) hs
  subst ex
  obtain rfl : ov = Value.ref a := rx
  exact setX_ok I2 ea c n ry fun dx s3 hdx I3 => ⟨σ, _, I3, q2 dx hdx⟩
end
/-! C(..), an own exception class with an own __init__ -/
def tMakeX (C : Addr) (sp : Sp) (E : XK) (t : TA) : TE := fun σ H Q => t σ H fun vs H1 => vs.length ≤ sizeLine ∧ ∀ x tu, H1 x = none → H1 tu = none → tu ≠ x → sp (.ref x :: vs) (upd H1 x (excX x C none tu)) (fun v H2 => v = .non ∧ Q (.ref x) H2) E
section
variable {X : Cx} {CX : CXT} {k : Nat} {f C : Addr} {fd : FuncData} {ps : List Str} {sp : Sp} {E : XK} {x : Str} {p pos : Pos} {e : Expr} {es : List Expr} {t : TA}
theorem Inv.madeX {pins : List (Addr × Obj)} {σ : St} {H : Hp} {s : Shared} {us : List Value} (I : Inv X pins σ H s) : Inv X pins σ (upd H (s.heap.objs.size + 1) (excX (s.heap.objs.size + 1) C none s.heap.objs.size)) { s with heap := (s.heap.push (tupNew us)).push (excNew C s.heap.objs.size) } := by
  refine I.laid (fun b u e => Heap.get?_push_of_some _ (Heap.get?_push_of_some _ e)) (Nat.le_succ _) (excX_ok ?_)
  have := Heap.get?_push_size (s.heap.push (tupNew us)) (o := excNew C s.heap.objs.size) rfl
  rwa [Heap.size_push] at this
theorem run_makeX {pins : List (Addr × Obj)} {σ : St} {H : Hp} {s : Shared} {Q : VK} {us : List Value} {vs : List V} (M : XCall X.K C f) (F : FnOk X.prog X.w X.K X.mg X.base CX k f fd ps sp) (hr : Room (k + 1) X.A) (hb : Binds X.K fd ps [])
    (hx : Passes CX X E) (I : Inv X pins σ H s) (r : Vals vs us) (hl : vs.length ≤ sizeLine)
    (h : ∀ x tu, H x = none → H tu = none → tu ≠ x → sp (.ref x :: vs) (upd H x (excX x C none tu)) (fun v H2 => v = .non ∧ Q (.ref x) H2) E) :
    wpAny (model X.prog X.w) X.A (call (.ref C) us) (EP X pins σ Q) X.xe s := by
  have hq := h (s.heap.objs.size + 1) s.heap.objs.size (I.hok.fresh (Nat.le_succ _)) (I.hok.fresh (Nat.le_refl _)) (Nat.ne_of_lt (Nat.lt_succ_self _))
  have I2 := Inv.madeX (C := C) (us := us) I
  have r2 : Vals (V.ref (s.heap.objs.size + 1) :: vs) (Value.ref (s.heap.objs.size + 1) :: us) := .cons rfl r
  have hl2 : (Value.ref (s.heap.objs.size + 1) :: us ++ []).length = ps.length := by
    have e := r2.length
    rw [F.len _ _ _ _ hq] at e
    rw [List.append_nil]
    exact e.symm
  have hb2 := hb _ (Value.ref (s.heap.objs.size + 1) :: us) I2.kIn hl2
  rw [List.append_nil] at hb2
  refine wpAny_call (exc_call I.kIn M (by rw [← r.length]; exact hl) (codeAny_mono (F.run _ X.stack _ _ ⟨Value.ref (s.heap.objs.size + 1) :: us, []⟩ (Value.ref (s.heap.objs.size + 1) :: us) _ _ E (hr.make C us [])
    (I2.env0.make C us []) hb2 r2 hq) fun r s' hq' => ?_))
  cases r with
  | error e => exact hx pins σ _ _ e s' I2 hq'
  | ok fl =>
    cases fl with
    | ret u =>
      obtain ⟨v, H', I3, rv, ev, q3⟩ := I2.after hq'
      subst ev
      exact ⟨rv, ⟨V.ref (s.heap.objs.size + 1), H', I3, rfl, q3⟩⟩
    | next => exact False.elim hq'
    | brk => exact False.elim hq'
    | cont => exact False.elim hq'
theorem pe_makeX (M : XCall X.K C f) (F : FnOk X.prog X.w X.K X.mg X.base CX k f fd ps sp) (hr : Room (k + 1) X.A) (hg : Gl X x) (hm : X.mg x = some (.ref C)) (hb : Binds X.K fd ps []) (hx : Passes CX X E)
    (ha : PA X (e :: es) t) (hdb : (x == ("__debug__" : Str)) = false := by decide) (he : starEach (e :: es) X.env = (false, eval e X.env) :: starEach es X.env := by rfl) (hpl : (backTo pos (starEach es X.env)).any (·.1) = false := by rfl) :
    PE X (.Call (.Name x p) (e :: es) [] pos) (tMakeX C sp E t) := by
  refine ⟨?_⟩
  intro pins s σ H Q I h
  refine wpAny_Call_Name_kw (ld_glob I hg hm ?_ hdb)
  refine PySem.W.callWith_K (h₀ := X.base) I.ok.mod.kin M.kp (thn (ha pos pins s σ H _ I h) fun us s1 ⟨vs, H1, I1, r, hl, q⟩ => ⟨I1.kIn, ?_⟩) he hpl
  exact run_makeX M F hr hb hx I1 r hl q
end
end L2

set_option Elab.async false
set_option linter.all false
set_option maxRecDepth 100000
set_option maxHeartbeats 4000000
namespace L2
open PySem PySem.Spec PyProof.Rows
/-! ### raise C(..), C with an own __init__ -/
def drop (H : Hp) (a : Addr) : Hp := fun b => if b = a then none else H b
theorem drop_same {H : Hp} {a : Addr} : drop H a a = none := by unfold drop; rw [if_pos rfl]
theorem drop_ne {H : Hp} {a b : Addr} (h : b ≠ a) : drop H a b = H b := by unfold drop; rw [if_neg h]
theorem drop_some {H : Hp} {a b : Addr} {u : HO} (h : drop H a b = some u) : b ≠ a ∧ H b = some u := by
  unfold drop at h
  split at h
  · cases h
  · exact ⟨‹_›, h⟩
theorem HOk.drop {P : Program} {w : World} {H : Hp} {h : Heap} {a : Addr} {φ : Heap → Prop} (x : HOk P w H h) (ha : H a = some (.ext φ)) : HOk P w (drop H a) h := fun b u e => by
  obtain ⟨hb, e⟩ := drop_some e
  exact (x b u e).stay (fun _ _ _ q => q) (fun c q => by rw [drop_ne (fun z => by rw [z, ha] at q; cases q)]; exact q) fun c xs q => by rw [drop_ne (fun z => by rw [z, ha] at q; cases q)]; exact q
section
variable {X : Cx} {pins : List (Addr × Obj)} {σ : St} {H : Hp} {s : Shared} {ea C t : Addr} {od : Option Addr} {M : Model} {E : Value → Shared → Prop}
end
end L2

set_option Elab.async false
set_option linter.all false
set_option maxRecDepth 100000
set_option maxHeartbeats 4000000
namespace L2
open PySem PySem.Spec PyProof.Rows
section
variable {X : Cx} {E : XK} {pos : Pos} {e : Expr} {te : TE}
end
section
variable {P : Program} {w : World} {K : PySem.W.Frag} {mg : Str → Option Value} {base : Heap} {N : List Str} {qual : Str} {scope : Scope} {f : Addr} {cd : Value} {A : Around} {outer : List Env} {s : Shared} {H : Hp} {E E' : XK}
end
/-! C(..), an own exception class without __init__, as a thing -/
section
variable {X : Cx} {x : Str} {C : Addr} {B Bn newId nid initId inN : String} {bm bmN : List Value} {np pos : Pos} {e : Expr} {es : List Expr} {t : TA}
end
end L2

set_option Elab.async false
set_option linter.all false
set_option maxRecDepth 100000
set_option maxHeartbeats 4000000
namespace L2
open PySem PySem.Spec PyProof.Rows
section
variable {X : Cx} {pins : List (Addr × Obj)} {σ : St} {H : Hp} {s : Shared} {M : Model} {A : Around} {E : Value → Shared → Prop} {i : Nat} {n : Str} {pos : Pos}
end
section
variable {X : Cx} {pins : List (Addr × Obj)} {σ : St} {H : Hp} {s : Shared} {ea : Addr}
variable {st b₀ : Stmt} {suite : List Stmt} {c n : Str} {np hpos pos : Pos} {C : Addr} {i : Nat} {tb : XK → TS} {ts : TS} {ok : Value → Prop}
end
section
variable {X : Cx} {pins : List (Addr × Obj)} {σ : St} {e : Expr} {es : List Expr} {t : TA} {E : XK} {x : Str} {p pos : Pos} {k : Nat} {f C : Addr} {fd : FuncData} {ps : List Str} {sp : Sp} {dvs : List V} {ds : List Value}
end
end L2

set_option Elab.async false
set_option linter.all false
set_option maxRecDepth 100000
set_option maxHeartbeats 4000000
namespace L2
open PySem PySem.Spec PyProof.Rows
/-! ### an exception in flight, its object known -/
abbrev excF (C : Addr) (od : Option Addr) (t : Addr) (tb : Value) : Obj := { cls := .ref C, dict := od, data := .fields #[.ref t, tb, .none, .none, .bool false, .none] }
/-- it has been noted: its traceback stands outside the base -/
def TrS (h base : Heap) (e C : Addr) (od : Option Addr) (t : Addr) : Prop := ∃ (tb : Addr) (oT : Obj) (ts : Array Value), h.get? e = some (excF C od t (.ref tb)) ∧ base.get? tb = none ∧ tb ≠ e ∧ h.get? tb = some oT ∧ oT.data = .fields ts ∧ ts[3]? = some .none
section
variable {M : Model} {A : Around} {E : Value → Shared → Prop} {s : Shared} {base : Heap} {env : Env} {outer : List Env} {L e C t : Addr} {od : Option Addr} {tb0 head : Value} {hn : Bool} {Q : Unit → Shared → Prop}
theorem entryS (fr : A.frames = some (env :: outer)) (fl : s.heap.FunFrames base (env :: outer)) (hfl : env.frame = some L) (he : s.heap.get? e = some (excF C od t tb0)) (hst : base.StaysIn s.heap) (hb : base.get? e = none)
    (q : ∀ h' : Heap, base.StaysIn h' → h'.FunFrames base (env :: outer) → TrS h' base e C od t → s.heap.UpToSlots h' → Q () { s with heap := h' }) :
    wpAny M A (do
      let a ← frameOf env
      let pl ← entryPlaceOf L hn
      let b ← EntryCells.newEntry head a Value.none (rawInt L) Value.none pl
      setField (Value.ref e) 1 b) (fun _ s' => wpAny M A (setFlight (Value.ref e) none) Q E s') E s := by
  refine wpAny_bind (wpAny_frameOf_fun fr fl hfl fun h1 so => ?_)
  obtain ⟨sz, oth, sl⟩ := so
  refine wpAny_bind (wpAny_entryPlaceOf fun pl hpl => ?_)
  unfold EntryCells.newEntry newFields
  have eS : e ∉ List.filterMap (fun x : Env => x.frame) (env :: outer) := fun z => by
    obtain ⟨_, o, ho, hd⟩ := fl.mem z
    rw [he] at ho
    cases ho
    exact hd _ rfl
  have e1 : h1.get? e = some (excF C od t tb0) := (oth e eS).trans he
  have lp : (if pl.isEmpty = true then List.replicate 6 Value.none else pl).length = 6 := by
    rcases hpl with rfl | ⟨a, b, c, d, c9, b10, _, rfl⟩ <;> rfl
  have sz11 : ([head, Value.ref L, Value.none, rawInt L, Value.none] ++ if pl.isEmpty = true then List.replicate 6 Value.none else pl).length = 11 := by
    rw [List.length_append, lp]
    rfl
  have hL : A.frames = some (env :: outer) := fr
  generalize hcells : ([head, Value.ref L, Value.none, rawInt L, Value.none] ++ if pl.isEmpty = true then List.replicate 6 Value.none else pl) = cells at sz11 ⊢
  have c3 : cells[3]? = some (rawInt L) := by rw [← hcells]; rfl
  refine wpAny_bind (wpAny_newObj_type ?_ (by show sizeOk (Data.fields cells.toArray); unfold sizeOk; simp only [List.size_toArray, sz11]; decide))
  dsimp only
  have hlt : e < h1.objs.size := Heap.lt_size e1
  have ne : h1.objs.size ≠ e := Nat.ne_of_gt hlt
  refine wpAny_setField (Heap.get?_push_of_some _ e1) rfl (by show 1 < 6; decide) ?_
  have x2 : ((h1.push { cls := .type "traceback", data := .fields cells.toArray }).update e (Obj.mapFields fun x => x.setIfInBounds 1 (.ref h1.objs.size))).get? e = some (excF C od t (.ref h1.objs.size)) :=
    Heap.get?_update_self _ (Heap.get?_push_of_some _ e1) rfl
  have x3 : ((h1.push { cls := .type "traceback", data := .fields cells.toArray }).update e (Obj.mapFields fun x => x.setIfInBounds 1 (.ref h1.objs.size))).get? h1.objs.size = some { cls := .type "traceback", data := .fields cells.toArray } := by
    rw [Heap.get?_update_ne _ _ _ _ ne]
    exact Heap.get?_push_size h1 rfl
  have x4 : ∀ b o, b ≠ e → h1.get? b = some o → ((h1.push { cls := .type "traceback", data := .fields cells.toArray }).update e (Obj.mapFields fun x => x.setIfInBounds 1 (.ref h1.objs.size))).get? b = some o := fun b o hbe hbo => by
    rw [Heap.get?_update_ne _ _ _ _ hbe]
    exact Heap.get?_push_of_some _ hbo
  generalize (h1.push { cls := .type "traceback", data := .fields cells.toArray }).update e (Obj.mapFields fun x => x.setIfInBounds 1 (.ref h1.objs.size)) = h2 at x2 x3 x4 ⊢
  unfold setFlight
  refine wpAny_bind (wpAny_field (x := .ref h1.objs.size) x2 rfl rfl ?_)
  rw [if_pos (show (Value.ref h1.objs.size != Value.none) = true from rfl)]
  refine wpAny_setField x3 rfl (by rw [List.size_toArray, sz11]; decide) ?_
  show Q () { s with heap := h2.update h1.objs.size (Obj.mapFields fun x => x.setIfInBounds 3 Value.none) }
  have y1 : ∀ b, b ≠ h1.objs.size → (h2.update h1.objs.size (Obj.mapFields fun x => x.setIfInBounds 3 Value.none)).get? b = h2.get? b := fun b hb' => Heap.get?_update_ne _ _ _ _ hb'
  have y2 : (h2.update h1.objs.size (Obj.mapFields fun x => x.setIfInBounds 3 Value.none)).get? h1.objs.size = some { cls := .type "traceback", data := .fields (cells.toArray.setIfInBounds 3 .none) } := Heap.get?_update_self _ x3 rfl
  have kp : ∀ b o, s.heap.get? b = some o → (∀ vs, o.data ≠ .fields vs) → ∃ sl, (h2.update h1.objs.size (Obj.mapFields fun x => x.setIfInBounds 3 Value.none)).get? b = some { o with slots := sl } := fun b o hbo hd => by
    obtain ⟨sl', hs'⟩ := sl b o hbo
    have n1 : b ≠ h1.objs.size := Nat.ne_of_lt (Heap.lt_size hs')
    have n2 : b ≠ e := fun z => by rw [z, he] at hbo; cases hbo; exact hd _ rfl
    exact ⟨sl', by rw [y1 b n1]; exact x4 b _ n2 hs'⟩
  refine q _ (fun b o hbo => ?_) (fl.of_keeps fun b o hbo hd => ?_) ?_ kp
  · have n0 : b ∉ List.filterMap (fun x : Env => x.frame) (env :: outer) := fun z => by
      rw [(fl.mem z).1] at hbo; cases hbo
    have hs' := (oth b n0).trans (hst b o hbo)
    have n1 : b ≠ h1.objs.size := Nat.ne_of_lt (Heap.lt_size hs')
    have n2 : b ≠ e := fun z => by rw [z, hb] at hbo; cases hbo
    rw [y1 b n1]
    exact x4 b o n2 hs'
  · obtain ⟨sl', hs'⟩ := kp b o hbo hd
    exact ⟨_, hs', rfl⟩
  · refine ⟨h1.objs.size, _, _, (by rw [y1 e (Ne.symm ne)]; exact x2), ?_, ne, y2, rfl, ?_⟩
    · cases z : base.get? h1.objs.size with
      | none => rfl
      | some o =>
        have := Heap.lt_size (hst _ o z)
        rw [← sz] at this
        exact absurd this (Nat.lt_irrefl _)
    · rw [Array.getElem?_setIfInBounds_self_of_lt (by rw [List.size_toArray, sz11]; decide)]
/-- the frame is noted, then the flight's mark goes: the exception new, or noted already -/
theorem noteS (fr : A.frames = some (env :: outer)) (fl : s.heap.FunFrames base (env :: outer)) (hfl : env.frame = some L) (hst : base.StaysIn s.heap) (hb : base.get? e = none)
    (he : s.heap.get? e = some (excF C od t .none) ∨ TrS s.heap base e C od t)
    (q : ∀ h' : Heap, base.StaysIn h' → h'.FunFrames base (env :: outer) → TrS h' base e C od t → s.heap.UpToSlots h' → Q () { s with heap := h' }) :
    wpAny M A (noteFrame (.ref e) env) (fun _ s' => wpAny M A (setFlight (.ref e) none) Q E s') E s := by
  unfold noteFrame
  rw [hfl]
  dsimp only
  rcases he with he | ⟨tb, oT, ts, h1, h2, h3, h4, h5, h6⟩
  · refine wpAny_bind (wpAny_field (x := Value.none) he rfl rfl ?_)
    rw [if_neg (show ¬ (Value.none != Value.none) = true by decide)]
    exact entryS fr fl hfl he hst hb q
  · refine wpAny_bind (wpAny_field (x := .ref tb) h1 rfl rfl ?_)
    rw [if_pos (show (Value.ref tb != Value.none) = true from rfl)]
    refine wpAny_bind (wpAny_field (x := Value.none) h4 h5 h6 ?_)
    rw [if_neg (show ¬ (Value.none == rawInt (L : Nat)) = true from fun z => by cases z)]
    have l3 : 3 < ts.size := by
      have := (Array.getElem?_eq_some_iff.mp h6).1
      exact this
    refine wpAny_bind (wpAny_setField h4 h5 l3 ?_)
    have z1 : ∀ b, b ≠ tb → (s.heap.update tb (Obj.mapFields fun x => x.setIfInBounds 3 Value.none)).get? b = s.heap.get? b := fun b hb' => Heap.get?_update_ne _ _ _ _ hb'
    have up : s.heap.UpToSlots (s.heap.update tb (Obj.mapFields fun x => x.setIfInBounds 3 Value.none)) := fun b o hbo hd => by
      have n : b ≠ tb := fun z => by rw [z, h4] at hbo; cases hbo; exact hd _ h5
      exact ⟨o.slots, by rw [z1 b n]; exact hbo⟩
    refine entryS (s := { s with heap := s.heap.update tb (Obj.mapFields fun x => x.setIfInBounds 3 Value.none) }) fr (fl.of_keeps fun b o hbo hd => ?_) hfl (tb0 := .ref tb) (by rw [z1 e (Ne.symm h3)]; exact h1) (fun b o hbo => ?_) hb fun h' a1 a2 a3 a4 => q h' a1 a2 a3 (up.trans a4)
    · obtain ⟨sl, hs⟩ := up b o hbo hd
      exact ⟨_, hs, rfl⟩
    · have n : b ≠ tb := fun z => by rw [z, h2] at hbo; cases hbo
      show (s.heap.update tb (Obj.mapFields fun x => x.setIfInBounds 3 Value.none)).get? b = some o
      rw [z1 b n]
      exact hst b o hbo
end
end L2

set_option Elab.async false
set_option linter.all false
set_option maxRecDepth 100000
set_option maxHeartbeats 4000000
namespace L2
open PySem PySem.Spec PyProof.Rows
def FlS (B : Heap) (l : List Env) (e C : Addr) (od : Option Addr) (t : Addr) (h : Heap) : Prop := B.StaysIn h ∧ B.get? e = none ∧ h.FunFrames B l ∧ TrS h B e C od t
structure FlyS (P : Program) (w : World) (outer : List Env) (H : Hp) (s : Shared) (C : Addr) (od : Option Addr) (t : Addr) (H' : Hp) (ea : Addr) (s' : Shared) : Prop where
  os : s'.os = s.os
  bare : AllBare s'.gens
  un : Un (frs outer) [] H H' s.heap s'.heap
  hok : HOk P w H' s'.heap
  nt : H' ea = none
  fly : ∃ B, FlS B outer ea C od t s'.heap ∧ (∀ b u, H' b = some u → ∃ o, B.get? b = some o) ∧ (∀ b o, s.heap.get? b = some o → H b = none → b ∉ frs outer → B.get? b = some o) ∧
    ∀ b o, s.heap.get? b = some o → b ∉ frs outer → ∃ o', B.get? b = some o'
abbrev CXs (P : Program) (w : World) : CXT := fun outer H s E e s' => ∃ ea C od t H', e = .ref ea ∧ FlyS P w outer H s C od t H' ea s' ∧ E (.ref C) od H'
section
variable {X : Cx} {pins : List (Addr × Obj)} {σ : St} {H H' : Hp} {s s' : Shared} {ea C t : Addr} {od : Option Addr} {M : Model} {E : Value → Shared → Prop}
theorem fly_madeS (I : Inv X pins σ H s) (hstk : X.stack = X.env :: X.outer) (hfl : X.env.frame = some X.env.locals) (hex : X.ex = []) (hx : H ea = some (excX ea C od t)) (hnew : X.H₀ ea = none) :
    wpAny M X.A (leaving X.env (.ref ea)) (fun _ s'' => FlyS X.prog X.w X.outer X.H₀ X.s₀ C od t (drop H ea) ea s'') E s := by
  have fr := frs_stack hstk hfl
  have he := excX_at I hx
  have fl : s.heap.FunFrames (PySem.W.hideAll s.heap (ea :: frs X.stack)) (X.env :: X.outer) := by
    have := I.stack
    rw [hstk] at this
    refine PySem.W.funFrames_hide this fun env he b hb => ?_
    rw [hstk]
    exact List.mem_cons_of_mem _ (List.mem_filterMap.mpr ⟨env, he, hb⟩)
  have fr0 := I.ok.frames
  rw [hstk] at fr0
  have neL : ∀ b o, X.s₀.heap.get? b = some o → b ≠ X.env.locals := fun b o e => Nat.ne_of_lt (Nat.lt_of_lt_of_le (Heap.lt_size e) I.ok.above)
  have noEx : ∀ b : Addr, b ∉ X.ex := fun b => by rw [hex]; simp
  have inB : ∀ b o, s.heap.get? b = some o → b ≠ ea → b ∉ frs X.stack → (PySem.W.hideAll s.heap (ea :: frs X.stack)).get? b = some o := fun b o e n1 n => PySem.W.hideAll_get _ e (fun z => (List.mem_cons.mp z).elim n1 n)
  have trB : ∀ b u, H b = some u → b ∉ frs X.stack := fun b u e n => by rw [I.stkFree b n] at e; cases e
  have eaS : ∀ u, X.s₀.heap.get? ea = some u → False := fun u e => by
    have := I.base.free ea u e hnew (noEx ea)
    rw [hx] at this; cases this
  unfold leaving
  refine wpAny_bind (noteS fr0 fl hfl (fun b o q => PySem.W.of_hideAll _ q) (PySem.W.hideAll_none _ List.mem_cons_self) (.inl he) fun h2 x1 x2 x3 x4 => ?_)
  have stay : ∀ b o, s.heap.get? b = some o → b ≠ ea → b ∉ frs X.stack → h2.get? b = some o := fun b o e n1 n => x1 b o (inB b o e n1 n)
  have x2' : h2.FunFrames (PySem.W.hideAll s.heap (ea :: frs X.stack)) X.outer := by
    unfold Heap.FunFrames at x2
    exact x2.2.2
  have nEa : ∀ b o, X.s₀.heap.get? b = some o → b ≠ ea := fun b o e z => by subst z; exact eaS o e
  refine ⟨I.os, I.bare, ⟨fun b o e n hb _ => ?_, fun b o e n hb _ => ?_, fun b o e n _ => ?_, fun b o e _ => ?_, fun b xs e => ?_, fun b u v e => ?_, fun b ps e => ?_⟩, ?_, drop_same, ?_⟩
  · refine stay b o (I.base.keep b o e n hb (noEx b)) (nEa b o e) ?_
    rw [fr]
    exact fun z => (List.mem_cons.mp z).elim (neL b o e) hb
  · obtain ⟨sl, e1⟩ := I.base.slot b o e n hb (noEx b)
    obtain ⟨_, o', ho', hd⟩ := I.funs.mem hb
    rw [e1] at ho'
    cases ho'
    obtain ⟨sl2, e2⟩ := x4 b _ e1 hd
    exact ⟨sl2, e2⟩
  · rw [drop_ne (nEa b o e)]
    exact I.base.free b o e n (noEx b)
  · obtain ⟨o1, e1⟩ := I.base.there b o e (noEx b)
    by_cases hb : b ∈ frs X.stack
    · obtain ⟨_, o', ho', hd⟩ := I.stack.mem hb
      obtain ⟨sl2, e2⟩ := x4 b o' ho' hd
      exact ⟨_, e2⟩
    · exact ⟨o1, stay b o1 e1 (nEa b o e) hb⟩
  · have e1 := I.base.tups b xs e
    rw [drop_ne (fun z => by rw [z, hx] at e1; cases e1)]; exact e1
  · have e1 := I.base.frzs b u v e
    rw [drop_ne (fun z => by rw [z, hx] at e1; cases e1)]; exact e1
  · obtain ⟨more, e1⟩ := I.base.tbls b ps e
    exact ⟨more, by rw [drop_ne (fun z => by rw [z, hx] at e1; cases e1)]; exact e1⟩
  · exact (I.hok.drop hx).sameAt fun b u o e q => stay b o q (drop_some e).1 (trB b u (drop_some e).2)
  · refine ⟨_, ⟨x1, PySem.W.hideAll_none _ List.mem_cons_self, x2', x3⟩, fun b u e => ?_, fun b o e n hb => ?_, fun b o e hb => ?_⟩
    · obtain ⟨n1, e⟩ := drop_some e
      obtain ⟨o, q⟩ := I.hok.rec e
      exact ⟨o, inB b o q n1 (trB b u e)⟩
    · refine inB b o (I.base.keep b o e n hb (noEx b)) (nEa b o e) ?_
      rw [fr]
      exact fun z => (List.mem_cons.mp z).elim (neL b o e) hb
    · obtain ⟨o1, e1⟩ := I.base.there b o e (noEx b)
      refine ⟨o1, inB b o1 e1 (nEa b o e) ?_⟩
      rw [fr]
      exact fun z => (List.mem_cons.mp z).elim (neL b o e) hb
/-- an exception of a callee leaves the frame -/
theorem fly_onS (I : Inv X pins σ H s) (hstk : X.stack = X.env :: X.outer) (hfl : X.env.frame = some X.env.locals) (hex : X.ex = []) (F : FlyS X.prog X.w X.stack H s C od t H' ea s') :
    wpAny M X.A (leaving X.env (.ref ea)) (fun _ s'' => FlyS X.prog X.w X.outer X.H₀ X.s₀ C od t H' ea s'') E s' := by
  have fr := frs_stack hstk hfl
  have fr0 := I.ok.frames
  rw [hstk] at fr0
  obtain ⟨B, fl, tr, old, olds⟩ := F.fly
  have neL : ∀ b o, X.s₀.heap.get? b = some o → b ≠ X.env.locals := fun b o e => Nat.ne_of_lt (Nat.lt_of_lt_of_le (Heap.lt_size e) I.ok.above)
  have noEx : ∀ b : Addr, b ∉ X.ex := fun b => by rw [hex]; simp
  have nst : ∀ b o, X.s₀.heap.get? b = some o → b ∉ frs X.outer → b ∉ frs X.stack := fun b o e hb => by
    rw [fr]
    exact fun z => (List.mem_cons.mp z).elim (neL b o e) hb
  have fl' := fl
  rw [hstk] at fl'
  unfold leaving
  refine wpAny_bind (noteS fr0 fl'.2.2.1 hfl fl'.1 fl'.2.1 (.inr fl'.2.2.2) fun h2 y1 y2 y3 x2 => ?_)
  have x1 : FlS B X.outer ea C od t h2 := ⟨y1, fl'.2.1, (by unfold Heap.FunFrames at y2; exact y2.2.2), y3⟩
  have oldB : ∀ b o, X.s₀.heap.get? b = some o → X.H₀ b = none → b ∉ frs X.outer → B.get? b = some o := fun b o e n hb =>
    old b o (I.base.keep b o e n hb (noEx b)) (I.base.free b o e n (noEx b)) (nst b o e hb)
  refine ⟨F.os.trans I.os, F.bare, ⟨fun b o e n hb _ => x1.1 b o (oldB b o e n hb), fun b o e n hb _ => ?_, fun b o e n _ => ?_, fun b o e _ => ?_, fun b xs e => F.un.tups b xs (I.base.tups b xs e), fun b o u e => F.un.frzs b o u (I.base.frzs b o u e), fun b ps e => ?_⟩, F.hok.sameAt fun b u o e q => ?_, F.nt, ⟨B, x1, tr, oldB, fun b o e hb => ?_⟩⟩
  · obtain ⟨sl, e1⟩ := I.base.slot b o e n hb (noEx b)
    obtain ⟨sl1, e2⟩ := F.un.any e1 (I.base.free b o e n (noEx b)) (by simp)
    have hd : ∀ vs, o.data ≠ .fields vs := by
      obtain ⟨_, o', ho', hd⟩ := I.funs.mem hb
      rw [e1] at ho'
      cases ho'
      exact hd
    obtain ⟨sl2, e3⟩ := x2 b _ e2 hd
    exact ⟨sl2, e3⟩
  · obtain ⟨o', e1⟩ := I.base.there b o e (noEx b)
    exact F.un.free b o' e1 (I.base.free b o e n (noEx b)) (by simp)
  · obtain ⟨o1, e1⟩ := I.base.there b o e (noEx b)
    obtain ⟨o2, e2⟩ := F.un.there b o1 e1 (by simp)
    by_cases hb : b ∈ frs X.stack
    · obtain ⟨_, o', ho', hd⟩ := fl.2.2.1.mem hb
      obtain ⟨sl2, e3⟩ := x2 b o' ho' hd
      exact ⟨_, e3⟩
    · obtain ⟨o3, e3⟩ := olds b o1 e1 hb
      exact ⟨o3, x1.1 b o3 e3⟩
  · obtain ⟨m1, e1⟩ := I.base.tbls b ps e
    obtain ⟨m2, e2⟩ := F.un.tbls b _ e1
    exact ⟨m1 ++ m2, by rw [e2, Array.append_assoc]⟩
  · obtain ⟨o3, e3⟩ := tr b u e
    have e4 := fl.1 b o3 e3
    rw [q] at e4
    cases e4
    exact x1.1 b o e3
  · obtain ⟨o1, e1⟩ := I.base.there b o e (noEx b)
    exact olds b o1 e1 (nst b o e hb)
end
end L2

set_option Elab.async false
set_option linter.all false
set_option maxRecDepth 100000
set_option maxHeartbeats 4000000
namespace L2
open PySem PySem.Spec PyProof.Rows
/-- a caught exception, its object known -/
abbrev excC (ea C : Addr) (od : Option Addr) (t : Addr) : HO := .ext fun h => ∃ tb, h.get? ea = some (excF C od t tb)
theorem excC_ok {P : Program} {w : World} {H : Hp} {h : Heap} {ea C t : Addr} {od : Option Addr} {tb : Value} (e : h.get? ea = some (excF C od t tb)) : ObjOk P w H h ea (excC ea C od t) :=
  ⟨⟨tb, e⟩, ⟨_, e⟩, fun g1 g2 ⟨tb', q⟩ k => ⟨tb', k _ q⟩⟩
section
variable {X : Cx} {pins : List (Addr × Obj)} {σ : St} {H H' : Hp} {s s' : Shared} {ea C t : Addr} {od : Option Addr} {M : Model} {A : Around} {E : Value → Shared → Prop} {h5 : Heap}
theorem FlyS.move {P : Program} {w : World} {l : List Env} {B : Heap} (F : FlyS P w l H s C od t H' ea s') (fl : FlS B l ea C od t s'.heap) (tr : ∀ b u, H' b = some u → ∃ o, B.get? b = some o)
    (old : ∀ b o, s.heap.get? b = some o → H b = none → b ∉ frs l → B.get? b = some o) (olds : ∀ b o, s.heap.get? b = some o → b ∉ frs l → ∃ o', B.get? b = some o')
    (fl5 : FlS B l ea C od t h5) (up : s'.heap.UpToSlots h5) : FlyS P w l H s C od t H' ea { s' with heap := h5 } := by
  refine ⟨F.os, F.bare, ⟨fun b o e n hb _ => fl5.1 b o (old b o e n hb), fun b o e n hb _ => ?_, F.un.free, fun b o e _ => ?_, F.un.tups, F.un.frzs, F.un.tbls⟩, F.hok.sameAt fun b u o e q => ?_, F.nt, ⟨B, fl5, tr, old, olds⟩⟩
  · obtain ⟨sl, e1⟩ := F.un.slot b o e n hb (by simp)
    obtain ⟨_, o', ho', hd⟩ := fl.2.2.1.mem hb
    rw [e1] at ho'
    cases ho'
    obtain ⟨sl2, e2⟩ := up b _ e1 hd
    exact ⟨sl2, e2⟩
  · by_cases hb : b ∈ frs l
    · obtain ⟨_, o', ho', hd⟩ := fl5.2.2.1.mem hb
      exact ⟨o', ho'⟩
    · obtain ⟨o3, e3⟩ := olds b o e hb
      exact ⟨o3, fl5.1 b o3 e3⟩
  · obtain ⟨o3, e3⟩ := tr b u e
    have e4 := fl.1 b o3 e3
    rw [q] at e4
    cases e4
    exact fl5.1 b o e3
theorem landS {B : Heap} {l : List Env} {Q : Unit → Shared → Prop} (fl : FlS B l ea C od t s.heap) (q : ∀ h' : Heap, FlS B l ea C od t h' → s.heap.UpToSlots h' → Q () { s with heap := h' }) : wpAny M A (setFlight (.ref ea) none) Q E s := by
  obtain ⟨f1, f2, f3, tb, oT, ts, h1, h2, h3, h4, h5, h6⟩ := fl
  unfold setFlight
  refine wpAny_bind (wpAny_field (x := .ref tb) h1 rfl rfl ?_)
  rw [if_pos (show (Value.ref tb != Value.none) = true from rfl)]
  have l3 : 3 < ts.size := (Array.getElem?_eq_some_iff.mp h6).1
  refine wpAny_setField h4 h5 l3 ?_
  show Q () { s with heap := s.heap.update tb (Obj.mapFields fun x => x.setIfInBounds 3 Value.none) }
  have z1 : ∀ b, b ≠ tb → (s.heap.update tb (Obj.mapFields fun x => x.setIfInBounds 3 Value.none)).get? b = s.heap.get? b := fun b hb' => Heap.get?_update_ne _ _ _ _ hb'
  have up : s.heap.UpToSlots (s.heap.update tb (Obj.mapFields fun x => x.setIfInBounds 3 Value.none)) := fun b o hbo hd => by
    have n : b ≠ tb := fun z => by rw [z, h4] at hbo; cases hbo; exact hd _ h5
    exact ⟨o.slots, by rw [z1 b n]; exact hbo⟩
  obtain ⟨oc, odd, da, osl⟩ := oT
  have h5' : da = .fields ts := h5
  subst h5'
  have z2 : (s.heap.update tb (Obj.mapFields fun x => x.setIfInBounds 3 Value.none)).get? tb = some ⟨oc, odd, .fields (ts.setIfInBounds 3 .none), osl⟩ := Heap.get?_update_self _ h4 rfl
  refine q _ ⟨fun b o hbo => ?_, f2, f3.of_keeps fun b o hbo hd => ?_, tb, _, _, (by rw [z1 ea (Ne.symm h3)]; exact h1), h2, h3, z2, rfl, ?_⟩ up
  · have n : b ≠ tb := fun z => by rw [z, h2] at hbo; cases hbo
    rw [z1 b n]
    exact f1 b o hbo
  · obtain ⟨sl, hs⟩ := up b o hbo hd
    exact ⟨_, hs, rfl⟩
  · rw [Array.getElem?_setIfInBounds_self_of_lt l3]
theorem FlyS.track {B : Heap} (I : Inv X pins σ H s) (F : FlyS X.prog X.w X.stack H s C od t H' ea s') (fl : FlS B X.stack ea C od t s'.heap) (old : ∀ b o, s.heap.get? b = some o → H b = none → b ∉ frs X.stack → B.get? b = some o) :
    Inv X pins σ (upd H' ea (excC ea C od t)) s' := by
  have I1 : Inv X pins σ H' s' := I.call' F.os F.un F.hok F.bare fun b z => nomatch z
  obtain ⟨tb, oT, ts, he, _⟩ := fl.2.2.2
  have nfr : ea ∉ frs X.stack := fun z => by
    obtain ⟨_, o', ho', hd'⟩ := fl.2.2.1.mem z
    rw [he] at ho'
    cases ho'
    exact hd' _ rfl
  have nold : ∀ b o, s.heap.get? b = some o → H b = none → b ≠ ea := fun b o e n z => by
    subst z
    have := old b o e n nfr
    rw [fl.2.1] at this
    cases this
  refine I1.track F.nt (excC_ok he) (fun u e n hx => ?_) (fun z => ?_) (fun x c e z => ?_) fun p hp => ?_
  · by_cases hb : ea ∈ X.fs
    · obtain ⟨_, o', ho', hd'⟩ := I1.funs.mem hb
      rw [he] at ho'
      cases ho'
      exact hd' _ rfl
    · exact nold ea u (I.base.keep ea u e n hb hx) (I.base.free ea u e n hx) rfl
  · obtain ⟨m, ⟨oL, es, ep, hoL, hdL, _⟩, _⟩ := I1.loc
    rw [z, he] at hoL
    cases hoL
    cases hdL
  · obtain ⟨v, oc, hoc, hdc⟩ := I1.cell x c e
    rw [z, he] at hoc
    cases hoc
    cases hdc
  · obtain ⟨q1, q2, _⟩ := I.pin p hp
    exact nold p.1 p.2 q1 q2
end
/-! ### raising, passing, defs -/
def RaisesS (X : Cx) (E : XK) : Prop := ∀ (pins : List (Addr × Obj)) (σ : St) (H : Hp) (s : Shared) (ea C : Addr) (od : Option Addr) (t : Addr), Inv X pins σ H s → H ea = some (excX ea C od t) → X.H₀ ea = none → E (.ref C) od (drop H ea) → X.xe (.ref ea) s
def tRaiseS (K : PySem.W.Frag) (H0 : Hp) (E : XK) (te : TE) : TS := fun _ σ H => te σ H fun x H1 => ∃ (ea C : Addr) (od : Option Addr) (t : Addr), x = .ref ea ∧ H1 ea = some (excX ea C od t) ∧ ExcCls K C ∧ xmIn K C = true ∧ H0 ea = none ∧ E (.ref C) od (drop H1 ea)
section
variable {X : Cx} {E : XK} {pos : Pos} {e : Expr} {te : TE}
theorem ps_raiseS (hX : RaisesS X E) (hc : X.calm = true) (he : PE X e te) : PS X (.Raise (some e) none pos) (tRaiseS X.K X.H₀ E te) := by
  refine ⟨?_⟩
  intro pins s σ H D I h
  rw [arm_exec_Raise]
  refine wpAny_bind (wpAny_standAt ?_)
  unfold raiseStmt
  show wpAny _ _ (do
    let xv ← (do
      let v ← eval e X.env
      standAt pos
      pure v)
    _) _ _ _
  refine wpAny_bind (wpAny_bind (thn (he pins s σ H _ I h) fun u s1 ⟨x, H1, I1, rx, ea, C, od, t, ex, hx, c, m, hn, q⟩ => ?_))
  subst ex
  obtain rfl : u = Value.ref ea := rx
  refine wpAny_bind (wpAny_standAt (wpAny_pure ?_))
  have ho := excX_at I1 hx
  have XO := xobj_of I1.kIn m
  obtain ⟨nm, q', N, bs, bm, sn, sub, ab, col, dd, k0, k1, k2, k3, k5, hC, b1, b2, b3, b4⟩ := XO.ob
  have hq : X.xe (.ref ea) s1 := hX pins σ H1 s1 ea C od t I1 hx hn q
  have LT : PySem.W.Looks (model X.prog X.w) s1.heap (typeOf (.ref ea)) (.ref C) := (PySem.W.Looks.ld ho).andThen .now
  have LTC : PySem.W.Looks (model X.prog X.w) s1.heap (typeOf (.ref C)) (.type "type") := (PySem.W.Looks.ld hC).andThen .now
  have LB := PySem.W.looks_mroIn (M := model X.prog X.w) I1.kIn c.be
  have LIs : PySem.W.Looks (model X.prog X.w) s1.heap (isType (.ref ea)) false := (PySem.W.Looks.ld ho).andThen .now
  have hcalm := I1.ok.hd hc
  obtain ⟨hh, g, d, tk, os⟩ := s1
  dsimp only
  refine wpAny_bind (wpAny_pure (wpAny_bind (wpAny_holding ?_)))
  unfold excFromValue isExcClass
  refine wpAny_bind (wpAny_bind (LIs.at ?_))
  rw [if_neg Bool.false_ne_true]
  refine wpAny_pure ?_
  rw [if_neg Bool.false_ne_true]
  unfold isInstance
  refine wpAny_bind (wpAny_bind (LT.at (LB.at ?_)))
  rw [if_pos rfl]
  refine wpAny_pure ?_
  dsimp only
  refine wpAny_bind (LIs.at ?_)
  rw [if_neg Bool.false_ne_true]
  unfold raisedInstance
  refine wpAny_bind (wpAny_bind (LT.at (wpAny_bind (LTC.at ?_))))
  rw [if_pos (by decide)]
  refine wpAny_pure (wpAny_bind ?_)
  unfold setFlight
  refine wpAny_bind (wpAny_field (x := Value.none) ho rfl rfl ?_)
  rw [if_neg (show ¬ (Value.none != Value.none) = true by decide)]
  refine wpAny_pure ?_
  unfold raiseNew
  refine wpAny_bind (wpAny_handled_none hcalm ?_)
  exact wpAny_throw hq
end
section
variable {P : Program} {w : World} {K : PySem.W.Frag} {mg : Str → Option Value} {base : Heap} {N : List Str} {qual : Str} {scope : Scope} {f : Addr} {cd : Value} {A : Around} {outer : List Env} {s : Shared} {H : Hp} {E E' : XK}
theorem raisesS_cx : RaisesS (cxOf (CXs P w) P w K mg base N qual scope f cd A outer s H E) E := fun pins σ H1 s1 ea C od t I hx hn q => by
  refine wpAny_mono (fly_madeS I rfl rfl rfl hx hn) (fun _ s2 F => ?_) fun _ _ z => z
  exact ⟨ea, _, _, _, _, rfl, F, q⟩
theorem passS (hE : ∀ c d H, E' c d H → E c d H) : Passes (CXs P w) (cxOf (CXs P w) P w K mg base N qual scope f cd A outer s H E) E' := fun pins σ H1 s1 e s' I q => by
  obtain ⟨ea, C, od, t, H', rfl, F, q⟩ := q
  refine wpAny_mono (fly_onS I rfl rfl rfl F) (fun _ s2 F2 => ?_) fun _ _ z => z
  exact ⟨ea, C, od, t, H', rfl, F2, hE _ _ _ q⟩
theorem Fun.okS {x : Str} {st : Stmt} {fd : FuncData} {ps : List Str} {k : Nat} {sp : Sp} (F : Fun K x qual st f fd) (S : FnScope N ps (defScope st)) (len : ∀ vs H Q E, sp vs H Q E → vs.length = ps.length)
    (hbody : ∀ (cdv : Value) (A : Around) (outer : List Env) (s : Shared) (H : Hp) (vs : List V) (Q : VK) (E : XK), Room k (A.deeper (envOfC qual (defScope st) s.heap.objs.size f cdv)) → sp vs H Q E →
      ∃ t, PSs (cxOf (CXs P w) P w K mg base N qual (defScope st) f cdv A outer s H E) (defBody st) t ∧ t { nx := fun _ H' => Q .non H', rt := Q } (start N vs) H) : FnOk P w K mg base (CXs P w) (k + 1) f fd ps sp := by
  obtain ⟨oc, od, kV, doc, pm, an, cdv, ct, osl, rfl, lk, hcd⟩ := F.ex
  exact fn_of lk hcd S len fun A outer s H vs Q E hr hsp => hbody cdv A outer s H vs Q E hr hsp
end
structure CalleeS (P : Program) (w : World) (K : PySem.W.Frag) (mg : Str → Option Value) (base : Heap) (k : Nat) (x : Str) (f : Addr) (fd : FuncData) (ps : List Str) (sp : Sp) : Prop where
  ok : FnOk P w K mg base (CXs P w) k f fd ps sp
  mg : mg x = some (.ref f)
  kp : PySem.W.keepIn K (.ref f) = true
  bd : Binds K fd ps []
section
variable {X : Cx} {k : Nat} {f : Addr} {fd : FuncData} {ps : List Str} {sp : Sp} {E : XK} {x : Str} {p pos : Pos} {e : Expr} {es : List Expr} {t : TA}
theorem cS (c : CalleeS X.prog X.w X.K X.mg X.base k x f fd ps sp) (hp : Passes (CXs X.prog X.w) X E) (hr : Room k X.A) (ha : PA X (e :: es) t) (hg : Gl X x := by rfl) (hdb : (x == ("__debug__" : Str)) = false := by decide)
    (h1 : isSt e = false := by rfl) (h2 : es.any isSt = false := by rfl) : PE X (.Call (.Name x p) (e :: es) [] pos) (tCall sp [] E t) :=
  pe_call c.ok hr hg c.mg c.kp c.bd .nil hp ha hdb (star_cons h1) (star_any h2)
end
end L2

set_option Elab.async false
set_option linter.all false
set_option maxRecDepth 100000
set_option maxHeartbeats 4000000
namespace L2
open PySem PySem.Spec PyProof.Rows
/-! ### except clauses, one after the other -/
abbrev HK := Addr → Option Addr → Addr → Addr → Ends → St → Hp → Prop
structure PH (X : Cx) (hs : List ExceptHandler) (th : HK) : Prop where
  run : ∀ (pins : List (Addr × Obj)) (σ : St) (H1 : Hp) (s1 : Shared) (H' : Hp) (ea C : Addr) (od : Option Addr) (t : Addr) (s5 : Shared) (D : Ends), Inv X pins σ H1 s1 → FlyS X.prog X.w X.stack H1 s1 C od t H' ea s5 → th C od t ea D σ H' → wpAny (model X.prog X.w) X.A (handleBy (.ref ea) X.env hs) (SP X pins D) X.xe s5
section
variable {X : Cx} {hs : List ExceptHandler} {th : HK} {c n : Str} {C' : Addr} {i : Nat} {ts : TS} {b₀ : Stmt} {suite : List Stmt} {np hpos : Pos}
theorem ph_nil : PH X [] (fun _ _ _ _ _ _ _ => False) := ⟨fun _ _ _ _ _ _ _ _ _ _ _ _ _ h => h.elim⟩
end
/-! ### try, with such clauses -/
def Passes2 (X : Cx) (pins : List (Addr × Obj)) (σ : St) (E : XK) : Prop := ∀ (H : Hp) (s : Shared) (e : Value) (s' : Shared), Inv X pins σ H s → CXs X.prog X.w X.stack H s E e s' → X.xe e s'
def tTryS (tb : XK → TS) (th : HK) : TS := fun D σ H => tb (fun cls od H' => ∃ C, cls = .ref C ∧ ∀ t ea, H' ea = none → th C od t ea D σ H') D σ H
section
variable {X : Cx} {st : Stmt} {h₀ : ExceptHandler} {hs : List ExceptHandler} {pos : Pos} {tb : XK → TS} {th : HK}
theorem ps_tryS (hstk : X.stack = X.env :: X.outer) (hfl : X.env.frame = some X.env.locals) (hh : PH X (h₀ :: hs) th)
    (hb : ∀ (pins : List (Addr × Obj)) (σ : St) (xe : Value → Shared → Prop) (E : XK), Passes2 (X.wish xe) pins σ E → PS1 (X.wish xe) pins σ st (tb E)) : PS X (.Try [st] (h₀ :: hs) [] [] pos) (tTryS tb th) := by
  refine ⟨?_⟩
  intro pins s σ H D I h
  have fr0 := I.ok.frames
  rw [hstk] at fr0
  refine wpAny_Try_except ?_
  have key : Passes2 (X.wish (tryXe X pins D (h₀ :: hs))) pins σ (fun cls od H' => ∃ C, cls = .ref C ∧ ∀ t ea, H' ea = none → th C od t ea D σ H') := by
    intro H1 s1 e s2 I1 q
    obtain ⟨ea, C, od, t, H', rfl, F, C0, e0, q⟩ := q
    cases e0
    have I1 := I1.unwish
    have F : FlyS X.prog X.w X.stack H1 s1 C od t H' ea s2 := F
    obtain ⟨B, fl, tr, old, olds⟩ := F.fly
    have fl' := fl
    rw [hstk] at fl'
    refine noteS fr0 fl'.2.2.1 hfl fl'.1 fl'.2.1 (.inr fl'.2.2.2) fun h5 y1 y2 y3 y4 => ?_
    have fl5 : FlS B X.stack ea C od t h5 := by rw [hstk]; exact ⟨y1, fl'.2.1, y2, y3⟩
    have F5 := F.move fl tr old olds fl5 y4
    exact hh.run pins σ H1 s1 H' ea C od t _ D I1 F5 (q t ea F.nt)
  have run := (hb pins σ _ _ key).run s H D (I.wish _) h
  refine wpAny_execs_cons (thn run fun f s1 q => ?_)
  · cases f with
    | next => exact wpAny_execs_nil (wpAny_execs_nil (SP.unwish (f := .next) q))
    | ret v => exact SP.unwish (f := .ret v) q
    | brk => exact SP.unwish (f := .brk) q
    | cont => exact SP.unwish (f := .cont) q
end
section
variable {X : Cx} {pins : List (Addr × Obj)} {σ : St} {e : Expr} {es : List Expr} {te : TE} {t : TA} {E : XK} {x m : Str} {p pos apos : Pos} {k : Nat} {f C : Addr} {fd : FuncData} {ps : List Str} {sp : Sp} {dvs : List V} {ds : List Value}
theorem p2_make (M : Mk X.K C f) (F : FnOk X.prog X.w X.K X.mg X.base (CXs X.prog X.w) k f fd ps sp) (hr : Room (k + 1) X.A) (hg : Gl X x) (hm : X.mg x = some (.ref C)) (hb : Binds X.K fd ps ds) (hd : Vals dvs ds) (hp : Passes2 X pins σ E)
    (ha : PA X (e :: es) t) (hdb : (x == ("__debug__" : Str)) = false := by decide) (he : starEach (e :: es) X.env = (false, eval e X.env) :: starEach es X.env := by rfl) (hpl : (backTo pos (starEach es X.env)).any (·.1) = false := by rfl) :
    PE1 X pins σ (.Call (.Name x p) (e :: es) [] pos) (tMake C sp dvs E t) := by
  refine ⟨fun s H Q I h => ?_⟩
  refine wpAny_Call_Name_kw (ld_glob I hg hm ?_ hdb)
  refine PySem.W.callWith_K (h₀ := X.base) I.ok.mod.kin M.kp (thn (ha pos pins s σ H _ I h) fun us s1 ⟨vs, H1, I1, r, q⟩ => ⟨I1.kIn, ?_⟩) he hpl
  have hq := q (s1.heap.objs.size + 1) s1.heap.objs.size (I1.hok.fresh (Nat.le_succ _)) (I1.hok.fresh (Nat.le_refl _)) (Nat.ne_of_lt (Nat.lt_succ_self _))
  have I2 := Inv.made (C := C) I1
  have r2 : Vals (V.ref (s1.heap.objs.size + 1) :: (vs ++ dvs)) (Value.ref (s1.heap.objs.size + 1) :: (us ++ ds)) := .cons rfl (r.append hd)
  have hl : (Value.ref (s1.heap.objs.size + 1) :: us ++ ds).length = ps.length := by
    have e := r2.length
    rw [F.len _ _ _ _ hq] at e
    exact e.symm
  refine wpAny_call (make_map (f := f) I1.kIn M.makes M.init (beq_iff_eq.mp M.fn) (codeAny_mono (F.run _ X.stack _ _ ⟨Value.ref (s1.heap.objs.size + 1) :: us, []⟩ (Value.ref (s1.heap.objs.size + 1) :: (us ++ ds)) _ _ E (hr.make C us [])
    (I2.env0.make C us []) (hb _ (Value.ref (s1.heap.objs.size + 1) :: us) I2.kIn hl) r2 hq) fun r s' hq' => ?_))
  cases r with
  | error e => exact hp _ _ e s' I2 hq'
  | ok fl =>
    cases fl with
    | ret u =>
      obtain ⟨v, H', I3, rv, ev, q3⟩ := I2.after hq'
      subst ev
      exact ⟨rv, ⟨V.ref (s1.heap.objs.size + 1), H', I3, rfl, q3⟩⟩
    | next => exact False.elim hq'
    | brk => exact False.elim hq'
    | cont => exact False.elim hq'
end
/-! ### e.x, e a caught exception -/
section
variable {X : Cx} {pins : List (Addr × Obj)} {σ : St} {H : Hp} {s : Shared} {x C t : Addr} {f : Str} {A : Around} {E : Value → Shared → Prop}
theorem getC_ok {b : Bool} {dx : Addr} {fs : List (Str × V)} {v : V} {Q : Value → Shared → Prop} (I : Inv X pins σ H s) (e : H x = some (excC x C (some dx) t)) (ed : H dx = some (.xd fs)) (c : ExcCls X.K C) (m : XSet X.K C) (n : NoAttr X.K C f) (l : fs.lookup f = some v)
    (h : ∀ u s', Inv X pins σ H s' → RelV v u → Q u s') : wpAny (model X.prog X.w) A (getAttr (.ref x) f b) Q E s := by
  obtain ⟨tb, hx⟩ := (I.hok x _ e).1
  obtain ⟨mA, ns, r⟩ := I.hok dx _ ed
  obtain ⟨u, hu, ru⟩ := RelO.some_of (v := v) (o := mA f) (by rw [← l]; exact r f)
  exact get_exc c m I.kIn n hx rfl rfl rfl ns hu (handed_of ru) (h u _ (I.tok _) ru)
end
def tFldC (K : PySem.W.Frag) (ta : TE) (f : Str) : TE := fun σ H Q => ta σ H fun x H1 => ∃ (a C t dx : Addr) (fs : List (Str × V)) (v : V), x = .ref a ∧ H1 a = some (excC a C (some dx) t) ∧ H1 dx = some (.xd fs) ∧ ExcCls K C ∧ XSet K C ∧ NoAttr K C f ∧ fs.lookup f = some v ∧ Q v H1
section
variable {X : Cx} {e : Expr} {f : Str} {pos : Pos} {ta : TE}
theorem pe_fldC (he : PE X e ta) (hb : attributeBase e f X.env (eval e X.env) = eval e X.env) : PE X (.Attribute e f pos) (tFldC X.K ta f) := by
  refine ⟨?_⟩
  intro pins s σ H Q I h
  refine attr_of hb (thn (he pins s σ H _ I h) fun u s1 ⟨x, H1, I1, rx, a, C, t, dx, fs, v, ex, ea, ed, c, m, n, l, q⟩ => ?_)
  subst ex
  obtain rfl : u = Value.ref a := rx
  exact getC_ok I1 ea ed c m n l fun u' s2 I2 ru => ⟨v, H1, I2, ru, q⟩
end
end L2

set_option Elab.async false
set_option linter.all false
set_option maxRecDepth 100000
set_option maxHeartbeats 4000000
namespace L2
open PySem PySem.Spec PyProof.Rows PySem.Builtin
section
variable {prog : Program} {w : World} {A : Around} {E : Value → Shared → Prop} {s : Shared} {it ea C t : Addr} {od : Option Addr} {tb : Value} {x left step : Int} {Q : Option Value → Shared → Prop}
end
end L2

set_option Elab.async false
set_option linter.all false
set_option maxRecDepth 100000
set_option maxHeartbeats 4000000
namespace L2
open PySem PySem.Spec PyProof.Rows
/-! ### a list comprehension over a range, within an except suite -/
structure TurnH (ea : Addr) (P : Program) (w : World) (K : PySem.W.Frag) (tg : Expr) (J : It) (fp : List Addr) (it : Addr) (tn : Nat → Heap → Prop) : Prop where
  mem : it ∈ fp
  obj : ∀ i h, tn i h → ∀ b ∈ fp, ∃ o, h.get? b = some o ∧ ∀ v, o.data ≠ .cell v
  keep : ∀ i h h', tn i h → (∀ b ∈ fp, ∀ o, h.get? b = some o → h'.get? b = some o) → tn i h'
  item : ∀ (X : Cx), X.prog = P → X.w = w → X.K = K → X.A.handled = some (.ref ea) → ∀ (i : Nat) (pins : List (Addr × Obj)) (s : Shared) (σ : St) (H : Hp) (E : Value → Shared → Prop), Inv X pins σ H s → (∀ b ∈ fp, FpOk X pins H b) → tn i s.heap → J.go i H →
    wpAny (model P w) X.A (pyNext (.ref it)) (fun r s1 => ∃ u, r = some u ∧
      wpAny (model P w) X.A (letOwnedTupleGo tg (.ref it) u) (fun _ s2 => ∃ x H', Inv X pins σ H' s2 ∧ RelV x u ∧ J.yld i H x H' ∧ tn (i + 1) s2.heap ∧ ∀ b ∈ fp, H' b = none) E s1) E s
  done : ∀ (X : Cx), X.prog = P → X.w = w → X.K = K → X.A.handled = some (.ref ea) → ∀ (i : Nat) (pins : List (Addr × Obj)) (s : Shared) (σ : St) (H : Hp) (E : Value → Shared → Prop), Inv X pins σ H s → (∀ b ∈ fp, FpOk X pins H b) → tn i s.heap → J.stop i H →
    wpAny (model P w) X.A (pyNext (.ref it)) (fun r s1 => r = none ∧ Inv X pins σ H s1) E s
  self : ∀ (A : Around) (i : Nat) (s : Shared) (Q : Value → Shared → Prop) (E : Value → Shared → Prop), tn i s.heap → Q (.ref it) s → wpAny (model P w) A (pyIter (.ref it)) Q E s
def PIEH (X : Cx) (ea : Addr) (pins : List (Addr × Obj)) (σ : St) (tg : Expr) (R : It → Hp → Prop) (itv : Value) (s2 : Shared) : Prop :=
  ∃ (it : Addr) (fp : List Addr) (tn : Nat → Heap → Prop) (J : It) (H' : Hp), itv = .ref it ∧ Inv X pins σ H' s2 ∧ TurnH ea X.prog X.w X.K tg J fp it tn ∧ tn 0 s2.heap ∧ (∀ b ∈ fp, FpOk X pins H' b) ∧ R J H'
section
variable {X : Cx} {tg : Expr}
end
section
variable {X : Cx} {pins : List (Addr × Obj)} {σ : St} {s : Shared} {sc : Scope} {fr Nc : List Str} {caps : List (Option Nat)} {elt tg iter : Expr} {ifs : List Expr} {g : TG} {tt : TT} {te : TE} {ow : List Nat} {pos pos2 : Pos} {E : Value → Shared → Prop}
end
section
variable {X : Cx} {hs : List ExceptHandler} {th : HK} {c n : Str} {C' : Addr} {i : Nat} {ts : TS} {b₀ : Stmt} {suite : List Stmt} {np hpos : Pos}
def hAsC (K : PySem.W.Frag) (C' : Addr) (i : Nat) (ts : Addr → TS) (rest : HK) : HK := fun C od t ea D σ H' =>
  (PySem.W.exmOne K (.ref C) (.ref C') = some true ∧ ts ea (endsN D i) (σ.set i (some (.ref ea))) (upd H' ea (excC ea C od t))) ∨ (PySem.W.exmOne K (.ref C) (.ref C') = some false ∧ rest C od t ea D σ H')
end
end L2

set_option Elab.async false
set_option linter.all false
set_option maxRecDepth 100000
set_option maxHeartbeats 4000000
namespace L2
open PySem PySem.Spec PyProof.Rows
section
variable {X : Cx}
/-! ### sep.join(xs) -/
/-! ### xs.insert(i, y) -/
end
end L2

set_option Elab.async false
set_option linter.all false
set_option maxRecDepth 100000
set_option maxHeartbeats 4000000
namespace L2
open PySem PySem.Spec PyProof.Rows
section
variable {X : Cx}
end
end L2

set_option Elab.async false
set_option linter.all false
set_option maxRecDepth 100000
set_option maxHeartbeats 4000000
namespace L2
open PySem PySem.Spec PyProof.Rows PySem.Builtin
section
variable {prog : Program} {w : World} {A : Around} {E : Value → Shared → Prop} {s : Shared} {it l ea C t : Addr} {od : Option Addr} {tb : Value} {i : Nat} {items : Array Value} {Q : Option Value → Shared → Prop}
end

/-! ### a list comprehension over a list, within an except suite -/
section
variable {X : Cx} {tg : Expr}
end
section
variable {X : Cx} {sc : Scope} {elt tg iter : Expr} {ifs : List Expr} {g : TG} {tt : TT} {te : TE} {ow : List Nat} {pos : Pos}
end
/-! ### list(range(a, b)) -/
section
variable {X : Cx}
end
end L2

set_option Elab.async false
set_option linter.all false
set_option maxRecDepth 100000
set_option maxHeartbeats 4000000
namespace L2
open PySem PySem.Spec PyProof.Rows
/-- an exception of the class at D stands at ea: caught, or made here -/
def ExcH (H : Hp) (ea D : Addr) : Prop := (∃ od t, H ea = some (excC ea D od t)) ∨ ∃ od t, H ea = some (excX ea D od t)
theorem ExcH.same {H H' : Hp} {ea D : Addr} (h : ExcH H ea D) (s : Same H H') : ExcH H' ea D := by
  rcases h with ⟨od, t, h⟩ | ⟨od, t, h⟩
  · exact .inl ⟨od, t, s _ _ h⟩
  · exact .inr ⟨od, t, s _ _ h⟩
section
variable {X : Cx}
theorem exc_hereG {pins : List (Addr × Obj)} {σ : St} {H : Hp} {s : Shared} {ea D : Addr} (I : Inv X pins σ H s) (e : ExcH H ea D) : ExcAt ea (.ref D) s.heap := by
  rcases e with ⟨od, t, e⟩ | ⟨od, t, e⟩
  · obtain ⟨tb, h⟩ := (I.hok ea _ e).1
    exact ⟨_, _, h, rfl, rfl⟩
  · exact ⟨_, _, excX_at I e, rfl, rfl⟩
theorem call_isinstG : CallR X (.builtin "isinstance") (fun xs H Q => ∃ ea D C b, xs = [.ref ea, .ref C] ∧ ExcH H ea D ∧ ExcCls X.K D ∧ PySem.W.kitOne X.K (.ref D) (.ref C) = some b ∧ Q (.bl b) H) := by
  intro pins s σ H xs us Q I r h
  obtain ⟨ea, D, C, b, rfl, he, c, e, q⟩ := h
  obtain ⟨u, w', rfl, ru, rw'⟩ := vals2 r
  cases rw'
  cases ru
  exact PySem.W.kia_one (kitx_exc c) I.kIn (exc_hereG I he) e (fun z => nomatch z) fun tk => ⟨.bl b, H, I.tok tk, rfl, q⟩
theorem call_isinstGT : CallR X (.builtin "isinstance") (fun xs H Q => ∃ ea D T b, xs = [.ref ea, .ty T] ∧ ExcH H ea D ∧ ExcCls X.K D ∧ PySem.W.kitOne X.K (.ref D) (.type T) = some b ∧ Q (.bl b) H) := by
  intro pins s σ H xs us Q I r h
  obtain ⟨ea, D, T, b, rfl, he, c, e, q⟩ := h
  obtain ⟨u, w', rfl, ru, rw'⟩ := vals2 r
  cases rw'
  cases ru
  exact PySem.W.kia_one (kitx_exc c) I.kIn (exc_hereG I he) e (fun z => nomatch z) fun tk => ⟨.bl b, H, I.tok tk, rfl, q⟩
theorem call_isinstGs : CallR X (.builtin "isinstance") (fun xs H Q => ∃ (ea D tp : Addr) (cs : List Addr) (b : Bool), xs = [.ref ea, .ref tp] ∧ ExcH H ea D ∧ ExcCls X.K D ∧ H tp = some (.tup (cs.map V.ref)) ∧ PySem.W.kitAny X.K (.ref D) (cs.map Value.ref) = some b ∧ Q (.bl b) H) := by
  intro pins s σ H xs us Q I r h
  obtain ⟨ea, D, tp, cs, b, rfl, he, c, ht, e, q⟩ := h
  obtain ⟨u, w', rfl, ru, rw'⟩ := vals2 r
  cases rw'
  cases ru
  obtain ⟨_, its, rv, ⟨oc, od, oda, osl⟩, h1, h2, n, h3⟩ := I.hok tp _ ht
  have h2 : oc = .type "tuple" := h2
  have h3 : oda = .seq its.toArray n := h3
  subst h2 h3
  rw [vals_refs rv] at h1
  exact PySem.W.kia_tup (kitx_exc c) I.kIn (exc_hereG I he) h1 e (fun z => nomatch z) fun tk => ⟨.bl b, H, I.tok tk, rfl, q⟩
end
/-- e.x of a caught exception, within its suite -/
theorem pe_fldCK {X : Cx} {K : PySem.W.Frag} {e : Expr} {f : Str} {pos : Pos} {ta : TE} (hK : X.K = K) (he : PE X e ta) (hb : attributeBase e f X.env (eval e X.env) = eval e X.env) : PE X (.Attribute e f pos) (tFldC K ta f) := hK ▸ pe_fldC he hb
section
variable {X : Cx} {hs : List ExceptHandler} {th : HK} {c n : Str} {C' : Addr} {i : Nat} {ts : TS} {b₀ : Stmt} {suite : List Stmt} {np hpos : Pos}
theorem ph_asA {tsA : Addr → TS} (hN : X.N.Nodup) (hi : X.N[i]? = some n) (hk : X.env.scope.names.lookup n = some .local) (hg : Gl X c) (hm : X.mg c = some (.ref C')) (hs' : ∀ ea, PSs (X.suite ea) (b₀ :: suite) (tsA ea)) (hr : PH X hs th)
    (hd : (c == ("__debug__" : Str)) = false := by decide) : PH X (.ExceptHandler (some (.Name c np)) (some n) (b₀ :: suite) hpos :: hs) (hAsC X.K C' i tsA th) := by
  refine ⟨fun pins σ H1 s1 H' ea C od t s5 D I1 F5 h => ?_⟩
  obtain ⟨B, fl, tr, old, olds⟩ := F5.fly
  have I5 : Inv X pins σ H' s5 := I1.call' F5.os F5.un F5.hok F5.bare fun b z => nomatch z
  have LT : PySem.W.Looks (model X.prog X.w) s5.heap (typeOf (.ref ea)) (.ref C) := by
    obtain ⟨tb, oT, ts', he, _⟩ := fl.2.2.2
    exact (PySem.W.Looks.ld he).andThen .now
  refine wpAny_handleBy_cons (codeAny_handlers_test (ld_glob (I5.suite ea) hg hm ?_ hd)) (by intro z; cases z)
  rcases h with ⟨hx, h⟩ | ⟨hx, h⟩
  · refine (PySem.W.exm_one (M := model X.prog X.w) (h := s5.heap) I5.kIn LT hx) _ _ _ _ (fun _ _ z => z) ?_
    refine codeAny_handlers_suite_as (landS fl fun h6 fl6 up6 => ?_)
    have F6 := F5.move fl tr old olds fl6 up6
    have I6 := F6.track I1 fl6 old
    refine store_ok (v := .ref ea) I6 hN hi (.inl hk) rfl (fun s7 I7 => ?_) (.inr hk)
    refine wpAny_mono ((hs' ea) pins s7 _ _ (endsN D i) (I7.suite ea) h) (fun f s8 h8 => ?_) fun _ _ z => z.elim
    show wpAny (model X.prog X.w) X.A (do bindName X.env n .none; unbindBehindTheSuite X.env n hpos) (fun _ s9 => SP X pins D f s9) X.xe s8
    cases f with
    | next =>
      obtain ⟨σ', H2, I8, q8⟩ := h8
      exact name_goes (Inv.unsuite I1.ok I8) hN hi hk fun s9 I9 => ⟨_, H2, I9, q8⟩
    | brk =>
      obtain ⟨σ', H2, I8, q8⟩ := h8
      exact name_goes (Inv.unsuite I1.ok I8) hN hi hk fun s9 I9 => ⟨_, H2, I9, q8⟩
    | cont =>
      obtain ⟨σ', H2, I8, q8⟩ := h8
      exact name_goes (Inv.unsuite I1.ok I8) hN hi hk fun s9 I9 => ⟨_, H2, I9, q8⟩
    | ret u =>
      obtain ⟨v, σ', H2, I8, rv, q8⟩ := h8
      exact name_goes (Inv.unsuite I1.ok I8) hN hi hk fun s9 I9 => ⟨v, _, H2, I9, rv, q8⟩
  · refine (PySem.W.exm_one (M := model X.prog X.w) (h := s5.heap) I5.kIn LT hx) _ _ _ _ (fun _ _ z => z) ?_
    exact hr.run pins σ H1 s1 H' ea C od t s5 D I1 F5 h
end
/-! ### defs called within an except suite, the exception that is handled known -/
structure FnOkH (P : Program) (w : World) (K : PySem.W.Frag) (mg : Str → Option Value) (base : Heap) (ea : Addr) (k : Nat) (f : Addr) (fd : FuncData) (ps : List Str) (sp : Sp) : Prop where
  len : ∀ vs H Q E, sp vs H Q E → vs.length = ps.length
  run : ∀ (A : Around) (outer : List Env) (s : Shared) (H : Hp) (args : Args) (us : List Value) (vs : List V) (Q : VK), A.handled = some (.ref ea) → RoomM k A → Env0 P w K mg base A outer s H → BindsTo s fd args (ps.zip us) → Vals vs us → sp vs H Q E0 →
    codeAny (model P w) A (.call (.ref f) args) (CR CX0 outer P w H s Q E0) s
section
variable {P : Program} {w : World} {K : PySem.W.Frag} {mg : Str → Option Value} {base : Heap}
theorem Fun.okH {ea : Addr} {x qual : Str} {st : Stmt} {f : Addr} {fd : FuncData} {N ps : List Str} {k : Nat} {sp : Sp} (F : Fun K x qual st f fd) (S : FnScope N ps (defScope st)) (len : ∀ vs H Q E, sp vs H Q E → vs.length = ps.length)
    (hbody : ∀ (cdv : Value) (A : Around) (outer : List Env) (s : Shared) (H : Hp) (vs : List V) (Q : VK), A.handled = some (.ref ea) → RoomM k (A.deeper (envOfC qual (defScope st) s.heap.objs.size f cdv)) → sp vs H Q E0 →
      ∃ t, PSs (cxOfM P w K mg base N qual (defScope st) f cdv A outer s H) (defBody st) t ∧ t { nx := fun _ H' => Q .non H', rt := Q } (start N vs) H) : FnOkH P w K mg base ea (k + 1) f fd ps sp := by
  obtain ⟨oc, od, kV, doc, pm, an, cdv, ct, osl, rfl, lk, hcd⟩ := F.ex
  refine ⟨len, fun A outer s H args us vs Q hA hr e0 hb r hsp => ?_⟩
  have hl := len _ _ _ _ hsp
  have KX : K.In s.heap := e0.mod.kin.keeps fun b o e => (e0.bs b o e).1
  have lim : s.heap.NoLimit := e0.mod.nolimit.keeps fun b o e => (e0.bs b o e).1
  have hkind : ∀ y ∈ ps.zip us, (defScope st).names.lookup y.1 = some .local ∨ ((defScope st).names.lookup y.1 = some .cell ∧ ((cellsFrom (s.heap.objs.size + 1) (defScope st).names []).lookup y.1).isSome = true) := fun ⟨n, v⟩ hy => by
    rcases S.par n (List.of_mem_zip hy).1 with q | q
    · exact .inl q
    · exact .inr ⟨q, PySem.W.cellsFrom_some _ _ _ (.inl q)⟩
  refine codeAny_call_function hr.depth (KX _ _ lk) rfl S.co S.gen rfl (PySem.W.codeRec_of KX hcd) (hb _ _ _ _ ?_)
  refine wpAny_newFunctionEnv_cells S.kind hkind fun env he s1 x => ?_
  subst he
  refine ⟨lim.keeps x.toInCall.keep, codeAny_func ?_⟩
  obtain ⟨t, ht, hq⟩ := hbody cdv A outer s H vs Q hA (hr.deeper _) hsp
  have I : Inv (cxOfM P w K mg base N qual (defScope st) f cdv A outer s H) [] (start N vs) H s1 := inv_startM S e0 hl r x
  refine wpAny_mono (ht [] s1 (start N vs) H _ I hq) (fun fl s' hs => ?_) fun e s' hs => hs.elim
  have fin : ∀ {σ' : St} {H' : Hp} {v : V} {u : Value}, Inv (cxOfM P w K mg base N qual (defScope st) f cdv A outer s H) [] σ' H' s' → RelV v u → Q v H' → CE outer P w H s Q u s' :=
    fun {σ' H' v u} J rv q => ⟨v, H', J.os, J.bare, J.base, J.hok, rv, q⟩
  cases fl with
  | ret u =>
    obtain ⟨v, σ', H', J, rv, q⟩ := hs
    exact fin J rv q
  | next =>
    obtain ⟨σ', H', J, q⟩ := hs
    exact fin (v := V.non) (u := Value.none) J rfl q
  | brk =>
    obtain ⟨_, _, _, q⟩ := hs
    exact False.elim q
  | cont =>
    obtain ⟨_, _, _, q⟩ := hs
    exact False.elim q
end
structure CalleeH (P : Program) (w : World) (K : PySem.W.Frag) (mg : Str → Option Value) (base : Heap) (k : Nat) (x : Str) (f : Addr) (fd : FuncData) (ps : List Str) (sp : Addr → Sp) : Prop where
  ok : ∀ ea, FnOkH P w K mg base ea k f fd ps (sp ea)
  mg : mg x = some (.ref f)
  kp : PySem.W.keepIn K (.ref f) = true
  bd : Binds K fd ps []
section
variable {X : Cx} {k : Nat} {f ea : Addr} {fd : FuncData} {ps : List Str} {sp : Addr → Sp} {x : Str} {p pos : Pos} {e : Expr} {es : List Expr} {t : TA}
theorem cH (c : CalleeH X.prog X.w X.K X.mg X.base k x f fd ps sp) (hA : X.A.handled = some (.ref ea)) (hr : RoomM k X.A) (ha : PA X (e :: es) t) (hg : Gl X x := by rfl) (hdb : (x == ("__debug__" : Str)) = false := by decide)
    (h1 : isSt e = false := by rfl) (h2 : es.any isSt = false := by rfl) : PE X (.Call (.Name x p) (e :: es) [] pos) (tCall (sp ea) [] E0 t) := by
  refine ⟨?_⟩
  intro pins s σ H Q I h
  refine wpAny_Call_Name_kw (ld_glob I hg c.mg ?_ hdb)
  refine PySem.W.callWith_K (h₀ := X.base) I.ok.mod.kin c.kp (thn (ha pos pins s σ H _ I h) fun us s1 ⟨vs, H1, I1, r, q⟩ => ⟨I1.kIn, ?_⟩) (star_cons h1) (star_any h2)
  have r2 : Vals (vs ++ []) (us ++ []) := r.append .nil
  have hl : (us ++ []).length = ps.length := by rw [← r2.length]; exact (c.ok ea).len _ _ _ _ q
  refine wpAny_call (codeAny_mono ((c.ok ea).run X.A X.stack s1 H1 ⟨us, []⟩ (us ++ []) (vs ++ []) Q hA hr I1.env0 (c.bd s1 us I1.kIn hl) r2 q) fun r s' hq => ?_)
  cases r with
  | error e => exact False.elim hq
  | ok fl =>
    cases fl with
    | ret u => exact I1.after hq
    | next => exact False.elim hq
    | brk => exact False.elim hq
    | cont => exact False.elim hq
end
end L2

set_option Elab.async false
set_option linter.all false
set_option maxRecDepth 100000
set_option maxHeartbeats 4000000
namespace L2
open PySem PySem.Spec PyProof.Rows
/-! ### comprehensions whose items say data -/
end L2

set_option Elab.async false
set_option linter.all false
set_option maxRecDepth 100000
set_option maxHeartbeats 4000000
namespace L2
open PySem PySem.Spec PyProof.Rows
/-! ### blocks that choose -/
theorem le1000' {n : Nat} (h : n ≤ 1000) : n ≤ sizeLine := Nat.le_of_lt (small1000 h)
theorem filt_snoc {α : Type} {ys : List α} {i : Nat} {y : α} (keep : α → Bool) (hy : ys[i]? = some y) : (ys.take (i + 1)).filter keep = (ys.take i).filter keep ++ (if keep y = true then [y] else []) := by
  have hi : i < ys.length := (List.getElem?_eq_some_iff.mp hy).1
  have e : ys[i] = y := (List.getElem?_eq_some_iff.mp hy).2
  rw [List.take_succ_eq_append_getElem hi, List.filter_append, e, List.filter_cons]
  rfl
theorem filt_le {α : Type} {ys : List α} {i : Nat} (keep : α → Bool) : ((ys.take i).filter keep).length ≤ i := by
  have := List.length_filter_le keep (ys.take i)
  rw [List.length_take] at this
  omega
theorem lc_sel {α : Type} {K : PySem.W.Frag} {a : Addr} {xs : List V} {caps : List (Option Nat)} {g : TG} {tt : TT} {te : TE} {σ : L2.St} {H1 : Hp} {Q : VK} {D : Addr} (ys : List α) (keep : α → Bool) (out : α → V) (hD : H1 D = none) (ha : SqL K H1 a xs) (hl : xs.length = ys.length) (hn : xs.length ≤ 1000)
    (hs : ∀ (i : Nat) (x : V) (y : α) (H : Hp) (N : VK) (S : Hp → Prop), xs[i]? = some x → ys[i]? = some y → Same H1 H → (∀ H', Same H H' → keep y = true → N (out y) H') → (∀ H', Same H H' → keep y = false → S H') → g x (capS caps σ) H fun σ2 H2 => tt σ2 H2 fun ok H3 => (ok = true → te σ2 H3 N) ∧ (ok = false → S H3))
    (hd : ∀ H, Same H1 H → H D = some (.lst ((ys.filter keep).map out)) → Q (.ref D) H) : LCr (Itl K a) caps g tt te σ H1 Q D := by
  refine lc_list (K := K) (xs := xs) (fun i zs H' => Same H1 H' ∧ H' D = some (.lst zs) ∧ zs = ((ys.take i).filter keep).map out) ⟨same_new hD _, upd_same, rfl⟩ (fun i zs H' h => h.1.seq ha) ?_ ?_
  · rintro i x zs H' hlt hx ⟨sH, hDy, ez⟩
    obtain ⟨y, hy⟩ : ∃ y, ys[i]? = some y := ⟨_, List.getElem?_eq_getElem (by omega)⟩
    refine hs i x y H' _ _ hx hy sH (fun H2 s2 hk => ?_) (fun H2 s2 hk => ?_)
    · refine lcN.mk hlt (le1000' hn) (s2 _ _ hDy) (by rw [ez, List.length_map]; exact filt_le _) ⟨fun b' u e => ?_, upd_same, ?_⟩
      · rw [upd_ne (ne_of_none e hD)]
        exact s2 _ _ (sH b' u e)
      · rw [ez, filt_snoc keep hy, if_pos hk, List.map_append]
        rfl
    · refine lcS.mk hlt ⟨sH.trans s2, s2 _ _ hDy, ?_⟩
      rw [ez, filt_snoc keep hy, if_neg (by rw [hk]; exact Bool.false_ne_true), List.append_nil]
  · rintro zs H2 ⟨s2, hDy, ez⟩
    rw [List.take_of_length_le (by omega)] at ez
    rw [ez] at hDy
    exact hd H2 s2 hDy
theorem lc_sele {α : Type} {K : PySem.W.Frag} {a : Addr} {xs : List V} {caps : List (Option Nat)} {g : TG} {tt : TT} {te : TE} {σ : L2.St} {H1 : Hp} {Q : VK} {D : Addr} (ys : List α) (keep : α → Bool) (out : α → V) (hD : H1 D = none) (ha : SqL K H1 a xs) (hl : xs.length = ys.length) (hn : xs.length ≤ 1000)
    (hs : ∀ (i : Nat) (x : V) (y : α) (p : Addr) (H : Hp) (N : VK) (S : Hp → Prop), xs[i]? = some x → ys[i]? = some y → H p = none → Same H1 H → (∀ H', Same H H' → keep y = true → N (out y) H') → (∀ H', Same H H' → keep y = false → S H') → g (.ref p) (capS caps σ) (upd H p (.tup [.int i, x])) fun σ2 H2 => tt σ2 H2 fun ok H3 => (ok = true → te σ2 H3 N) ∧ (ok = false → S H3))
    (hd : ∀ H, Same H1 H → H D = some (.lst ((ys.filter keep).map out)) → Q (.ref D) H) : LCr (Ite K a) caps g tt te σ H1 Q D := by
  refine lc_enum (K := K) (xs := xs) (fun i zs H' => Same H1 H' ∧ H' D = some (.lst zs) ∧ zs = ((ys.take i).filter keep).map out) ⟨same_new hD _, upd_same, rfl⟩ (fun i zs H' h => h.1.seq ha) ?_ ?_
  · rintro i x p zs H' hlt hx ⟨sH, hDy, ez⟩ hp
    obtain ⟨y, hy⟩ : ∃ y, ys[i]? = some y := ⟨_, List.getElem?_eq_getElem (by omega)⟩
    refine hs i x y p H' _ _ hx hy hp sH (fun H2 s2 hk => ?_) (fun H2 s2 hk => ?_)
    · refine lcN.mk hlt (le1000' hn) (s2 _ _ hDy) (by rw [ez, List.length_map]; exact filt_le _) ⟨fun b' u e => ?_, upd_same, ?_⟩
      · rw [upd_ne (ne_of_none e hD)]
        exact s2 _ _ (sH b' u e)
      · rw [ez, filt_snoc keep hy, if_pos hk, List.map_append]
        rfl
    · refine lcS.mk hlt ⟨sH.trans s2, s2 _ _ hDy, ?_⟩
      rw [ez, filt_snoc keep hy, if_neg (by rw [hk]; exact Bool.false_ne_true), List.append_nil]
  · rintro zs H2 ⟨s2, hDy, ez⟩
    rw [List.take_of_length_le (by omega)] at ez
    rw [ez] at hDy
    exact hd H2 s2 hDy
theorem lc_selr {n : Nat} {caps : List (Option Nat)} {g : TG} {tt : TT} {te : TE} {σ : L2.St} {H1 : Hp} {Q : VK} {D : Addr} (keep : Nat → Bool) (out : Nat → V) (hD : H1 D = none) (hn : n ≤ 1000)
    (hs : ∀ (i : Nat) (H : Hp) (N : VK) (S : Hp → Prop), i < n → Same H1 H → (∀ H', Same H H' → keep i = true → N (out i) H') → (∀ H', Same H H' → keep i = false → S H') → g (.int ((0 : Int) + (i : Int))) (capS caps σ) H fun σ2 H2 => tt σ2 H2 fun ok H3 => (ok = true → te σ2 H3 N) ∧ (ok = false → S H3))
    (hd : ∀ H, Same H1 H → H D = some (.lst (((List.range n).filter keep).map out)) → Q (.ref D) H) : LCr (Itr 0 n) caps g tt te σ H1 Q D := by
  refine lc_range (n := n) (fun i zs H' => Same H1 H' ∧ H' D = some (.lst zs) ∧ zs = ((List.range i).filter keep).map out) ⟨same_new hD _, upd_same, rfl⟩ ?_ ?_
  · rintro i zs H' hlt ⟨sH, hDy, ez⟩
    refine hs i H' _ _ hlt sH (fun H2 s2 hk => ?_) (fun H2 s2 hk => ?_)
    · refine lcN.mk hlt (le1000' hn) (s2 _ _ hDy) (by rw [ez, List.length_map]; have := List.length_filter_le keep (List.range i); rw [List.length_range] at this; exact this) ⟨fun b' u e => ?_, upd_same, ?_⟩
      · rw [upd_ne (ne_of_none e hD)]
        exact s2 _ _ (sH b' u e)
      · rw [ez, List.range_succ, List.filter_append, List.map_append, List.filter_cons, if_pos hk]
        rfl
    · refine lcS.mk hlt ⟨sH.trans s2, s2 _ _ hDy, ?_⟩
      rw [ez, List.range_succ, List.filter_append, List.map_append, List.filter_cons, if_neg (by rw [hk]; exact Bool.false_ne_true)]
      simp
  · rintro zs H2 ⟨s2, hDy, ez⟩
    rw [ez] at hDy
    exact hd H2 s2 hDy
end L2

set_option Elab.async false
set_option linter.all false
set_option maxRecDepth 100000
set_option maxHeartbeats 4000000
namespace L2
open PySem PySem.Spec PyProof.Rows PySem.Builtin
section
variable {prog : Program} {w : World} {A : Around} {E : Value → Shared → Prop} {s : Shared} {it l ea C t : Addr} {od : Option Addr} {tb : Value} {i : Nat} {items : Array Value} {Q : Option Value → Shared → Prop}
end
section
variable {prog : Program} {w : World} {A : Around} {E : Value → Shared → Prop} {s : Shared} {ea C tt : Addr} {od : Option Addr} {tb : Value}
end
end L2

set_option Elab.async false
set_option linter.all false
set_option maxRecDepth 100000
set_option maxHeartbeats 4000000
namespace L2
open PySem PySem.Spec PyProof.Rows
/-! ### range(a, b, c), c above 0 -/
section
variable {X : Cx} {tg : Expr}
end
end L2

set_option Elab.async false
set_option linter.all false
set_option maxRecDepth 100000
set_option maxHeartbeats 4000000
namespace L2
open PySem PySem.Spec PyProof.Rows
/-! ### blocks over rows that are paired with data -/
theorem zip_out {α : Type} {R : Addr → α → Prop} {us : List Addr} {rows : List α} (h : Paired R us rows) (keep : α → Bool) (out : α → V) : ((us.zip rows).filter fun p => keep p.2).map (fun p => out p.2) = (rows.filter keep).map out := by
  induction h with
  | nil => rfl
  | cons r t ih =>
    rename_i u y us ys
    rw [List.zip_cons_cons, List.filter_cons, List.filter_cons]
    cases hk : keep y with
    | true => rw [if_pos rfl, if_pos rfl, List.map_cons, List.map_cons, ih]
    | false => rw [if_neg Bool.false_ne_true, if_neg Bool.false_ne_true, ih]
theorem lc_zip {α : Type} {K : PySem.W.Frag} {a : Addr} {us : List Addr} {rows : List α} {caps : List (Option Nat)} {g : TG} {tt : TT} {te : TE} {σ : L2.St} {H1 : Hp} {Q : VK} {D : Addr} (R : Hp → Addr → α → Prop) (keep : α → Bool) (out : Addr → α → V) (hD : H1 D = none) (ha : H1 a = some (.lst (us.map V.ref))) (hu : Paired (R H1) us rows) (hn : rows.length ≤ 1000)
    (hs : ∀ (i : Nat) (u : Addr) (y : α) (H : Hp) (N : VK) (S : Hp → Prop), us[i]? = some u → rows[i]? = some y → R H1 u y → Same H1 H → (∀ H', Same H H' → keep y = true → N (out u y) H') → (∀ H', Same H H' → keep y = false → S H') → g (.ref u) (capS caps σ) H fun σ2 H2 => tt σ2 H2 fun ok H3 => (ok = true → te σ2 H3 N) ∧ (ok = false → S H3))
    (hd : ∀ H, Same H1 H → H D = some (.lst (((us.zip rows).filter fun p => keep p.2).map fun p => out p.1 p.2)) → Q (.ref D) H) : LCr (Itl K a) caps g tt te σ H1 Q D := by
  have hl : us.length = rows.length := hu.length
  have lz : (us.zip rows).length = rows.length := by rw [List.length_zip, hl, Nat.min_self]
  refine lc_sel (K := K) (xs := us.map V.ref) (us.zip rows) (fun p => keep p.2) (fun p => out p.1 p.2) hD (SqL.of ha) (by rw [List.length_map, lz, hl]) (by rw [List.length_map, hl]; exact hn) (fun i x y H N S hx hy sH n1 s1 => ?_) hd
  have hi : i < rows.length := by rw [← lz]; exact (List.getElem?_eq_some_iff.mp hy).1
  have e1 : (us.zip rows)[i]? = some (us[i], rows[i]) := by
    rw [List.getElem?_eq_getElem (by omega), List.getElem_zip]
  rw [e1] at hy
  cases hy
  have hu1 : us[i]? = some us[i] := List.getElem?_eq_getElem (by omega)
  rw [List.getElem?_map, hu1] at hx
  cases hx
  obtain ⟨d, hd', hr⟩ := Paired.get hu hu1
  have e2 : rows[i]? = some rows[i] := List.getElem?_eq_getElem hi
  rw [e2] at hd'
  cases hd'
  exact hs i us[i] rows[i] H N S hu1 e2 hr sH n1 s1
end L2

set_option Elab.async false
set_option linter.all false
set_option maxRecDepth 100000
set_option maxHeartbeats 4000000
namespace L2
open PySem PySem.Spec PyProof.Rows
end L2

set_option Elab.async false
set_option linter.all false
set_option maxRecDepth 100000
set_option maxHeartbeats 4000000
namespace L2
open PySem PySem.Spec PyProof.Rows
section
variable {X : Cx} {pins : List (Addr × Obj)} {σ : St} {e o : Expr} {es : List Expr} {ta : TE} {t : TA} {E : XK} {m : Str} {pos apos : Pos} {k : Nat} {f C : Addr} {fd : FuncData} {ps : List Str} {sp : Sp}
end
/-! ### xs.count(y), xs.index(y): flat things -/
theorem count_eqU {x : V} : ∀ {xs : List V} {us : List Value}, Vals xs us → xs.all flatV = true → us.countP (eqU x) = xs.countP fun y => eqV y x
  | _, _, .nil, _ => rfl
  | y :: xs, u :: us, .cons r t, f => by
    rw [List.all_cons, Bool.and_eq_true] at f
    rw [List.countP_cons, List.countP_cons, eqU_of r f.1, count_eqU t f.2]
def rCountF : V → List V → Hp → VK → Prop := fun x vs H Q => ∃ (l : Addr) (xs : List V) (y : V), x = .ref l ∧ vs = [y] ∧ H l = some (.lst xs) ∧ flatV y = true ∧ xs.all flatV = true ∧ Q (.int (xs.countP fun z => eqV z y : Nat)) H
theorem mt_countF {X : Cx} : MtM X "list.count" rCountF := by
  intro pins s σ H x vs v us' Q I rx rv h
  obtain ⟨l, xs, y, rfl, rfl, hH, fy, fs, q⟩ := h
  cases rx
  obtain ⟨u, rfl, ru⟩ := rv.one
  obtain ⟨z, its, n, r, hl, e⟩ := I.lstM hH
  refine call_meets F.slot_list_count ⟨_, e, rfl⟩ F.entry_list_count (F.args_list_count_2 _ _) (SeqAt.list_countAt l its.toArray n none #[] u (eqU y)) ⟨e, fun w hw => mem_eqAt ru fy r fs w (by simpa using hw), ?_⟩
  refine ⟨.int _, H, I.kept (t' := s.toks + 1) fun b ob q => q, ⟨_, rfl⟩, ?_⟩
  rw [show its.toArray.toList.countP (eqU y) = its.countP (eqU y) by simp, count_eqU r fs]
  exact q
end L2

set_option Elab.async false
set_option linter.all false
set_option maxRecDepth 100000
set_option maxHeartbeats 4000000
namespace L2
open PySem PySem.Spec PyProof.Rows
theorem op_isnotIB {X : Cx} : OpR X (compareOp .IsNot) (fun x y H Q => ∃ i b, x = .int i ∧ y = .bl b ∧ Q (.bl true) H) := by
  intro pins s σ H x y v u Q I rx ry h
  obtain ⟨a, b, rfl, rfl, q⟩ := h
  obtain ⟨t, rfl⟩ := rx
  cases ry
  have e : wpAny (model X.prog X.w) X.A (pure (Value.bool (!(Value.int a t == Value.bool b)))) (EP X pins σ Q) X.xe s := wpAny_pure ⟨.bl true, H, I, rfl, q⟩
  exact e
end L2
namespace K42
open PySem L2 PyProof.Rows
structure TxtL (mg : Str → Option Value) : Prop where
  isi : mg "isinstance" = none
  int : mg "int" = none
  len : mg "len" = none
  range : mg "range" = none
  list : mg "list" = none
  zip : mg "zip" = none
  max : mg "max" = none
def spNthB (K : PySem.W.Frag) : Sp := fun vs H Q _ => ∃ (a : Addr) (ns : List Int) (k : Nat), vs = [.ref a, .int k] ∧ SqL K H a (ns.map V.int) ∧ ∀ n : Int, Q (.int n) H
def spOneI : Sp := fun vs H Q _ => ∃ i : Int, vs = [.int i] ∧ Q (.bl true) H
def spThg : Sp := fun vs H Q _ => ∃ c : Int, vs = [.int c] ∧ ∀ m : Int, Q (.int m) H
def spMix : Sp := fun vs H Q _ => ∃ (c : Int) (k : Nat), vs = [.int c, .int k] ∧ k ≤ 1000 ∧ ∀ m : Int, 0 ≤ m → m < 2147483587 → Q (.int m) H
section
variable {P : Program} {w : World} {K : PySem.W.Frag} {mg : Str → Option Value} {base : Heap} {f : Addr} {fd : FuncData}
theorem scNth : FnScope ["_law_script", "_law_k"] ["_law_script", "_law_k"] (defScope sNth) := ⟨rfl, rfl, rfl, by decide +kernel, rfl, by decide +kernel, by decide +kernel⟩
theorem ok_nth (F : Fun K "_law_nth" "_law_nth" sNth f fd) (T : TxtL mg) : FnOk P w K mg base CX0 1 f fd ["_law_script", "_law_k"] (spNthB K) := by
  refine F.ok scNth (fun vs H Q E h => ?_) (fun cdv A outer s H vs Q E hr h => ?_)
  · obtain ⟨a, ns, k, rfl, _⟩ := h
    rfl
  obtain ⟨a, ns, k, rfl, hS, q⟩ := h
  refine ⟨_, pss_one (ps_ret (pe_ifExp (pt_cmpR op_lt (pv 1) (cB call_len_seq T.len PySem.boot_len (ac (pv 0) pa_nil)) (nomark _)) (pe_ix ix_list (pv 0) (pv 1) (fun _ _ => rfl)) pe_int)), ?_⟩
  refine ⟨_, rfl, _, rfl, a, _, rfl, .inl hS, _, _, rfl, rfl, _, rfl, ?_⟩
  refine ite2 (fun c => ?_) (fun c => q 0)
  have c' : (k : Int) < ((ns.map V.int).length : Int) := of_decide_eq_true c
  rw [List.length_map] at c'
  have hk : k < ns.length := by omega
  refine ⟨_, rfl, _, rfl, a, _, (k : Int), .int ns[k], rfl, rfl, hS, atI_nat (by rw [List.getElem?_map, List.getElem?_eq_getElem hk]; rfl), q _⟩
theorem scNum : FnScope ["_law_found"] ["_law_found"] (defScope sNum) := ⟨rfl, rfl, rfl, by decide +kernel, rfl, by decide +kernel, by decide +kernel⟩
theorem ok_num (F : Fun K "_law_is_number" "_law_is_number" sNum f fd) (T : TxtL mg) : FnOk P w K mg base CX0 1 f fd ["_law_found"] spOneI := by
  refine F.ok scNum (fun vs H Q E h => ?_) (fun cdv A outer s H vs Q E hr h => ?_)
  · obtain ⟨i, rfl, _⟩ := h
    rfl
  obtain ⟨i, rfl, q⟩ := h
  refine ⟨_, pss_one (ps_ret (pe_and (cB call_isinst T.isi boot_isinstance (ac (pv 0) (ac (pe_bltn (v := .ty "int") rfl T.int PyProof.Rows.boot_int rfl) pa_nil)))
    (pe_and (pe_cmpR op_isnotIB (pv 0) pe_bl (nomark _)) (pe_one (pe_cmpR op_isnotIB (pv 0) pe_bl (nomark _)))))), ?_⟩
  refine ⟨_, rfl, _, _, _, _, rfl, .int i, kt_int_int K, _, rfl, ?_⟩
  refine iteT ?_
  refine ⟨_, rfl, _, _, rfl, rfl, _, rfl, ?_⟩
  refine iteT ?_
  exact ⟨_, rfl, _, _, rfl, rfl, q⟩
theorem scThg : FnScope ["_law_cell"] ["_law_cell"] (defScope sThing) := ⟨rfl, rfl, rfl, by decide +kernel, rfl, by decide +kernel, by decide +kernel⟩
theorem ok_thg (F : Fun K "_law_thing" "_law_thing" sThing f fd) : FnOk P w K mg base CX0 1 f fd ["_law_cell"] spThg := by
  refine F.ok scThg (fun vs H Q E h => ?_) (fun cdv A outer s H vs Q E hr h => ?_)
  · obtain ⟨c, rfl, _⟩ := h
    rfl
  obtain ⟨c, rfl, q⟩ := h
  refine ⟨_, pss_cons (ps_if (pt_cmpR op_eq (pe_op op_mod (pv 0) pe_int) pe_int (nomark _)) (pss_one (ps_ret (pe_op op_sub (pe_op op_mod (pe_op op_fdiv (pv 0) pe_int) pe_int) pe_int))) pss_nil)
    (pss_one (ps_ret (pe_op op_sub (pe_op op_mod (pe_op op_fdiv (pv 0) pe_int) (pe_op op_sub (pe_op op_mul pe_int (pe_op op_pow pe_int pe_int)) pe_int)) (pe_op op_sub (pe_op op_pow pe_int pe_int) pe_int)))), ?_⟩
  refine ⟨_, rfl, _, _, rfl, rfl, (by show (0 : Int) < 2; decide), rfl, _, rfl, ?_⟩
  refine ite2 (fun h => ?_) (fun h => ?_)
  · exact ⟨_, rfl, _, _, rfl, rfl, ⟨by decide, by decide⟩, _, _, rfl, rfl, (by show (0 : Int) < 41; decide), _, _, rfl, rfl, q _⟩
  · exact ⟨_, rfl, _, _, rfl, rfl, ⟨by decide, by decide⟩, _, _, rfl, rfl, ⟨by decide, by decide, by decide⟩, _, _, rfl, rfl, .inl ⟨by decide, by decide⟩, _, _, rfl, rfl, _, _, rfl, rfl, (by show (0 : Int) < 2 * 10 ^ Int.toNat 60 - 1; decide +kernel), _, _, rfl, rfl, ⟨by decide, by decide, by decide⟩, _, _, rfl, rfl, _, _, rfl, rfl, q _⟩
theorem scMix : FnScope ["_law_cell", "_law_k", "_law_number"] ["_law_cell", "_law_k"] (defScope sMix) := ⟨rfl, rfl, rfl, by decide +kernel, rfl, by decide +kernel, by decide +kernel⟩
theorem ok_mix (F : Fun K "_law_mix" "_law_mix" sMix f fd) : FnOk P w K mg base CX0 1 f fd ["_law_cell", "_law_k"] spMix := by
  refine F.ok scMix (fun vs H Q E h => ?_) (fun cdv A outer s H vs Q E hr h => ?_)
  · obtain ⟨c, k, rfl, _⟩ := h
    rfl
  obtain ⟨c, k, rfl, hk, q⟩ := h
  refine ⟨_, pss_cons (ps_set (i := 2) scMix.nd rfl (Or.inl rfl) (pe_op op_mod (pe_op op_add (pe_op op_add (pe_op op_mul (pe_op op_mod (pv 0) pe_int) pe_int) (pe_op op_mul (pe_op op_mul (pv 1) (pv 1)) pe_int)) (pe_op op_mul pe_int (pv 1))) pe_int))
    (pss_one (ps_ret (pe_op op_mod (pe_op op_add (pe_op op_add (pe_op op_mul (pv 2) (pv 2)) (pe_op op_mul pe_int (pv 2))) (pv 1)) pe_int))), ?_⟩
  have k0 : (0 : Int) ≤ (k : Int) := by omega
  have k1 : (k : Int) ≤ 1000 := by omega
  refine ⟨_, rfl, _, _, rfl, rfl, (by show (0 : Int) < 2147483629; decide), _, _, rfl, rfl, .inr ⟨by decide, by decide⟩, _, rfl, _, rfl, _, _, rfl, rfl, .inl ⟨by omega, by omega⟩, _, _, rfl, rfl, .inr ⟨by decide, by decide⟩, _, _, rfl, rfl, _, rfl, _, _, rfl, rfl, .inl ⟨by decide, by decide⟩, _, _, rfl, rfl, _, _, rfl, rfl, (by show (0 : Int) < 2147483647; decide), ?_⟩
  have h1 : 0 ≤ (c % 2147483629 * 48271 + (k : Int) * (k : Int) * 7919 + 31 * (k : Int)) % 2147483647 := Int.emod_nonneg _ (by decide)
  have h2 : (c % 2147483629 * 48271 + (k : Int) * (k : Int) * 7919 + 31 * (k : Int)) % 2147483647 < 2147483647 := Int.emod_lt_of_pos _ (by decide)
  refine ⟨_, rfl, _, rfl, _, _, rfl, rfl, .inl ⟨by omega, by omega⟩, _, rfl, _, _, rfl, rfl, .inl ⟨by decide, by decide⟩, _, _, rfl, rfl, _, rfl, _, _, rfl, rfl, _, _, rfl, rfl, (by show (0 : Int) < 2147483587; decide), q _ (Int.emod_nonneg _ (by decide)) (Int.emod_lt_of_pos _ (by decide))⟩
end
end K42

set_option Elab.async false
set_option linter.all false
set_option maxRecDepth 100000
set_option maxHeartbeats 4000000
namespace K42
open PySem L2 PyProof.Rows
theorem abc_at : ∀ m, m < 26 → (Str.ofString "abcdefghijklmnopqrstuvwxyz").cps.toList[m]? = some (97 + m) := by decide +kernel
theorem ab_at : ∀ m, m < 2 → (Str.ofString "ab").cps.toList[m]? = some (97 + m) := by decide +kernel
/-- an alphabet of n letters -/
structure Abc (z : Str) (n : Nat) : Prop where
  len : z.length = n
  pos : 0 < n
  le : n ≤ 26
  at_ : ∀ m, m < n → z.cps.toList[m]? = some (97 + m)
theorem abc26 : Abc "abcdefghijklmnopqrstuvwxyz" 26 := ⟨by decide +kernel, by decide, by decide, abc_at⟩
theorem abc2 : Abc "ab" 2 := ⟨by decide +kernel, by decide, by decide, ab_at⟩
theorem name_app {z : Str} {ch : Nat} (hz : ∀ c ∈ z.cps.toList, 97 ≤ c ∧ c ≤ 122) (hc : 97 ≤ ch ∧ ch ≤ 122) : ∀ c ∈ (z ++ (⟨#[ch]⟩ : Str)).cps.toList, 97 ≤ c ∧ c ≤ 122 := by
  intro c h
  rw [app_cps] at h
  rcases List.mem_append.mp h with h | h
  · exact hz c h
  · have : c = ch := by simpa using h
    rw [this]; exact hc
def spPool (K : PySem.W.Frag) : Sp := fun vs H Q _ => ∃ c : Int, vs = [.int c] ∧ ∀ (r : Addr) (zs : List Str) (H' : Hp), Same H H' → H r = none → H' r = some (.lst (zs.map V.str)) → zs.Nodup → (∀ z ∈ zs, nameB z = true) → 0 < zs.length → zs.length ≤ 12 → Q (.ref r) H'
theorem inStrs {z : Str} : ∀ {zs : List Str}, inV (.str z) (zs.map V.str) = decide (z ∈ zs)
  | [] => by simp [inV]
  | y :: ys => by
    have ih := inStrs (z := z) (zs := ys)
    show (eqV (.str y) (.str z) || inV (.str z) (ys.map V.str)) = _
    rw [ih]
    have : eqV (.str y) (.str z) = decide (z = y) := by
      show (y == z) = _
      rw [Bool.eq_iff_iff, beq_iff_eq, decide_eq_true_eq]
      exact ⟨Eq.symm, Eq.symm⟩
    rw [this]
    simp
theorem flatStrs : ∀ {zs : List Str}, (zs.map V.str).all flatV = true
  | [] => rfl
  | _ :: ys => by
    show (true && (ys.map V.str).all flatV) = true
    rw [flatStrs]
    rfl
theorem iteB {A B : Prop} {b : Bool} (h : b = true) (a : A) : if b = true then A else B := by rw [h]; exact iteT a
theorem iteC {A B : Prop} {b : Bool} (h : b = false) (a : B) : if b = true then A else B := by rw [h]; exact iteF a
section
variable {P : Program} {w : World} {K : PySem.W.Frag} {mg : Str → Option Value} {base : Heap} {f : Addr} {fd : FuncData}
theorem scPool : FnScope ["_law_cell", "_law_letters", "_law_pool_here", "_law_k", "_law_number", "_law_rest", "_law_name", "_law_j"] ["_law_cell"] (defScope sPool) := ⟨rfl, rfl, rfl, by decide +kernel, rfl, by decide +kernel, by decide +kernel⟩
theorem ok_pool {g : Addr} {gd : FuncData} (F : Fun K "_law_pool" "_law_pool" sPool f fd) (T : TxtL mg) (cM : Callee P w K mg base 1 "_law_mix" g gd ["_law_cell", "_law_k"] spMix) : FnOk P w K mg base CX0 2 f fd ["_law_cell"] (spPool K) := by
  refine F.ok scPool (fun vs H Q E h => ?_) (fun cdv A outer s H vs Q E hr h => ?_)
  · obtain ⟨c, rfl, _⟩ := h
    rfl
  obtain ⟨cc, rfl, q⟩ := h
  refine ⟨_, pss_cons (ps_set (i := 1) scPool.nd rfl (Or.inl rfl) (pe_ix ix_list (pe_lst (ac pe_str (ac pe_str pa_nil))) (pe_op op_mod (pv 0) pe_int) (fun _ _ => rfl)))
    (pss_cons (ps_set (i := 2) scPool.nd rfl (Or.inl rfl) (pe_lst pa_nil))
    (pss_cons (ps_for PassesOwn.never rfl (pi_range1 rfl T.range (ac pe_int pa_nil)) (pg_name (i := 3) scPool.nd rfl (Or.inl rfl))
      (pss_cons (ps_set (i := 4) scPool.nd rfl (Or.inl rfl) (cF cM hr (ac (pv 0) (ac (pv 3) pa_nil))))
      (pss_cons (ps_set (i := 5) scPool.nd rfl (Or.inl rfl) (pe_op op_fdiv (pv 4) pe_int))
      (pss_cons (ps_set (i := 6) scPool.nd rfl (Or.inl rfl) pe_str)
      (pss_cons (ps_for PassesOwn.never rfl (pi_range1 rfl T.range (ac (pe_op op_add pe_int (pe_op op_mod (pv 4) (pe_ix ix_list (pe_lst (ac pe_int (ac pe_int pa_nil))) (pe_op op_mod (pv 0) pe_int) (fun _ _ => rfl)))) pa_nil)) (pg_name (i := 7) scPool.nd rfl (Or.inl rfl))
        (pss_cons (ps_set (i := 6) scPool.nd rfl (Or.inl rfl) (pe_op op_add_str (pv 6) (pe_ix ix_str (pv 1) (pe_op op_mod (pv 5) (cB call_len_str T.len PySem.boot_len (ac (pv 1) pa_nil))) (fun _ _ => rfl))))
        (pss_one (ps_set (i := 5) scPool.nd rfl (Or.inl rfl) (pe_op op_fdiv (pv 5) (cB call_len_str T.len PySem.boot_len (ac (pv 1) pa_nil)))))))
      (pss_one (ps_if (pt_cmpR op_notIn_seq (pv 6) (pv 2) (by with_unfolding_all rfl)) (pss_one (ps_expr (pe_bm PySem.F.plainAttrs_list PySem.F.slot_list_append PySem.F.type_list_append mt_append (pv 2) (ac (pv 6) pa_nil)))) pss_nil)))))))
    (pss_one (ps_ret (pv 2))))), ?_⟩
  refine ⟨(by show 2 ≤ sizeLine; decide), fun l0 hl0 => ?_⟩
  have s0 := same_new hl0 (.lst [.str "ab", .str "abcdefghijklmnopqrstuvwxyz"])
  have g0 : upd H l0 (.lst [.str "ab", .str "abcdefghijklmnopqrstuvwxyz"]) l0 = some (.lst [.str "ab", .str "abcdefghijklmnopqrstuvwxyz"]) := upd_same
  generalize upd H l0 (.lst [.str "ab", .str "abcdefghijklmnopqrstuvwxyz"]) = H0 at s0 g0 ⊢
  obtain ⟨L, nL, hA, bb, hb, hbp, hb8, hat, hatb⟩ : ∃ (L : Str) (nL : Nat), Abc L nL ∧ ∃ bb : Nat, (bb = 3 ∨ bb = 8) ∧ 0 < bb ∧ bb ≤ 8 ∧ atI ([.str "ab", .str "abcdefghijklmnopqrstuvwxyz"] : List V) (cc % 2) = some (.str L) ∧ atI ([.int 3, .int 8] : List V) (cc % 2) = some (.int (bb : Nat)) := by
    have h : cc % 2 = 0 ∨ cc % 2 = 1 := by omega
    rcases h with h | h
    · exact ⟨"ab", 2, abc2, 3, .inl rfl, by decide, by decide, by rw [h]; rfl, by rw [h]; rfl⟩
    · exact ⟨_, 26, abc26, 8, .inr rfl, by decide, by decide, by rw [h]; rfl, by rw [h]; rfl⟩
  refine ⟨_, rfl, _, _, rfl, rfl, (by show (0 : Int) < 2; decide), l0, _, _, .str L, rfl, rfl, SqL.of g0, hat, ?_⟩
  refine ⟨(by show 0 ≤ sizeLine; decide), fun lp hlp => ?_⟩
  have s1 := same_new hlp (.lst [])
  have g1 : upd H0 lp (.lst []) lp = some (.lst []) := upd_same
  dsimp only [gName]
  generalize upd H0 lp (.lst []) = H1 at s1 g1 ⊢
  have s01 := s0.trans s1
  have nlp : H lp = none := s0.free hlp
  refine ⟨12, rfl, by decide, by decide, ?_⟩
  refine for_range (n := 12) (fun i σ H' => ∃ (zs : List Str) (v3 v4 v5 v6 v7 : Option V), σ = [some (.int cc), some (.str L), some (.ref lp), v3, v4, v5, v6, v7] ∧ Same H H' ∧ H' lp = some (.lst (zs.map V.str)) ∧ zs.Nodup ∧ (∀ z ∈ zs, nameB z = true) ∧ zs.length ≤ i ∧ (0 < i → 0 < zs.length)) ⟨[], _, _, _, _, _, rfl, s01, g1, List.nodup_nil, (fun _ h => nomatch h), Nat.le_refl _, fun h => absurd h (by decide)⟩ ?_ ?_
  rotate_left
  · rintro σ H2 ⟨zs, v3, v4, v5, v6, v7, rfl, s2, e2, nd, nm, ln, l0'⟩
    exact ⟨_, rfl, q lp zs H2 s2 nlp e2 nd nm (l0' (by decide)) ln⟩
  rintro i σ H2 hi ⟨zs, v3, v4, v5, v6, v7, rfl, s2, e2, nd, nm, ln, l0'⟩
  rw [Int.zero_add]
  refine ⟨_, rfl, _, rfl, cc, i, rfl, by omega, fun m m0 m1 => ?_⟩
  refine ⟨_, rfl, _, _, rfl, rfl, ⟨by decide, by decide⟩, ?_⟩
  have b0 : 0 ≤ m % (bb : Int) := Int.emod_nonneg _ (by omega)
  have b1 : m % (bb : Int) < (bb : Int) := Int.emod_lt_of_pos _ (by omega)
  refine ⟨_, rfl, (by show 2 ≤ sizeLine; decide), fun l3 hl3 => ?_⟩
  have s3 := same_new hl3 (.lst [.int 3, .int 8])
  have g3 : upd H2 l3 (.lst [.int 3, .int 8]) l3 = some (.lst [.int 3, .int 8]) := upd_same
  generalize upd H2 l3 (.lst [.int 3, .int 8]) = H3 at s3 g3 ⊢
  have s13 := s2.trans s3
  have e3 := s3 _ _ e2
  refine ⟨_, rfl, _, _, rfl, rfl, (by show (0 : Int) < 2; decide), l3, _, _, .int (bb : Nat), rfl, rfl, SqL.of g3, hatb, _, _, rfl, rfl, (by show (0 : Int) < (bb : Int); omega), _, _, rfl, rfl, 1 + m % (bb : Int), rfl, by omega, by omega, ?_⟩
  have hn : (1 + m % (bb : Int)).toNat ≤ 8 ∧ 1 ≤ (1 + m % (bb : Int)).toNat := by omega
  generalize (1 + m % (bb : Int)).toNat = n at hn
  refine for_range (n := n) (fun j σ H' => ∃ (r : Int) (z : Str) (v7 : Option V), σ = [some (.int cc), some (.str L), some (.ref lp), some (.int (i : Nat)), some (.int m), some (.int r), some (.str z), v7] ∧ H' = H3 ∧ z.length = j ∧ ∀ c ∈ z.cps.toList, 97 ≤ c ∧ c ≤ 122)
    ⟨m / 8, "", _, rfl, rfl, rfl, fun c hc => by rw [show ("" : Str).cps.toList = [] from nil_cps] at hc; cases hc⟩ ?_ ?_
  · rintro j σ H' hj ⟨r, z, v7, rfl, rfl, hl, hc⟩
    have lenL : (L.length : Int) = (nL : Int) := by rw [hA.len]
    have szL : L.length ≤ sizeLine := by rw [hA.len]; exact le1000 (by have := hA.le; omega)
    have p0 := hA.pos
    have p26 := hA.le
    have d0 : 0 ≤ r % (nL : Int) := Int.emod_nonneg _ (by omega)
    have d1 : r % (nL : Int) < (nL : Int) := Int.emod_lt_of_pos _ (by omega)
    obtain ⟨k, hk⟩ := Int.eq_ofNat_of_zero_le d0
    have hkn : k < nL := by omega
    refine ⟨_, rfl, _, rfl, _, rfl, _, rfl, L, rfl, szL, _, _, rfl, rfl, (by rw [lenL]; omega), L, _, 97 + k, rfl, rfl, szL, (by rw [lenL, hk]; exact atI_nat (hA.at_ k hkn)), _, _, rfl, rfl, (by rw [hl]; exact le1000 (by show j + 1 ≤ 1000; omega)), ?_⟩
    refine ⟨_, rfl, _, rfl, L, rfl, szL, _, _, rfl, rfl, ⟨by rw [lenL]; omega, by rw [lenL]; omega⟩, ?_⟩
    refine ⟨_, _, _, rfl, rfl, ?_, name_app hc (by omega)⟩
    rw [app_len, hl]
    rfl
  · rintro σ H' ⟨r, z, v7, rfl, rfl, hl, hc⟩
    have hzn : nameB z = true := nameB_iff.mpr ⟨by omega, by omega, hc⟩
    refine ⟨_, rfl, _, rfl, lp, _, rfl, .inl (SqL.of e3), rfl, flatStrs, _, rfl, ?_⟩
    by_cases hm : z ∈ zs
    · refine iteC (by rw [if_pos rfl, inStrs, decide_eq_true hm]; rfl) ?_
      exact ⟨zs, _, _, _, _, _, rfl, s13, e3, nd, nm, Nat.le_succ_of_le ln, fun _ => List.length_pos_of_mem hm⟩
    · refine iteB (by rw [if_pos rfl, inStrs, decide_eq_false hm]; rfl) ?_
      refine ⟨_, rfl, .inl ⟨rfl, _, SqL.of e3⟩, _, rfl, lp, _, _, rfl, rfl, e3, small1000 (by rw [List.length_map]; omega), ?_⟩
      refine ⟨zs ++ [z], _, _, _, _, _, rfl, fun b u e => by rw [upd_ne (ne_of_none e nlp)]; exact s13 _ _ e, by rw [upd_same, List.map_append]; rfl, List.nodup_append.mpr ⟨nd, by simp, fun x hx y hy e => hm (by rw [← List.mem_singleton.mp hy, ← e]; exact hx)⟩, fun y hy => ?_, by rw [List.length_append]; exact Nat.succ_le_succ ln, fun _ => by rw [List.length_append]; exact Nat.succ_pos _⟩
      rcases List.mem_append.mp hy with hy | hy
      · exact nm y hy
      · rw [List.mem_singleton.mp hy]; exact hzn
end
end K42

set_option Elab.async false
set_option linter.all false
set_option maxRecDepth 100000
set_option maxHeartbeats 4000000
namespace K42
open PySem L2 PyProof.Rows
/-! ### in order -/
theorem ord_cons {l g : Nat} {r : Rw} {rs : List Rw} (hg : grp r.k = g) (hb : badAt l g = false) (h : ordOk g rs = true) : ordOk l (r :: rs) = true := by
  show (!badAt l (grp r.k) && ordOk (grp r.k) rs) = true
  rw [hg, hb, h]
  rfl
theorem ord_even {g : Nat} (he : badAt g g = false) : ∀ (xs ys : List Rw) (l : Nat), badAt l g = false → (∀ r ∈ xs, grp r.k = g) → ordOk l ys = true → ordOk g ys = true → ordOk l (xs ++ ys) = true
  | [], _, _, _, _, h1, _ => h1
  | r :: rs, ys, l, hb, hg, _, h2 => ord_cons (hg r List.mem_cons_self) hb (ord_even he rs ys g he (fun x hx => hg x (List.mem_cons_of_mem _ hx)) h2 h2)
theorem ord_odd {g l : Nat} {xs ys : List Rw} (hl : xs.length ≤ 1) (hb : badAt l g = false) (hg : ∀ r ∈ xs, grp r.k = g) (h1 : ordOk l ys = true) (h2 : ordOk g ys = true) : ordOk l (xs ++ ys) = true := by
  match xs, hl with
  | [], _ => exact h1
  | [r], _ => exact ord_cons (hg r List.mem_cons_self) hb h2
theorem ord_all {xs0 xs1 xs2 xs3 : List Rw} (g0 : ∀ r ∈ xs0, grp r.k = 0) (g1 : ∀ r ∈ xs1, grp r.k = 1) (l1 : xs1.length ≤ 1) (g2 : ∀ r ∈ xs2, grp r.k = 2) (g3 : ∀ r ∈ xs3, grp r.k = 3) (l3 : xs3.length ≤ 1) : ordOk 0 (xs0 ++ (xs1 ++ (xs2 ++ xs3))) = true := by
  have h3 : ∀ l, l ≤ 2 → ordOk l xs3 = true := fun l hl => by
    have := ord_odd (g := 3) (l := l) (ys := []) l3 (by match l, hl with | 0, _ => rfl | 1, _ => rfl | 2, _ => rfl) g3 rfl rfl
    rwa [List.append_nil] at this
  have h2 : ∀ l, l ≤ 1 → ordOk l (xs2 ++ xs3) = true := fun l hl => ord_even (g := 2) rfl xs2 xs3 l (by match l, hl with | 0, _ => rfl | 1, _ => rfl) g2 (h3 l (by omega)) (h3 2 (by omega))
  have h1 : ordOk 0 (xs1 ++ (xs2 ++ xs3)) = true := ord_odd (g := 1) l1 rfl g1 (h2 0 (by omega)) (h2 1 (by omega))
  exact ord_even (g := 0) rfl xs0 _ 0 rfl g0 h1 h1
theorem nms_app (a b : List Rw) : nms (a ++ b) = nms a ++ nms b := by unfold nms; rw [List.filter_append, List.map_append]
theorem nms_one (r : Rw) : nms [r] = if byNm r.k = true then [r.z] else [] := by
  unfold nms
  cases h : byNm r.k <;> simp [h]
theorem grp_nm {k : Nat} (hk : k < 5) (h : byNm k = true) : grp k = 0 ∨ grp k = 2 := by
  rcases lt5 hk with rfl | rfl | rfl | rfl | rfl <;> first | (exact .inl rfl) | (exact .inr rfl) | (cases h)
theorem nms_nil {xs : List Rw} {g : Nat} (hg : ∀ r ∈ xs, r.ok ∧ grp r.k = g) (h : g % 2 = 1) : nms xs = [] := by
  unfold nms
  rw [List.filter_eq_nil_iff.mpr (fun r hr e => ?_)]
  · rfl
  · obtain ⟨ho, q⟩ := hg r hr
    rcases grp_nm ho.1 e with z | z <;> rw [z] at q <;> rw [← q] at h <;> cases h

/-! ### a form as it grows -/
structure FS where
  (P T G B : List Rw) (L : List Str)
def FS.add (S : FS) (k : Nat) (z : Str) (b : Bool) : FS := match k with
  | 0 => { S with P := S.P ++ [⟨0, z, b⟩] }
  | 1 => { S with P := S.P ++ [⟨1, z, b⟩], L := S.L ++ [z] }
  | 2 => { S with T := [⟨2, z, b⟩] }
  | 3 => { S with G := S.G ++ [⟨3, z, b⟩], L := S.L ++ [z] }
  | _ => { S with B := [⟨4, z, b⟩] }
structure FM (i : Nat) (S : FS) : Prop where
  okP : ∀ r ∈ S.P, r.ok ∧ grp r.k = 0
  okT : ∀ r ∈ S.T, r.ok ∧ grp r.k = 1
  okG : ∀ r ∈ S.G, r.ok ∧ grp r.k = 2
  okB : ∀ r ∈ S.B, r.ok ∧ grp r.k = 3
  lT : S.T.length ≤ 1
  lB : S.B.length ≤ 1
  nd : (nms S.P ++ nms S.G).Nodup
  sn : ∀ z ∈ nms S.P ++ nms S.G, z ∈ S.L
  ln : S.P.length + S.T.length + S.G.length + S.B.length ≤ i
  lL : S.L.length ≤ i
theorem mem_snoc {α : Type} {xs : List α} {y : α} {p : α → Prop} (h : ∀ x ∈ xs, p x) (hy : p y) : ∀ x ∈ xs ++ [y], p x := fun x hx => by
  rcases List.mem_append.mp hx with hx | hx
  · exact h x hx
  · rw [List.mem_singleton.mp hx]; exact hy
theorem FM.zero : FM 0 ⟨[], [], [], [], []⟩ := by
  refine ⟨?_, ?_, ?_, ?_, ?_, ?_, ?_, ?_, ?_, ?_⟩ <;> first | exact (fun _ h => nomatch h) | exact Nat.zero_le _ | exact List.nodup_nil | exact Nat.le_refl _
theorem nd_mid {a b : List Str} {z : Str} (h : (a ++ b).Nodup) (hz : z ∉ a ++ b) : (a ++ [z] ++ b).Nodup := by
  have p : (a ++ [z] ++ b).Perm (z :: (a ++ b)) := by
    rw [List.append_assoc]
    exact List.perm_middle
  exact p.nodup_iff.mpr (List.nodup_cons.mpr ⟨hz, h⟩)
theorem FM.add {i : Nat} {S : FS} {k : Nat} {z : Str} {b : Bool} (h : FM i S) (hk : k < 5) (hz : nameB z = true) (hn : byNm k = true → z ∉ S.L) : FM (i + 1) (S.add k z b) := by
  have ln := h.ln
  have lL := h.lL
  have lT := h.lT
  have lB := h.lB
  match k, hk with
  | 0, _ =>
    have e : nms (S.P ++ [⟨0, z, b⟩]) = nms S.P := by rw [nms_app, nms_one]; simp [byNm]
    exact ⟨mem_snoc h.okP ⟨⟨Nat.lt_of_sub_eq_succ rfl, hz⟩, rfl⟩, h.okT, h.okG, h.okB, h.lT, h.lB, by show (nms (S.P ++ _) ++ nms S.G).Nodup; rw [e]; exact h.nd, by show ∀ y ∈ nms (S.P ++ _) ++ nms S.G, y ∈ S.L; rw [e]; exact h.sn,
      by show (S.P ++ [_]).length + S.T.length + S.G.length + S.B.length ≤ i + 1; rw [List.length_append, List.length_singleton]; omega, Nat.le_succ_of_le h.lL⟩
  | 1, _ =>
    have e : nms (S.P ++ [⟨1, z, b⟩]) = nms S.P ++ [z] := by rw [nms_app, nms_one]; simp [byNm]
    have nz : z ∉ nms S.P ++ nms S.G := fun m => hn rfl (h.sn z m)
    refine ⟨mem_snoc h.okP ⟨⟨Nat.lt_of_sub_eq_succ rfl, hz⟩, rfl⟩, h.okT, h.okG, h.okB, h.lT, h.lB, by show (nms (S.P ++ _) ++ nms S.G).Nodup; rw [e]; exact nd_mid h.nd nz, ?_,
      by show (S.P ++ [_]).length + S.T.length + S.G.length + S.B.length ≤ i + 1; rw [List.length_append, List.length_singleton]; omega, by show (S.L ++ [_]).length ≤ i + 1; rw [List.length_append, List.length_singleton]; omega⟩
    show ∀ y ∈ nms (S.P ++ _) ++ nms S.G, y ∈ S.L ++ [z]
    rw [e]
    intro y hy
    rw [List.mem_append, List.mem_append] at hy
    rcases hy with (hy | hy) | hy
    · exact List.mem_append_left _ (h.sn y (List.mem_append_left _ hy))
    · exact List.mem_append_right _ hy
    · exact List.mem_append_left _ (h.sn y (List.mem_append_right _ hy))
  | 2, _ =>
    refine ⟨h.okP, fun r hr => ?_, h.okG, h.okB, Nat.le_refl _, h.lB, h.nd, h.sn, ?_, Nat.le_succ_of_le h.lL⟩
    · rw [List.mem_singleton.mp hr]; exact ⟨⟨Nat.lt_of_sub_eq_succ rfl, hz⟩, rfl⟩
    · show S.P.length + 1 + S.G.length + S.B.length ≤ i + 1
      omega
  | 3, _ =>
    have e : nms (S.G ++ [⟨3, z, b⟩]) = nms S.G ++ [z] := by rw [nms_app, nms_one]; simp [byNm]
    have nz : z ∉ nms S.P ++ nms S.G := fun m => hn rfl (h.sn z m)
    refine ⟨h.okP, h.okT, mem_snoc h.okG ⟨⟨Nat.lt_of_sub_eq_succ rfl, hz⟩, rfl⟩, h.okB, h.lT, h.lB, ?_, ?_,
      by show S.P.length + S.T.length + (S.G ++ [_]).length + S.B.length ≤ i + 1; rw [List.length_append, List.length_singleton]; omega, by show (S.L ++ [_]).length ≤ i + 1; rw [List.length_append, List.length_singleton]; omega⟩
    · show (nms S.P ++ nms (S.G ++ _)).Nodup
      rw [e, ← List.append_assoc]
      have := nd_mid (a := nms S.P ++ nms S.G) (b := []) (z := z) (by rw [List.append_nil]; exact h.nd) (by rw [List.append_nil]; exact nz)
      rwa [List.append_nil] at this
    · show ∀ y ∈ nms S.P ++ nms (S.G ++ _), y ∈ S.L ++ [z]
      rw [e]
      intro y hy
      rw [List.mem_append, List.mem_append] at hy
      rcases hy with hy | hy | hy
      · exact List.mem_append_left _ (h.sn y (List.mem_append_left _ hy))
      · exact List.mem_append_left _ (h.sn y (List.mem_append_right _ hy))
      · exact List.mem_append_right _ hy
  | 4, _ =>
    refine ⟨h.okP, h.okT, h.okG, fun r hr => ?_, h.lT, Nat.le_refl _, h.nd, h.sn, ?_, Nat.le_succ_of_le h.lL⟩
    · rw [List.mem_singleton.mp hr]; exact ⟨⟨Nat.lt_of_sub_eq_succ rfl, hz⟩, rfl⟩
    · show S.P.length + S.T.length + S.G.length + 1 ≤ i + 1
      omega
def FS.rows (S : FS) : List Rw := S.P ++ S.T ++ S.G ++ S.B
theorem FM.valid {i : Nat} {S : FS} {bars : List Str} (h : FM i S) (hi : i ≤ 24) (lb : bars.length ≤ 60) (bn : ∀ z ∈ bars, nameB z = true) (bd : bars.Nodup) (bl : ∀ z ∈ bars, z ∉ S.L) : Valid S.rows bars := by
  have en : nms S.rows = nms S.P ++ nms S.G := by
    unfold FS.rows
    rw [nms_app, nms_app, nms_app, nms_nil h.okT rfl, nms_nil h.okB rfl, List.append_nil, List.append_nil]
  refine ⟨fun r hr => ?_, ?_, lb, ?_, bn, ?_⟩
  · unfold FS.rows at hr
    rw [List.mem_append, List.mem_append, List.mem_append] at hr
    rcases hr with ((hr | hr) | hr) | hr
    · exact (h.okP r hr).1
    · exact (h.okT r hr).1
    · exact (h.okG r hr).1
    · exact (h.okB r hr).1
  · unfold FS.rows
    have := h.ln
    simp only [List.length_append]
    omega
  · unfold FS.rows
    rw [List.append_assoc, List.append_assoc]
    exact ord_all (fun r hr => (h.okP r hr).2) (fun r hr => (h.okT r hr).2) h.lT (fun r hr => (h.okG r hr).2) (fun r hr => (h.okB r hr).2) h.lB
  · rw [en]
    exact List.nodup_append.mpr ⟨h.nd, bd, fun x hx y hy e => bl y hy (e ▸ h.sn x hx)⟩
/-! ### its lists -/
theorem TAt.keep {H : Hp} {v D : Addr} {r : Rw} {o : HO} (h : TAt H v r) (hD : ∀ vs, H D ≠ some (.tup vs)) : TAt (upd H D o) v r := by
  show upd H D o v = _
  rw [upd_ne (fun e => by subst e; exact hD _ h)]
  exact h
def LsAt (H : Hp) (l : Addr) (rows : List Rw) : Prop := ∃ us : List Addr, H l = some (.lst (us.map V.ref)) ∧ Paired (TAt H) us rows
theorem LsAt.same {H H' : Hp} {l : Addr} {rows : List Rw} (h : LsAt H l rows) (s : Same H H') : LsAt H' l rows := let ⟨us, h1, h2⟩ := h; ⟨us, s _ _ h1, tats_same s h2⟩
theorem LsAt.keep {H : Hp} {l D : Addr} {rows : List Rw} {o : HO} (h : LsAt H l rows) (ne : l ≠ D) (hD : ∀ vs, H D ≠ some (.tup vs)) : LsAt (upd H D o) l rows :=
  let ⟨us, h1, h2⟩ := h
  ⟨us, by rw [upd_ne ne]; exact h1, Paired.imp' (fun _ _ z => z.keep hD) h2⟩
theorem LsAt.snoc {H : Hp} {l u : Addr} {rows : List Rw} {r : Rw} {us : List Addr} (h1 : H l = some (.lst (us.map V.ref))) (h2 : Paired (TAt H) us rows) (hu : TAt H u r) : LsAt (upd H l (.lst (us.map V.ref ++ [.ref u]))) l (rows ++ [r]) := by
  have hD : ∀ vs, H l ≠ some (.tup vs) := fun vs e => by rw [h1] at e; cases e
  refine ⟨us ++ [u], by rw [upd_same, List.map_append]; rfl, Paired.snoc (Paired.imp' (fun _ _ z => z.keep hD) h2) (hu.keep hD)⟩
structure FI (H H' : Hp) (lg g0 g1 g2 g3 ll : Addr) (S : FS) : Prop where
  sm : Same H H'
  gg : H' lg = some (.lst [.ref g0, .ref g1, .ref g2, .ref g3])
  h0 : LsAt H' g0 S.P
  h1 : LsAt H' g1 S.T
  h2 : LsAt H' g2 S.G
  h3 : LsAt H' g3 S.B
  hl : H' ll = some (.lst (S.L.map V.str))
  nd : [lg, g0, g1, g2, g3, ll].Nodup
  fr : ∀ x ∈ [lg, g0, g1, g2, g3, ll], H x = none
section
variable {H H' H'' : Hp} {lg g0 g1 g2 g3 ll u : Addr} {S : FS} {r : Rw} {z : Str} {b : Bool} {us : List Addr}
theorem FI.same (h : FI H H' lg g0 g1 g2 g3 ll S) (s : Same H' H'') : FI H H'' lg g0 g1 g2 g3 ll S := ⟨h.sm.trans s, s _ _ h.gg, h.h0.same s, h.h1.same s, h.h2.same s, h.h3.same s, s _ _ h.hl, h.nd, h.fr⟩
theorem FI.smU (h : FI H H' lg g0 g1 g2 g3 ll S) {l : Addr} (hl : H l = none) {o : HO} : Same H (upd H' l o) := fun b u e => by rw [upd_ne (ne_of_none e hl)]; exact h.sm _ _ e
theorem FI.ne (h : FI H H' lg g0 g1 g2 g3 ll S) : lg ≠ g0 ∧ lg ≠ g1 ∧ lg ≠ g2 ∧ lg ≠ g3 ∧ lg ≠ ll ∧ g0 ≠ g1 ∧ g0 ≠ g2 ∧ g0 ≠ g3 ∧ g0 ≠ ll ∧ g1 ≠ g2 ∧ g1 ≠ g3 ∧ g1 ≠ ll ∧ g2 ≠ g3 ∧ g2 ≠ ll ∧ g3 ≠ ll := by
  have := h.nd
  simp only [List.nodup_cons, List.mem_cons, List.not_mem_nil, or_false, not_or] at this
  obtain ⟨⟨a1, a2, a3, a4, a5⟩, ⟨b1, b2, b3, b4⟩, ⟨c1, c2, c3⟩, ⟨d1, d2⟩, e1, _⟩ := this
  exact ⟨a1, a2, a3, a4, a5, b1, b2, b3, b4, c1, c2, c3, d1, d2, e1⟩
theorem FI.addL (h : FI H H' lg g0 g1 g2 g3 ll S) : FI H (upd H' ll (.lst (S.L.map V.str ++ [.str z]))) lg g0 g1 g2 g3 ll { S with L := S.L ++ [z] } := by
  have hD : ∀ vs, H' ll ≠ some (.tup vs) := fun vs e => by rw [h.hl] at e; cases e
  obtain ⟨a1, a2, a3, a4, a5, b1, b2, b3, b4, c1, c2, c3, d1, d2, e1⟩ := h.ne
  exact ⟨h.smU (h.fr ll (by simp)), by rw [upd_ne a5]; exact h.gg, h.h0.keep b4 hD, h.h1.keep c3 hD, h.h2.keep d2 hD, h.h3.keep e1 hD, by rw [upd_same, List.map_append]; rfl, h.nd, h.fr⟩
theorem FI.add0 (h : FI H H' lg g0 g1 g2 g3 ll S) (hh : H' g0 = some (.lst (us.map V.ref))) (h2 : Paired (TAt H') us S.P) (hu : TAt H' u r) : FI H (upd H' g0 (.lst (us.map V.ref ++ [.ref u]))) lg g0 g1 g2 g3 ll { S with P := S.P ++ [r] } := by
  have hD : ∀ vs, H' g0 ≠ some (.tup vs) := fun vs e => by rw [hh] at e; cases e
  obtain ⟨a1, a2, a3, a4, a5, b1, b2, b3, b4, c1, c2, c3, d1, d2, e1⟩ := h.ne
  exact ⟨h.smU (h.fr g0 (by simp)), by rw [upd_ne a1]; exact h.gg, .snoc hh h2 hu, h.h1.keep b1.symm hD, h.h2.keep b2.symm hD, h.h3.keep b3.symm hD, by rw [upd_ne b4.symm]; exact h.hl, h.nd, h.fr⟩
theorem FI.add2 (h : FI H H' lg g0 g1 g2 g3 ll S) (hh : H' g2 = some (.lst (us.map V.ref))) (h2 : Paired (TAt H') us S.G) (hu : TAt H' u r) : FI H (upd H' g2 (.lst (us.map V.ref ++ [.ref u]))) lg g0 g1 g2 g3 ll { S with G := S.G ++ [r] } := by
  have hD : ∀ vs, H' g2 ≠ some (.tup vs) := fun vs e => by rw [hh] at e; cases e
  obtain ⟨a1, a2, a3, a4, a5, b1, b2, b3, b4, c1, c2, c3, d1, d2, e1⟩ := h.ne
  exact ⟨h.smU (h.fr g2 (by simp)), by rw [upd_ne a3]; exact h.gg, h.h0.keep b2 hD, h.h1.keep c1 hD, .snoc hh h2 hu, h.h3.keep d1.symm hD, by rw [upd_ne d2.symm]; exact h.hl, h.nd, h.fr⟩
theorem FI.add1 (h : FI H H' lg g0 g1 g2 g3 ll S) (hT : S.T = []) (hu : TAt H' u r) : FI H (upd H' g1 (.lst [.ref u])) lg g0 g1 g2 g3 ll { S with T := [r] } := by
  obtain ⟨us, hh, h2⟩ := h.h1
  rw [hT] at h2
  cases h2
  have hD : ∀ vs, H' g1 ≠ some (.tup vs) := fun vs e => by rw [hh] at e; cases e
  obtain ⟨a1, a2, a3, a4, a5, b1, b2, b3, b4, c1, c2, c3, d1, d2, e1⟩ := h.ne
  have sn := LsAt.snoc hh .nil hu
  exact ⟨h.smU (h.fr g1 (by simp)), by rw [upd_ne a2]; exact h.gg, h.h0.keep b1 hD, sn, h.h2.keep c1.symm hD, h.h3.keep c2.symm hD, by rw [upd_ne c3.symm]; exact h.hl, h.nd, h.fr⟩
theorem FI.add3 (h : FI H H' lg g0 g1 g2 g3 ll S) (hT : S.B = []) (hu : TAt H' u r) : FI H (upd H' g3 (.lst [.ref u])) lg g0 g1 g2 g3 ll { S with B := [r] } := by
  obtain ⟨us, hh, h2⟩ := h.h3
  rw [hT] at h2
  cases h2
  have hD : ∀ vs, H' g3 ≠ some (.tup vs) := fun vs e => by rw [hh] at e; cases e
  obtain ⟨a1, a2, a3, a4, a5, b1, b2, b3, b4, c1, c2, c3, d1, d2, e1⟩ := h.ne
  have sn := LsAt.snoc hh .nil hu
  exact ⟨h.smU (h.fr g3 (by simp)), by rw [upd_ne a4]; exact h.gg, h.h0.keep b3 hD, h.h1.keep c2 hD, h.h2.keep d1 hD, sn, by rw [upd_ne e1.symm]; exact h.hl, h.nd, h.fr⟩
end
/-- the rows, without bars -/
structure VR (rows : List Rw) : Prop where
  ok : ∀ r ∈ rows, r.ok
  l24 : rows.length ≤ 24
  ord : ordOk 0 rows = true
  nd : (nms rows).Nodup
theorem FM.vr {i : Nat} {S : FS} (h : FM i S) (hi : i ≤ 24) : VR S.rows := by
  have v := h.valid (bars := []) hi (Nat.zero_le _) (fun _ h => nomatch h) List.nodup_nil (fun _ h => nomatch h)
  exact ⟨v.ok, v.l24, v.ord, by have := v.nd; rwa [List.append_nil] at this⟩
end K42

set_option Elab.async false
set_option linter.all false
set_option maxRecDepth 100000
set_option maxHeartbeats 4000000
namespace K42
open PySem L2 PyProof.Rows
def spSpecs (K : PySem.W.Frag) : Sp := fun vs H Q _ => ∃ (a pa : Addr) (cs : List Int) (zs : List Str), vs = [.ref a, .ref pa] ∧ SqL K H a (cs.map V.int) ∧ cs.length ≤ 20 ∧ H pa = some (.lst (zs.map V.str)) ∧ 0 < zs.length ∧ (∀ z ∈ zs, nameB z = true) ∧
  ∀ (la : Addr) (us : List Addr) (rows : List Rw) (H' : Hp), Same H H' → H la = none → H' la = some (.lst (us.map V.ref)) → Paired (TAt H') us rows → VR rows → Q (.ref la) H'
section
variable {P : Program} {w : World} {K : PySem.W.Frag} {mg : Str → Option Value} {base : Heap} {f : Addr} {fd : FuncData}
theorem scSpecs : FnScope ["_law_cells", "_law_pool_here", "_law_groups", "_law_seen", "_law_cell", "_law_kind", "_law_name", "_law_loose_here"] ["_law_cells", "_law_pool_here"] (defScope sSpecs) := ⟨rfl, rfl, rfl, by decide +kernel, rfl, by decide +kernel, by decide +kernel⟩
theorem ok_specs (F : Fun K "_law_specs" "_law_specs" sSpecs f fd) (T : TxtL mg) : FnOk P w K mg base CX0 1 f fd ["_law_cells", "_law_pool_here"] (spSpecs K) := by
  refine F.ok scSpecs (fun vs H Q E h => ?_) (fun cdv A outer s H vs Q E hr h => ?_)
  · obtain ⟨a, pa, cs, zs, rfl, _⟩ := h
    rfl
  obtain ⟨a, pa, cs, zs, rfl, hS, l20, hpa, z0, hzn, q⟩ := h
  have hU := hr.units
  have hU0 := hr.units0
  refine ⟨_, pss_cons (ps_set (i := 2) scSpecs.nd rfl (Or.inl rfl) (pe_lst (ac (pe_lst pa_nil) (ac (pe_lst pa_nil) (ac (pe_lst pa_nil) (ac (pe_lst pa_nil) pa_nil))))))
    (pss_cons (ps_set (i := 3) scSpecs.nd rfl (Or.inl rfl) (pe_lst pa_nil))
    (pss_cons (ps_for PassesOwn.never rfl (pi_list (pv 0)) (pg_name (i := 4) scSpecs.nd rfl (Or.inl rfl))
      (pss_cons (ps_set (i := 5) scSpecs.nd rfl (Or.inl rfl) (pe_op op_mod (pv 4) pe_int))
      (pss_cons (ps_set (i := 6) scSpecs.nd rfl (Or.inl rfl) (pe_ix ix_list (pv 1) (pe_op op_mod (pe_op op_fdiv (pv 4) pe_int) (cB call_len_seq T.len PySem.boot_len (ac (pv 1) pa_nil))) (fun _ _ => rfl)))
      (pss_cons (ps_set (i := 7) scSpecs.nd rfl (Or.inl rfl) (pe_cmpR op_eq (pe_op op_mod (pe_op op_fdiv (pv 4) pe_int) pe_int) pe_int (nomark _)))
      (pss_one (ps_if (pt_cmpR op_lt (pv 5) pe_int (nomark _)) (pss_one (ps_expr (pe_bm PySem.F.plainAttrs_list PySem.F.slot_list_append PySem.F.type_list_append mt_append (pe_ix ix_list (pv 2) pe_int (fun _ _ => rfl)) (ac (pe_tup (ac pe_str (ac (pv 6) (ac (pv 7) pa_nil)))) pa_nil))))
        (pss_one (ps_if (PW.pt (pw_and (pt_cmpR op_eq (pv 5) pe_int (nomark _)) (pw_and1 (pt_cmpR (OpR.or (op_eqS hU) (op_eqLen hU0)) (pe_ix ix_list (pv 2) pe_int (fun _ _ => rfl)) (pe_lst pa_nil) (nomark _))))) (pss_one (ps_expr (pe_bm PySem.F.plainAttrs_list PySem.F.slot_list_append PySem.F.type_list_append mt_append (pe_ix ix_list (pv 2) pe_int (fun _ _ => rfl)) (ac (pe_tup (ac pe_str (ac (pv 6) pa_nil))) pa_nil))))
          (pss_one (ps_if (PW.pt (pw_and (pt_cmpR op_eq (pv 5) pe_int (nomark _)) (pw_and1 (pt_cmpR (OpR.or (op_eqS hU) (op_eqLen hU0)) (pe_ix ix_list (pv 2) pe_int (fun _ _ => rfl)) (pe_lst pa_nil) (nomark _))))) (pss_one (ps_expr (pe_bm PySem.F.plainAttrs_list PySem.F.slot_list_append PySem.F.type_list_append mt_append (pe_ix ix_list (pv 2) pe_int (fun _ _ => rfl)) (ac (pe_tup (ac pe_str (ac (pv 6) pa_nil))) pa_nil))))
            (pss_one (ps_if (PW.pt (pw_and (pt_cmpR op_in_seq (pv 5) (pe_tup (ac pe_int (ac pe_int (ac pe_int pa_nil)))) (by with_unfolding_all rfl)) (pw_and1 (pt_cmpR op_notIn_seq (pv 6) (pv 3) (by with_unfolding_all rfl))))) (pss_cons (ps_expr (pe_bm PySem.F.plainAttrs_list PySem.F.slot_list_append PySem.F.type_list_append mt_append (pe_ix ix_list (pv 2) pe_int (fun _ _ => rfl)) (ac (pe_tup (ac pe_str (ac (pv 6) (ac (pv 7) pa_nil)))) pa_nil))) (pss_one (ps_expr (pe_bm PySem.F.plainAttrs_list PySem.F.slot_list_append PySem.F.type_list_append mt_append (pv 3) (ac (pv 6) pa_nil)))))
              (pss_one (ps_if (PW.pt (pw_and (pt_cmpR op_in_seq (pv 5) (pe_tup (ac pe_int (ac pe_int pa_nil))) (by with_unfolding_all rfl)) (pw_and1 (pt_cmpR op_notIn_seq (pv 6) (pv 3) (by with_unfolding_all rfl))))) (pss_cons (ps_expr (pe_bm PySem.F.plainAttrs_list PySem.F.slot_list_append PySem.F.type_list_append mt_append (pe_ix ix_list (pv 2) pe_int (fun _ _ => rfl)) (ac (pe_tup (ac pe_str (ac (pv 6) (ac (pv 7) pa_nil)))) pa_nil))) (pss_one (ps_expr (pe_bm PySem.F.plainAttrs_list PySem.F.slot_list_append PySem.F.type_list_append mt_append (pv 3) (ac (pv 6) pa_nil))))) pss_nil))))))))))))))
    (pss_one (ps_ret (pe_op op_cat (pe_op op_cat (pe_op op_cat (pe_ix ix_list (pv 2) pe_int (fun _ _ => rfl)) (pe_ix ix_list (pv 2) pe_int (fun _ _ => rfl))) (pe_ix ix_list (pv 2) pe_int (fun _ _ => rfl))) (pe_ix ix_list (pv 2) pe_int (fun _ _ => rfl))))))), ?_⟩
  refine ⟨(by show 0 ≤ sizeLine; decide), fun g0 h0 => ?_⟩
  have s0 := same_new h0 (.lst [])
  have e0 : upd H g0 (.lst []) g0 = some (.lst []) := upd_same
  generalize upd H g0 (.lst []) = H0 at s0 e0 ⊢
  refine ⟨(by show 0 ≤ sizeLine; decide), fun g1 h1 => ?_⟩
  have s1 := same_new h1 (.lst [])
  have e1 : upd H0 g1 (.lst []) g1 = some (.lst []) := upd_same
  generalize upd H0 g1 (.lst []) = H1 at s1 e1 ⊢
  refine ⟨(by show 0 ≤ sizeLine; decide), fun g2 h2 => ?_⟩
  have s2 := same_new h2 (.lst [])
  have e2 : upd H1 g2 (.lst []) g2 = some (.lst []) := upd_same
  generalize upd H1 g2 (.lst []) = H2 at s2 e2 ⊢
  refine ⟨(by show 0 ≤ sizeLine; decide), fun g3 h3 => ?_⟩
  have s3 := same_new h3 (.lst [])
  have e3 : upd H2 g3 (.lst []) g3 = some (.lst []) := upd_same
  generalize upd H2 g3 (.lst []) = H3 at s3 e3 ⊢
  refine ⟨(by show 4 ≤ sizeLine; decide), fun lg h4 => ?_⟩
  have s4 := same_new h4 (.lst [.ref g0, .ref g1, .ref g2, .ref g3])
  have e4 : upd H3 lg (.lst [.ref g0, .ref g1, .ref g2, .ref g3]) lg = some (.lst [.ref g0, .ref g1, .ref g2, .ref g3]) := upd_same
  dsimp only [gName]
  generalize upd H3 lg (.lst [.ref g0, .ref g1, .ref g2, .ref g3]) = H4 at s4 e4 ⊢
  refine ⟨(by show 0 ≤ sizeLine; decide), fun ll h5 => ?_⟩
  have s5 := same_new h5 (.lst [])
  have e5 : upd H4 ll (.lst []) ll = some (.lst []) := upd_same
  dsimp only [gName]
  generalize upd H4 ll (.lst []) = H5 at s5 e5 ⊢
  have s01 := s0.trans s1
  have s02 := s01.trans s2
  have s03 := s02.trans s3
  have s04 := s03.trans s4
  have I0 : FI H H5 lg g0 g1 g2 g3 ll ⟨[], [], [], [], []⟩ := by
    have s15 := s2.trans (s3.trans (s4.trans s5))
    refine ⟨s04.trans s5, s5 _ _ e4, ⟨[], s15 _ _ (s1 _ _ e0), .nil⟩, ⟨[], s15 _ _ e1, .nil⟩, ⟨[], s5 _ _ (s4 _ _ (s3 _ _ e2)), .nil⟩, ⟨[], s5 _ _ (s4 _ _ e3), .nil⟩, e5, ?_, ?_⟩
    · simp only [List.nodup_cons, List.mem_cons, List.not_mem_nil, or_false, not_or, List.nodup_nil, not_false_iff, and_true]
      exact ⟨⟨(ne_of_none (s3 _ _ (s2 _ _ (s1 _ _ e0))) h4).symm, (ne_of_none (s3 _ _ (s2 _ _ e1)) h4).symm, (ne_of_none (s3 _ _ e2) h4).symm, (ne_of_none e3 h4).symm, ne_of_none e4 h5⟩, ⟨ne_of_none e0 h1, ne_of_none (s1 _ _ e0) h2, ne_of_none (s2 _ _ (s1 _ _ e0)) h3, ne_of_none (s4 _ _ (s3 _ _ (s2 _ _ (s1 _ _ e0)))) h5⟩, ⟨ne_of_none e1 h2, ne_of_none (s2 _ _ e1) h3, ne_of_none (s4 _ _ (s3 _ _ (s2 _ _ e1))) h5⟩, ⟨ne_of_none e2 h3, ne_of_none (s4 _ _ (s3 _ _ e2)) h5⟩, ne_of_none (s4 _ _ e3) h5⟩
    · intro x hx
      simp only [List.mem_cons, List.not_mem_nil, or_false] at hx
      rcases hx with rfl | rfl | rfl | rfl | rfl | rfl
      · exact s03.free h4
      · exact h0
      · exact s0.free h1
      · exact s01.free h2
      · exact s02.free h3
      · exact s04.free h5
  have lz : ((zs.map V.str).length : Int) = (zs.length : Int) := by rw [List.length_map]
  refine ⟨_, rfl, a, rfl, ⟨_, I0.sm.seq hS⟩, for_list (K := K) (a := a) (xs := cs.map V.int) (fun i σ H' => ∃ (S : FS) (v4 v5 v6 v7 : Option V), σ = [some (.ref a), some (.ref pa), some (.ref lg), some (.ref ll), v4, v5, v6, v7] ∧ FI H H' lg g0 g1 g2 g3 ll S ∧ FM i S)
    ⟨_, _, _, _, _, rfl, I0, FM.zero⟩ (fun i σ H' _ ⟨_, _, _, _, _, _, h, _⟩ => h.sm.seq hS) ?_ ?_⟩
  · rintro i x σ H6 hx ⟨S, v4, v5, v6, v7, rfl, I6, M6⟩
    obtain ⟨n, hn, rfl⟩ : ∃ n, cs[i]? = some n ∧ x = .int n := by
      rw [List.getElem?_map] at hx
      cases e : cs[i]? with
      | none => rw [e] at hx; cases hx
      | some n => rw [e] at hx; cases hx; exact ⟨n, rfl, rfl⟩
    have hi : i < cs.length := (List.getElem?_eq_some_iff.mp hn).1
    refine ⟨_, rfl, _, _, rfl, rfl, (by show (0 : Int) < 9; decide), ?_⟩
    have d0 : 0 ≤ n / 9 % (zs.length : Int) := Int.emod_nonneg _ (by omega)
    have d1 : n / 9 % (zs.length : Int) < (zs.length : Int) := Int.emod_lt_of_pos _ (by omega)
    obtain ⟨j, hj⟩ := Int.eq_ofNat_of_zero_le d0
    have hjl : j < zs.length := by omega
    have hpa6 := I6.sm _ _ hpa
    refine ⟨_, rfl, _, rfl, _, _, rfl, rfl, ⟨by decide, by decide⟩, _, rfl, pa, _, rfl, .inl (SqL.of hpa6), _, _, rfl, rfl, (by rw [lz]; omega), pa, _, _, .str zs[j], rfl, rfl, SqL.of hpa6, (by rw [lz, hj]; exact atI_nat (by rw [List.getElem?_map, List.getElem?_eq_getElem hjl]; rfl)), ?_⟩
    have hz := hzn _ (List.getElem_mem hjl)
    generalize zs[j] = z at hz ⊢
    refine ⟨_, rfl, _, _, rfl, rfl, ⟨by decide, by decide⟩, _, _, rfl, rfl, (by show (0 : Int) < 2; decide), rfl, ?_⟩
    dsimp only [gName]
    generalize decide (V.int (n / 108 % 2) = V.int 1) = fb
    have lnS := M6.ln
    have lL := M6.lL
    have skip : ∀ {H' : Hp}, FI H H' lg g0 g1 g2 g3 ll S → ∃ (S : FS) (v4 v5 v6 v7 : Option V), ([some (.ref a), some (.ref pa), some (.ref lg), some (.ref ll), some (.int n), some (.int (n % 9)), some (.str z), some (.bl fb)] : L2.St) = [some (.ref a), some (.ref pa), some (.ref lg), some (.ref ll), v4, v5, v6, v7] ∧ FI H H' lg g0 g1 g2 g3 ll S ∧ FM (i + 1) S := fun I => ⟨S, _, _, _, _, rfl, I, ⟨M6.okP, M6.okT, M6.okG, M6.okB, M6.lT, M6.lB, M6.nd, M6.sn, Nat.le_succ_of_le M6.ln, Nat.le_succ_of_le M6.lL⟩⟩
    have fin : ∀ {k : Nat} {H' : Hp} {b : Bool}, FI H H' lg g0 g1 g2 g3 ll (S.add k z b) → k < 5 → (byNm k = true → z ∉ S.L) → ∃ (S : FS) (v4 v5 v6 v7 : Option V), ([some (.ref a), some (.ref pa), some (.ref lg), some (.ref ll), some (.int n), some (.int (n % 9)), some (.str z), some (.bl fb)] : L2.St) = [some (.ref a), some (.ref pa), some (.ref lg), some (.ref ll), v4, v5, v6, v7] ∧ FI H H' lg g0 g1 g2 g3 ll S ∧ FM (i + 1) S := fun {k H' b} I hk hn' => ⟨S.add k z b, _, _, _, _, rfl, I, M6.add hk hz hn'⟩
    refine ⟨_, rfl, _, _, rfl, rfl, _, rfl, ?_⟩
    refine ite2 (fun _ => ?_) (fun _ => ?_)
    · obtain ⟨us, w1, w2⟩ := I6.h0
      have hlu : us.length ≤ 24 := by rw [w2.length]; omega
      refine ⟨_, rfl, lg, _, 0, .ref g0, rfl, rfl, SqL.of I6.gg, rfl, .inl ⟨rfl, _, SqL.of w1⟩, _, rfl, _, rfl, (by show 3 ≤ sizeLine; decide), fun u hu => ?_⟩
      have s7 := same_new hu (.tup [.str "seat", .str z, .bl fb])
      have tu : TAt (upd H6 u (.tup [.str "seat", .str z, .bl fb])) u ⟨0, z, fb⟩ := upd_same
      refine ⟨g0, _, _, rfl, rfl, s7 _ _ w1, small1000 (by rw [List.length_map]; omega), ?_⟩
      exact fin (k := 0) ((I6.same s7).add0 (s7 _ _ w1) (tats_same s7 w2) tu) (by decide) (fun e => by cases e)
    rename_i hlt
    have hge : ¬ n % 9 < 2 := fun e => hlt (decide_eq_true e)
    have hcase : n % 9 = 2 ∨ n % 9 = 3 ∨ n % 9 = 4 ∨ n % 9 = 5 ∨ n % 9 = 6 ∨ n % 9 = 7 ∨ n % 9 = 8 := by omega
    rcases hcase with hv | hv | hv | hv | hv | hv | hv
    · -- 2
      refine ⟨_, rfl, rfl, _, rfl, ?_⟩
      refine dF (fun e' => by have := V.int.inj e'; omega) ?_
      refine iteF ?_
      refine ⟨_, rfl, rfl, _, rfl, ?_⟩
      refine dF (fun e' => by have := V.int.inj e'; omega) ?_
      refine iteF ?_
      refine ⟨_, rfl, (by show 3 ≤ sizeLine; decide), fun tH7 htH7 => ?_⟩
      have sH7 := same_new htH7 (.tup [.int 2, .int 3, .int 4])
      have I7 := I6.same sH7
      refine ⟨tH7, _, rfl, .inr (SqT.of upd_same), rfl, rfl, _, rfl, ?_⟩
      generalize upd H6 tH7 (.tup [.int 2, .int 3, .int 4]) = H7 at sH7 I7 ⊢
      refine iteB (by rw [if_neg Bool.false_ne_true, hv]; decide +kernel) ?_
      refine ⟨_, rfl, _, rfl, ll, _, rfl, .inl (SqL.of I7.hl), rfl, flatStrs, _, rfl, ?_⟩
      by_cases hm : z ∈ S.L
      · refine iteC (by rw [if_pos rfl, inStrs, decide_eq_true hm]; rfl) ?_
        refine ⟨_, rfl, (by show 2 ≤ sizeLine; decide), fun tH8 htH8 => ?_⟩
        have sH8 := same_new htH8 (.tup [.int 6, .int 7])
        have I8 := I7.same sH8
        refine ⟨tH8, _, rfl, .inr (SqT.of upd_same), rfl, rfl, _, rfl, ?_⟩
        generalize upd H7 tH8 (.tup [.int 6, .int 7]) = H8 at sH8 I8 ⊢
        refine iteC (by rw [if_neg Bool.false_ne_true, hv]; decide +kernel) ?_
        refine iteF ?_
        exact skip I8
      refine iteB (by rw [if_pos rfl, inStrs, decide_eq_false hm]; rfl) ?_
      obtain ⟨us, w1, w2⟩ := I7.h0
      have hlu : us.length ≤ 24 := by rw [w2.length]; omega
      refine ⟨_, rfl, lg, _, 0, .ref g0, rfl, rfl, SqL.of I7.gg, rfl, .inl ⟨rfl, _, SqL.of w1⟩, _, rfl, _, rfl, (by show 3 ≤ sizeLine; decide), fun u hu => ?_⟩
      have s9 := same_new hu (.tup [.str "both", .str z, .bl fb])
      have tu : TAt (upd H7 u (.tup [.str "both", .str z, .bl fb])) u ⟨1, z, fb⟩ := upd_same
      refine ⟨g0, _, _, rfl, rfl, s9 _ _ w1, small1000 (by rw [List.length_map]; omega), ?_⟩
      have J := (I7.same s9).add0 (s9 _ _ w1) (tats_same s9 w2) tu
      dsimp only [tNext]
      generalize upd (upd H7 u (.tup [.str "both", .str z, .bl fb])) g0 (.lst (us.map V.ref ++ [.ref u])) = HJ at J ⊢
      refine ⟨_, rfl, .inl ⟨rfl, _, SqL.of J.hl⟩, _, rfl, ll, _, _, rfl, rfl, J.hl, small1000 (by rw [List.length_map]; show S.L.length ≤ 1000; omega), ?_⟩
      exact fin (k := 1) J.addL (by decide) (fun _ => hm)
    · -- 3
      refine ⟨_, rfl, rfl, _, rfl, ?_⟩
      refine dF (fun e' => by have := V.int.inj e'; omega) ?_
      refine iteF ?_
      refine ⟨_, rfl, rfl, _, rfl, ?_⟩
      refine dF (fun e' => by have := V.int.inj e'; omega) ?_
      refine iteF ?_
      refine ⟨_, rfl, (by show 3 ≤ sizeLine; decide), fun tH7 htH7 => ?_⟩
      have sH7 := same_new htH7 (.tup [.int 2, .int 3, .int 4])
      have I7 := I6.same sH7
      refine ⟨tH7, _, rfl, .inr (SqT.of upd_same), rfl, rfl, _, rfl, ?_⟩
      generalize upd H6 tH7 (.tup [.int 2, .int 3, .int 4]) = H7 at sH7 I7 ⊢
      refine iteB (by rw [if_neg Bool.false_ne_true, hv]; decide +kernel) ?_
      refine ⟨_, rfl, _, rfl, ll, _, rfl, .inl (SqL.of I7.hl), rfl, flatStrs, _, rfl, ?_⟩
      by_cases hm : z ∈ S.L
      · refine iteC (by rw [if_pos rfl, inStrs, decide_eq_true hm]; rfl) ?_
        refine ⟨_, rfl, (by show 2 ≤ sizeLine; decide), fun tH8 htH8 => ?_⟩
        have sH8 := same_new htH8 (.tup [.int 6, .int 7])
        have I8 := I7.same sH8
        refine ⟨tH8, _, rfl, .inr (SqT.of upd_same), rfl, rfl, _, rfl, ?_⟩
        generalize upd H7 tH8 (.tup [.int 6, .int 7]) = H8 at sH8 I8 ⊢
        refine iteC (by rw [if_neg Bool.false_ne_true, hv]; decide +kernel) ?_
        refine iteF ?_
        exact skip I8
      refine iteB (by rw [if_pos rfl, inStrs, decide_eq_false hm]; rfl) ?_
      obtain ⟨us, w1, w2⟩ := I7.h0
      have hlu : us.length ≤ 24 := by rw [w2.length]; omega
      refine ⟨_, rfl, lg, _, 0, .ref g0, rfl, rfl, SqL.of I7.gg, rfl, .inl ⟨rfl, _, SqL.of w1⟩, _, rfl, _, rfl, (by show 3 ≤ sizeLine; decide), fun u hu => ?_⟩
      have s9 := same_new hu (.tup [.str "both", .str z, .bl fb])
      have tu : TAt (upd H7 u (.tup [.str "both", .str z, .bl fb])) u ⟨1, z, fb⟩ := upd_same
      refine ⟨g0, _, _, rfl, rfl, s9 _ _ w1, small1000 (by rw [List.length_map]; omega), ?_⟩
      have J := (I7.same s9).add0 (s9 _ _ w1) (tats_same s9 w2) tu
      dsimp only [tNext]
      generalize upd (upd H7 u (.tup [.str "both", .str z, .bl fb])) g0 (.lst (us.map V.ref ++ [.ref u])) = HJ at J ⊢
      refine ⟨_, rfl, .inl ⟨rfl, _, SqL.of J.hl⟩, _, rfl, ll, _, _, rfl, rfl, J.hl, small1000 (by rw [List.length_map]; show S.L.length ≤ 1000; omega), ?_⟩
      exact fin (k := 1) J.addL (by decide) (fun _ => hm)
    · -- 4
      refine ⟨_, rfl, rfl, _, rfl, ?_⟩
      refine dF (fun e' => by have := V.int.inj e'; omega) ?_
      refine iteF ?_
      refine ⟨_, rfl, rfl, _, rfl, ?_⟩
      refine dF (fun e' => by have := V.int.inj e'; omega) ?_
      refine iteF ?_
      refine ⟨_, rfl, (by show 3 ≤ sizeLine; decide), fun tH7 htH7 => ?_⟩
      have sH7 := same_new htH7 (.tup [.int 2, .int 3, .int 4])
      have I7 := I6.same sH7
      refine ⟨tH7, _, rfl, .inr (SqT.of upd_same), rfl, rfl, _, rfl, ?_⟩
      generalize upd H6 tH7 (.tup [.int 2, .int 3, .int 4]) = H7 at sH7 I7 ⊢
      refine iteB (by rw [if_neg Bool.false_ne_true, hv]; decide +kernel) ?_
      refine ⟨_, rfl, _, rfl, ll, _, rfl, .inl (SqL.of I7.hl), rfl, flatStrs, _, rfl, ?_⟩
      by_cases hm : z ∈ S.L
      · refine iteC (by rw [if_pos rfl, inStrs, decide_eq_true hm]; rfl) ?_
        refine ⟨_, rfl, (by show 2 ≤ sizeLine; decide), fun tH8 htH8 => ?_⟩
        have sH8 := same_new htH8 (.tup [.int 6, .int 7])
        have I8 := I7.same sH8
        refine ⟨tH8, _, rfl, .inr (SqT.of upd_same), rfl, rfl, _, rfl, ?_⟩
        generalize upd H7 tH8 (.tup [.int 6, .int 7]) = H8 at sH8 I8 ⊢
        refine iteC (by rw [if_neg Bool.false_ne_true, hv]; decide +kernel) ?_
        refine iteF ?_
        exact skip I8
      refine iteB (by rw [if_pos rfl, inStrs, decide_eq_false hm]; rfl) ?_
      obtain ⟨us, w1, w2⟩ := I7.h0
      have hlu : us.length ≤ 24 := by rw [w2.length]; omega
      refine ⟨_, rfl, lg, _, 0, .ref g0, rfl, rfl, SqL.of I7.gg, rfl, .inl ⟨rfl, _, SqL.of w1⟩, _, rfl, _, rfl, (by show 3 ≤ sizeLine; decide), fun u hu => ?_⟩
      have s9 := same_new hu (.tup [.str "both", .str z, .bl fb])
      have tu : TAt (upd H7 u (.tup [.str "both", .str z, .bl fb])) u ⟨1, z, fb⟩ := upd_same
      refine ⟨g0, _, _, rfl, rfl, s9 _ _ w1, small1000 (by rw [List.length_map]; omega), ?_⟩
      have J := (I7.same s9).add0 (s9 _ _ w1) (tats_same s9 w2) tu
      dsimp only [tNext]
      generalize upd (upd H7 u (.tup [.str "both", .str z, .bl fb])) g0 (.lst (us.map V.ref ++ [.ref u])) = HJ at J ⊢
      refine ⟨_, rfl, .inl ⟨rfl, _, SqL.of J.hl⟩, _, rfl, ll, _, _, rfl, rfl, J.hl, small1000 (by rw [List.length_map]; show S.L.length ≤ 1000; omega), ?_⟩
      exact fin (k := 1) J.addL (by decide) (fun _ => hm)
    · -- 5
      refine ⟨_, rfl, rfl, _, rfl, ?_⟩
      refine dT (congrArg V.int hv) ?_
      obtain ⟨us, w1, w2⟩ := I6.h1
      refine ⟨_, rfl, lg, _, 1, .ref g1, rfl, rfl, SqL.of I6.gg, rfl, (by show 0 ≤ sizeLine; decide), fun l0 hl0 => ?_⟩
      have s7 := same_new hl0 (.lst [])
      have e7 : upd H6 l0 (.lst []) l0 = some (.lst []) := upd_same
      have I7 := I6.same s7
      have w1 := s7 _ _ w1
      have w2 := tats_same s7 w2
      generalize upd H6 l0 (.lst []) = H7 at s7 e7 I7 w1 w2 ⊢
      by_cases hT : S.T = []
      · rw [hT] at w2
        cases w2
        refine .inl ⟨g1, l0, 0, .lst [], fun _ => True, fun _ => True, rfl, rfl, by decide, Says.lst True.intro w1 .nil, Says.lst True.intro e7 .nil, _, rfl, ?_⟩
        refine iteT ?_
        refine ⟨_, rfl, lg, _, 1, .ref g1, rfl, rfl, SqL.of I7.gg, rfl, .inl ⟨rfl, _, SqL.of w1⟩, _, rfl, (by show 2 ≤ sizeLine; decide), fun u hu => ?_⟩
        have s9 := same_new hu (.tup [.str "tail", .str z])
        have tu : TAt (upd H7 u (.tup [.str "tail", .str z])) u ⟨2, z, fb⟩ := upd_same
        refine ⟨g1, _, _, rfl, rfl, s9 _ _ w1, small1000 (by show 0 ≤ 1000; decide), ?_⟩
        exact fin (k := 2) ((I7.same s9).add1 hT tu) (by decide) (fun e => by cases e)
      refine .inr ⟨g1, l0, _, _, rfl, rfl, w1, e7, (by rw [List.length_map, w2.length]; exact fun e => hT (List.eq_nil_of_length_eq_zero e)), _, rfl, ?_⟩
      refine iteF ?_
      refine ⟨_, rfl, rfl, _, rfl, ?_⟩
      refine dF (fun e' => by have := V.int.inj e'; omega) ?_
      refine iteF ?_
      refine ⟨_, rfl, (by show 3 ≤ sizeLine; decide), fun tH8 htH8 => ?_⟩
      have sH8 := same_new htH8 (.tup [.int 2, .int 3, .int 4])
      have I8 := I7.same sH8
      refine ⟨tH8, _, rfl, .inr (SqT.of upd_same), rfl, rfl, _, rfl, ?_⟩
      generalize upd H7 tH8 (.tup [.int 2, .int 3, .int 4]) = H8 at sH8 I8 ⊢
      refine iteC (by rw [if_neg Bool.false_ne_true, hv]; decide +kernel) ?_
      refine iteF ?_
      refine ⟨_, rfl, (by show 2 ≤ sizeLine; decide), fun tH9 htH9 => ?_⟩
      have sH9 := same_new htH9 (.tup [.int 6, .int 7])
      have I9 := I8.same sH9
      refine ⟨tH9, _, rfl, .inr (SqT.of upd_same), rfl, rfl, _, rfl, ?_⟩
      generalize upd H8 tH9 (.tup [.int 6, .int 7]) = H9 at sH9 I9 ⊢
      refine iteC (by rw [if_neg Bool.false_ne_true, hv]; decide +kernel) ?_
      refine iteF ?_
      exact skip I9
    · -- 6
      refine ⟨_, rfl, rfl, _, rfl, ?_⟩
      refine dF (fun e' => by have := V.int.inj e'; omega) ?_
      refine iteF ?_
      refine ⟨_, rfl, rfl, _, rfl, ?_⟩
      refine dF (fun e' => by have := V.int.inj e'; omega) ?_
      refine iteF ?_
      refine ⟨_, rfl, (by show 3 ≤ sizeLine; decide), fun tH7 htH7 => ?_⟩
      have sH7 := same_new htH7 (.tup [.int 2, .int 3, .int 4])
      have I7 := I6.same sH7
      refine ⟨tH7, _, rfl, .inr (SqT.of upd_same), rfl, rfl, _, rfl, ?_⟩
      generalize upd H6 tH7 (.tup [.int 2, .int 3, .int 4]) = H7 at sH7 I7 ⊢
      refine iteC (by rw [if_neg Bool.false_ne_true, hv]; decide +kernel) ?_
      refine iteF ?_
      refine ⟨_, rfl, (by show 2 ≤ sizeLine; decide), fun tH8 htH8 => ?_⟩
      have sH8 := same_new htH8 (.tup [.int 6, .int 7])
      have I8 := I7.same sH8
      refine ⟨tH8, _, rfl, .inr (SqT.of upd_same), rfl, rfl, _, rfl, ?_⟩
      generalize upd H7 tH8 (.tup [.int 6, .int 7]) = H8 at sH8 I8 ⊢
      refine iteB (by rw [if_neg Bool.false_ne_true, hv]; decide +kernel) ?_
      refine ⟨_, rfl, _, rfl, ll, _, rfl, .inl (SqL.of I8.hl), rfl, flatStrs, _, rfl, ?_⟩
      by_cases hm : z ∈ S.L
      · refine iteC (by rw [if_pos rfl, inStrs, decide_eq_true hm]; rfl) ?_
        exact skip I8
      refine iteB (by rw [if_pos rfl, inStrs, decide_eq_false hm]; rfl) ?_
      obtain ⟨us, w1, w2⟩ := I8.h2
      have hlu : us.length ≤ 24 := by rw [w2.length]; omega
      refine ⟨_, rfl, lg, _, 2, .ref g2, rfl, rfl, SqL.of I8.gg, rfl, .inl ⟨rfl, _, SqL.of w1⟩, _, rfl, _, rfl, (by show 3 ≤ sizeLine; decide), fun u hu => ?_⟩
      have s9 := same_new hu (.tup [.str "tag", .str z, .bl fb])
      have tu : TAt (upd H8 u (.tup [.str "tag", .str z, .bl fb])) u ⟨3, z, fb⟩ := upd_same
      refine ⟨g2, _, _, rfl, rfl, s9 _ _ w1, small1000 (by rw [List.length_map]; omega), ?_⟩
      have J := (I8.same s9).add2 (s9 _ _ w1) (tats_same s9 w2) tu
      dsimp only [tNext]
      generalize upd (upd H8 u (.tup [.str "tag", .str z, .bl fb])) g2 (.lst (us.map V.ref ++ [.ref u])) = HJ at J ⊢
      refine ⟨_, rfl, .inl ⟨rfl, _, SqL.of J.hl⟩, _, rfl, ll, _, _, rfl, rfl, J.hl, small1000 (by rw [List.length_map]; show S.L.length ≤ 1000; omega), ?_⟩
      exact fin (k := 3) J.addL (by decide) (fun _ => hm)
    · -- 7
      refine ⟨_, rfl, rfl, _, rfl, ?_⟩
      refine dF (fun e' => by have := V.int.inj e'; omega) ?_
      refine iteF ?_
      refine ⟨_, rfl, rfl, _, rfl, ?_⟩
      refine dF (fun e' => by have := V.int.inj e'; omega) ?_
      refine iteF ?_
      refine ⟨_, rfl, (by show 3 ≤ sizeLine; decide), fun tH7 htH7 => ?_⟩
      have sH7 := same_new htH7 (.tup [.int 2, .int 3, .int 4])
      have I7 := I6.same sH7
      refine ⟨tH7, _, rfl, .inr (SqT.of upd_same), rfl, rfl, _, rfl, ?_⟩
      generalize upd H6 tH7 (.tup [.int 2, .int 3, .int 4]) = H7 at sH7 I7 ⊢
      refine iteC (by rw [if_neg Bool.false_ne_true, hv]; decide +kernel) ?_
      refine iteF ?_
      refine ⟨_, rfl, (by show 2 ≤ sizeLine; decide), fun tH8 htH8 => ?_⟩
      have sH8 := same_new htH8 (.tup [.int 6, .int 7])
      have I8 := I7.same sH8
      refine ⟨tH8, _, rfl, .inr (SqT.of upd_same), rfl, rfl, _, rfl, ?_⟩
      generalize upd H7 tH8 (.tup [.int 6, .int 7]) = H8 at sH8 I8 ⊢
      refine iteB (by rw [if_neg Bool.false_ne_true, hv]; decide +kernel) ?_
      refine ⟨_, rfl, _, rfl, ll, _, rfl, .inl (SqL.of I8.hl), rfl, flatStrs, _, rfl, ?_⟩
      by_cases hm : z ∈ S.L
      · refine iteC (by rw [if_pos rfl, inStrs, decide_eq_true hm]; rfl) ?_
        exact skip I8
      refine iteB (by rw [if_pos rfl, inStrs, decide_eq_false hm]; rfl) ?_
      obtain ⟨us, w1, w2⟩ := I8.h2
      have hlu : us.length ≤ 24 := by rw [w2.length]; omega
      refine ⟨_, rfl, lg, _, 2, .ref g2, rfl, rfl, SqL.of I8.gg, rfl, .inl ⟨rfl, _, SqL.of w1⟩, _, rfl, _, rfl, (by show 3 ≤ sizeLine; decide), fun u hu => ?_⟩
      have s9 := same_new hu (.tup [.str "tag", .str z, .bl fb])
      have tu : TAt (upd H8 u (.tup [.str "tag", .str z, .bl fb])) u ⟨3, z, fb⟩ := upd_same
      refine ⟨g2, _, _, rfl, rfl, s9 _ _ w1, small1000 (by rw [List.length_map]; omega), ?_⟩
      have J := (I8.same s9).add2 (s9 _ _ w1) (tats_same s9 w2) tu
      dsimp only [tNext]
      generalize upd (upd H8 u (.tup [.str "tag", .str z, .bl fb])) g2 (.lst (us.map V.ref ++ [.ref u])) = HJ at J ⊢
      refine ⟨_, rfl, .inl ⟨rfl, _, SqL.of J.hl⟩, _, rfl, ll, _, _, rfl, rfl, J.hl, small1000 (by rw [List.length_map]; show S.L.length ≤ 1000; omega), ?_⟩
      exact fin (k := 3) J.addL (by decide) (fun _ => hm)
    · -- 8
      refine ⟨_, rfl, rfl, _, rfl, ?_⟩
      refine dF (fun e' => by have := V.int.inj e'; omega) ?_
      refine iteF ?_
      refine ⟨_, rfl, rfl, _, rfl, ?_⟩
      refine dT (congrArg V.int hv) ?_
      obtain ⟨us, w1, w2⟩ := I6.h3
      refine ⟨_, rfl, lg, _, 3, .ref g3, rfl, rfl, SqL.of I6.gg, rfl, (by show 0 ≤ sizeLine; decide), fun l0 hl0 => ?_⟩
      have s7 := same_new hl0 (.lst [])
      have e7 : upd H6 l0 (.lst []) l0 = some (.lst []) := upd_same
      have I7 := I6.same s7
      have w1 := s7 _ _ w1
      have w2 := tats_same s7 w2
      generalize upd H6 l0 (.lst []) = H7 at s7 e7 I7 w1 w2 ⊢
      by_cases hT : S.B = []
      · rw [hT] at w2
        cases w2
        refine .inl ⟨g3, l0, 0, .lst [], fun _ => True, fun _ => True, rfl, rfl, by decide, Says.lst True.intro w1 .nil, Says.lst True.intro e7 .nil, _, rfl, ?_⟩
        refine iteT ?_
        refine ⟨_, rfl, lg, _, 3, .ref g3, rfl, rfl, SqL.of I7.gg, rfl, .inl ⟨rfl, _, SqL.of w1⟩, _, rfl, (by show 2 ≤ sizeLine; decide), fun u hu => ?_⟩
        have s9 := same_new hu (.tup [.str "bag", .str z])
        have tu : TAt (upd H7 u (.tup [.str "bag", .str z])) u ⟨4, z, fb⟩ := upd_same
        refine ⟨g3, _, _, rfl, rfl, s9 _ _ w1, small1000 (by show 0 ≤ 1000; decide), ?_⟩
        exact fin (k := 4) ((I7.same s9).add3 hT tu) (by decide) (fun e => by cases e)
      refine .inr ⟨g3, l0, _, _, rfl, rfl, w1, e7, (by rw [List.length_map, w2.length]; exact fun e => hT (List.eq_nil_of_length_eq_zero e)), _, rfl, ?_⟩
      refine iteF ?_
      refine ⟨_, rfl, (by show 3 ≤ sizeLine; decide), fun tH8 htH8 => ?_⟩
      have sH8 := same_new htH8 (.tup [.int 2, .int 3, .int 4])
      have I8 := I7.same sH8
      refine ⟨tH8, _, rfl, .inr (SqT.of upd_same), rfl, rfl, _, rfl, ?_⟩
      generalize upd H7 tH8 (.tup [.int 2, .int 3, .int 4]) = H8 at sH8 I8 ⊢
      refine iteC (by rw [if_neg Bool.false_ne_true, hv]; decide +kernel) ?_
      refine iteF ?_
      refine ⟨_, rfl, (by show 2 ≤ sizeLine; decide), fun tH9 htH9 => ?_⟩
      have sH9 := same_new htH9 (.tup [.int 6, .int 7])
      have I9 := I8.same sH9
      refine ⟨tH9, _, rfl, .inr (SqT.of upd_same), rfl, rfl, _, rfl, ?_⟩
      generalize upd H8 tH9 (.tup [.int 6, .int 7]) = H9 at sH9 I9 ⊢
      refine iteC (by rw [if_neg Bool.false_ne_true, hv]; decide +kernel) ?_
      refine iteF ?_
      exact skip I9
  · rintro σ H6 ⟨S, v4, v5, v6, v7, rfl, I6, M6⟩
    rw [List.length_map] at M6
    have lnS := M6.ln
    obtain ⟨u0, a0, b0⟩ := I6.h0
    obtain ⟨u1, a1, b1⟩ := I6.h1
    obtain ⟨u2, a2, b2⟩ := I6.h2
    obtain ⟨u3, a3, b3⟩ := I6.h3
    have c0 := b0.length
    have c1 := b1.length
    have c2 := b2.length
    have c3 := b3.length
    refine ⟨_, rfl, lg, _, 0, .ref g0, rfl, rfl, SqL.of I6.gg, rfl, _, rfl, lg, _, 1, .ref g1, rfl, rfl, SqL.of I6.gg, rfl, g0, g1, _, _, rfl, rfl, a0, a1, le1000 (by rw [List.length_map, List.length_map]; omega), fun p1 hp1 => ?_⟩
    have t1 := same_new hp1 (.lst (u0.map V.ref ++ u1.map V.ref))
    have f1 : upd H6 p1 (.lst (u0.map V.ref ++ u1.map V.ref)) p1 = some (.lst (u0.map V.ref ++ u1.map V.ref)) := upd_same
    generalize upd H6 p1 (.lst (u0.map V.ref ++ u1.map V.ref)) = H7 at t1 f1 ⊢
    refine ⟨_, rfl, lg, _, 2, .ref g2, rfl, rfl, SqL.of (t1 _ _ I6.gg), rfl, p1, g2, _, _, rfl, rfl, f1, t1 _ _ a2, le1000 (by rw [List.length_append, List.length_map, List.length_map, List.length_map]; omega), fun p2 hp2 => ?_⟩
    have t2 := same_new hp2 (.lst (u0.map V.ref ++ u1.map V.ref ++ u2.map V.ref))
    have f2 : upd H7 p2 (.lst (u0.map V.ref ++ u1.map V.ref ++ u2.map V.ref)) p2 = some (.lst (u0.map V.ref ++ u1.map V.ref ++ u2.map V.ref)) := upd_same
    generalize upd H7 p2 (.lst (u0.map V.ref ++ u1.map V.ref ++ u2.map V.ref)) = H8 at t2 f2 ⊢
    have t12 := t1.trans t2
    refine ⟨_, rfl, lg, _, 3, .ref g3, rfl, rfl, SqL.of (t12 _ _ I6.gg), rfl, p2, g3, _, _, rfl, rfl, f2, t12 _ _ a3, le1000 (by simp only [List.length_append, List.length_map]; omega), fun p3 hp3 => ?_⟩
    have t3 := same_new hp3 (.lst (u0.map V.ref ++ u1.map V.ref ++ u2.map V.ref ++ u3.map V.ref))
    have t13 := t12.trans t3
    refine q p3 (u0 ++ u1 ++ u2 ++ u3) S.rows _ (I6.sm.trans t13) (I6.sm.free (t12.free hp3)) ?_ ?_ (M6.vr (by omega))
    · rw [upd_same]
      simp only [List.map_append]
    · have paired_app' : ∀ {α β : Type} {R : α → β → Prop} {a c : List α} {b d : List β}, Paired R a b → Paired R c d → Paired R (a ++ c) (b ++ d) := by
        intro α β R a c b d h1 h2
        induction h1 with
        | nil => exact h2
        | cons r t ih => exact .cons r ih
      unfold FS.rows
      exact paired_app' (paired_app' (paired_app' (tats_same t13 b0) (tats_same t13 b1)) (tats_same t13 b2)) (tats_same t13 b3)
end
end K42

set_option Elab.async false
set_option linter.all false
set_option maxRecDepth 100000
set_option maxHeartbeats 4000000
namespace K42
open PySem L2 PyProof.Rows
theorem row_at0 {r : Rw} (h : r.ok) : atI (rv r) 0 = some (.str (kw r.k)) := by
  obtain ⟨k, z, b⟩ := r
  rcases lt5 h.1 with e | e | e | e | e <;> (cases e; rfl)
theorem row_at1 {r : Rw} (h : r.ok) : atI (rv r) 1 = some (.str r.z) := by
  obtain ⟨k, z, b⟩ := r
  rcases lt5 h.1 with e | e | e | e | e <;> (cases e; rfl)
theorem in_nm' {k : Nat} (h : k < 5) : inV (.str (kw k)) [.str "both", .str "tag"] = byNm k := in_nm k h
theorem nms_zip {R : Addr → Rw → Prop} {us : List Addr} {rows : List Rw} (h : Paired R us rows) : ((us.zip rows).filter fun p => byNm p.2.k).map (fun p => V.str p.2.z) = (nms rows).map V.str := by
  have := zip_out h (fun r => byNm r.k) (fun r => V.str r.z)
  rw [this]
  unfold nms
  rw [List.map_map]
  rfl
def spLBars (K : PySem.W.Frag) : Sp := fun vs H Q _ => ∃ (a pa la : Addr) (cs : List Int) (zs : List Str) (us : List Addr) (rows : List Rw), vs = [.ref a, .ref pa, .ref la] ∧ SqL K H a (cs.map V.int) ∧ cs.length ≤ 20 ∧ H pa = some (.lst (zs.map V.str)) ∧ 0 < zs.length ∧ (∀ z ∈ zs, nameB z = true) ∧ H la = some (.lst (us.map V.ref)) ∧ Paired (TAt H) us rows ∧ VR rows ∧
  ∀ (l : Addr) (bars : List Str) (H' : Hp), Same H H' → H l = none → H' l = some (.lst (bars.map V.str)) → Valid rows bars → Q (.ref l) H'
section
variable {P : Program} {w : World} {K : PySem.W.Frag} {mg : Str → Option Value} {base : Heap} {f : Addr} {fd : FuncData}
theorem ndOne : ([Str.ofString "_law_one"] : List Str).Nodup := by decide +kernel
theorem scLBars : FnScope ["_law_cells", "_law_pool_here", "_law_specs_here", "_law_seen", "_law_shut", "_law_cell", "_law_name"] ["_law_cells", "_law_pool_here", "_law_specs_here"] (defScope sBars) := ⟨rfl, rfl, rfl, by decide +kernel, rfl, by decide +kernel, by decide +kernel⟩
theorem ok_lbars (F : Fun K "_law_bars" "_law_bars" sBars f fd) (T : TxtL mg) : FnOk P w K mg base CX0 1 f fd ["_law_cells", "_law_pool_here", "_law_specs_here"] (spLBars K) := by
  refine F.ok scLBars (fun vs H Q E h => ?_) (fun cdv A outer s H vs Q E hr h => ?_)
  · obtain ⟨a, pa, la, cs, zs, us, rows, rfl, _⟩ := h
    rfl
  obtain ⟨a, pa, la, cs, zs, us, rows, rfl, hS, l20, hpa, z0, hzn, hla, hu, V1, q⟩ := h
  refine ⟨_, pss_cons (ps_lc (i := 3) [] ["_law_one"] [none] scLBars.nd rfl (Or.inl rfl) rfl ⟨rfl, rfl, rfl, rfl⟩ (pi_list (pv 2)) (gown_name 0) rfl rfl rfl
      (fun pins fp s H C => ⟨pg_name (i := 0) ndOne rfl (Or.inl rfl) (.inr rfl), pif_one (pt_cmpR (r := rIn K false) op_in_seq (pe_ix (r := rIxT K) ix_tup (pv 0) pe_int (fun _ _ => rfl)) (pe_tup (ac pe_str (ac pe_str pa_nil))) (by with_unfolding_all rfl)), pe_ix (r := rIxT K) ix_tup (pv 0) pe_int (fun _ _ => rfl)⟩))
    (pss_cons (ps_set (i := 4) scLBars.nd rfl (Or.inl rfl) (pe_lst pa_nil))
    (pss_cons (ps_for PassesOwn.never rfl (pi_list (pv 0)) (pg_name (i := 5) scLBars.nd rfl (Or.inl rfl))
      (pss_cons (ps_set (i := 6) scLBars.nd rfl (Or.inl rfl) (pe_ix ix_list (pv 1) (pe_op op_mod (pv 5) (cB call_len_seq T.len PySem.boot_len (ac (pv 1) pa_nil))) (fun _ _ => rfl)))
      (pss_one (ps_if (PW.pt (pw_and (pt_cmpR op_notIn_seq (pv 6) (pv 3) (by with_unfolding_all rfl)) (pw_and1 (pt_cmpR op_notIn_seq (pv 6) (pv 4) (by with_unfolding_all rfl))))) (pss_one (ps_expr (pe_bm PySem.F.plainAttrs_list PySem.F.slot_list_append PySem.F.type_list_append mt_append (pv 4) (ac (pv 6) pa_nil)))) pss_nil))))
    (pss_one (ps_ret (pv 4))))), ?_⟩
  have l24 := V1.l24
  refine ⟨_, rfl, la, rfl, ⟨_, SqL.of hla⟩, fun D hD => ?_⟩
  refine lc_zip (K := K) TAt (fun r => byNm r.k) (fun _ r => .str r.z) hD hla hu (by omega) (fun i u r H' N S hu' hr' tr sH n1 s1 => ?_) (fun H1 s1 hD1 => ?_)
  · have rk := V1.ok r (List.mem_of_getElem? hr')
    have tu := sH _ _ tr
    refine ⟨_, rfl, u, _, 0, _, rfl, rfl, SqT.of tu, row_at0 rk, (by show 2 ≤ sizeLine; decide), fun l hl => ?_⟩
    have s2 := same_new hl (.tup [.str "both", .str "tag"])
    refine ⟨l, _, rfl, .inr (SqT.of upd_same), rfl, rfl, _, rfl, ?_⟩
    rw [if_neg Bool.false_ne_true, in_nm' rk.1]
    exact ⟨fun e => ⟨_, rfl, u, _, 1, _, rfl, rfl, SqT.of (s2 _ _ tu), row_at1 rk, n1 _ s2 e⟩, fun e => s1 _ s2 e⟩
  rw [nms_zip hu] at hD1
  refine ⟨(by show 0 ≤ sizeLine; decide), fun fo hfo => ?_⟩
  have s2 := same_new hfo (.lst [])
  have g2 : upd H1 fo (.lst []) fo = some (.lst []) := upd_same
  dsimp only [gName]
  generalize upd H1 fo (.lst []) = H2 at s2 g2 ⊢
  have s12 := s1.trans s2
  have nD := s2 _ _ hD1
  have nfo : H fo = none := s1.free hfo
  have neD : D ≠ fo := ne_of_none hD1 hfo
  have lz : ((zs.map V.str).length : Int) = (zs.length : Int) := by rw [List.length_map]
  refine ⟨_, rfl, a, rfl, ⟨_, s12.seq hS⟩, for_list (K := K) (a := a) (xs := cs.map V.int) (fun i σ H' => ∃ (bars : List Str) (v5 v6 : Option V), σ = [some (.ref a), some (.ref pa), some (.ref la), some (.ref D), some (.ref fo), v5, v6] ∧ Same H H' ∧ H' D = some (.lst ((nms rows).map V.str)) ∧ H' fo = some (.lst (bars.map V.str)) ∧ bars.Nodup ∧ (∀ z ∈ bars, nameB z = true) ∧ (∀ z ∈ bars, z ∉ nms rows) ∧ bars.length ≤ i)
    ⟨[], _, _, rfl, s12, nD, g2, List.nodup_nil, (fun _ h => nomatch h), (fun _ h => nomatch h), Nat.le_refl _⟩ (fun i σ H' _ ⟨_, _, _, _, sH, _⟩ => sH.seq hS) ?_ ?_⟩
  · rintro i x σ H3 hx ⟨bars, v5, v6, rfl, s3, eD, eF, nd, nm, nk, ln⟩
    obtain ⟨n, hn, rfl⟩ : ∃ n, cs[i]? = some n ∧ x = .int n := by
      rw [List.getElem?_map] at hx
      cases e : cs[i]? with
      | none => rw [e] at hx; cases hx
      | some n => rw [e] at hx; cases hx; exact ⟨n, rfl, rfl⟩
    have hi : i < cs.length := (List.getElem?_eq_some_iff.mp hn).1
    have d0 : 0 ≤ n % (zs.length : Int) := Int.emod_nonneg _ (by omega)
    have d1 : n % (zs.length : Int) < (zs.length : Int) := Int.emod_lt_of_pos _ (by omega)
    obtain ⟨j, hj⟩ := Int.eq_ofNat_of_zero_le d0
    have hjl : j < zs.length := by omega
    have hpa3 := s3 _ _ hpa
    refine ⟨_, rfl, _, rfl, _, rfl, pa, _, rfl, .inl (SqL.of hpa3), _, _, rfl, rfl, (by rw [lz]; omega), pa, _, _, .str zs[j], rfl, rfl, SqL.of hpa3, (by rw [lz, hj]; exact atI_nat (by rw [List.getElem?_map, List.getElem?_eq_getElem hjl]; rfl)), ?_⟩
    have hz := hzn _ (List.getElem_mem hjl)
    generalize zs[j] = z at hz ⊢
    refine ⟨_, rfl, _, rfl, D, _, rfl, .inl (SqL.of eD), rfl, flatStrs, _, rfl, ?_⟩
    by_cases hk : z ∈ nms rows
    · refine iteC (by rw [if_pos rfl, inStrs, decide_eq_true hk]; rfl) ?_
      refine iteF ?_
      exact ⟨bars, _, _, rfl, s3, eD, eF, nd, nm, nk, Nat.le_succ_of_le ln⟩
    refine iteB (by rw [if_pos rfl, inStrs, decide_eq_false hk]; rfl) ?_
    refine ⟨_, rfl, _, rfl, fo, _, rfl, .inl (SqL.of eF), rfl, flatStrs, _, rfl, ?_⟩
    by_cases hb : z ∈ bars
    · refine iteC (by rw [if_pos rfl, inStrs, decide_eq_true hb]; rfl) ?_
      exact ⟨bars, _, _, rfl, s3, eD, eF, nd, nm, nk, Nat.le_succ_of_le ln⟩
    refine iteB (by rw [if_pos rfl, inStrs, decide_eq_false hb]; rfl) ?_
    refine ⟨_, rfl, .inl ⟨rfl, _, SqL.of eF⟩, _, rfl, fo, _, _, rfl, rfl, eF, small1000 (by rw [List.length_map]; omega), ?_⟩
    refine ⟨bars ++ [z], _, _, rfl, fun b u e => by rw [upd_ne (ne_of_none e nfo)]; exact s3 _ _ e, by rw [upd_ne neD]; exact eD, by rw [upd_same, List.map_append]; rfl, List.nodup_append.mpr ⟨nd, by simp, fun x hx y hy e => hb (by rw [← List.mem_singleton.mp hy, ← e]; exact hx)⟩, fun y hy => ?_, fun y hy => ?_, by rw [List.length_append]; exact Nat.succ_le_succ ln⟩
    · rcases List.mem_append.mp hy with hy | hy
      · exact nm y hy
      · rw [List.mem_singleton.mp hy]; exact hz
    · rcases List.mem_append.mp hy with hy | hy
      · exact nk y hy
      · rw [List.mem_singleton.mp hy]; exact hk
  · rintro σ H3 ⟨bars, v5, v6, rfl, s3, eD, eF, nd, nm, nk, ln⟩
    rw [List.length_map] at ln
    exact ⟨_, rfl, q fo bars H3 s3 nfo eF ⟨V1.ok, V1.l24, by omega, V1.ord, nm, List.nodup_append.mpr ⟨V1.nd, nd, fun x hx y hy e => nk y hy (e ▸ hx)⟩⟩⟩
end
end K42

set_option Elab.async false
set_option linter.all false
set_option maxRecDepth 100000
set_option maxHeartbeats 4000000
namespace K42
open PySem L2 PyProof.Rows
def ofOne (k : Nat) : Bool := k == 0 || k == 1 || k == 3
theorem in_of : ∀ k, k < 5 → inV (.str (kw k)) [.str "seat", .str "both", .str "tag"] = ofOne k := by decide +kernel
/-- is there a seat, both or tag by this number -/
def sglB (rows : List Rw) (p : Int) : Bool := if 0 ≤ p then match rows[p.toNat]? with | some r => ofOne r.k | none => false else false
def spSgl : Sp := fun vs H Q _ => ∃ (la : Addr) (p : Int) (us : List Addr) (rows : List Rw), vs = [.ref la, .int p] ∧ H la = some (.lst (us.map V.ref)) ∧ Paired (TAt H) us rows ∧ VR rows ∧ ∀ H', Same H H' → Q (.bl (sglB rows p)) H'
section
variable {P : Program} {w : World} {K : PySem.W.Frag} {mg : Str → Option Value} {base : Heap} {f : Addr} {fd : FuncData}
theorem scSgl : FnScope ["_law_specs_here", "_law_p"] ["_law_specs_here", "_law_p"] (defScope sSingle) := ⟨rfl, rfl, rfl, by decide +kernel, rfl, by decide +kernel, by decide +kernel⟩
theorem ok_sgl (F : Fun K "_law_single" "_law_single" sSingle f fd) (T : TxtL mg) : FnOk P w K mg base CX0 1 f fd ["_law_specs_here", "_law_p"] spSgl := by
  refine F.ok scSgl (fun vs H Q E h => ?_) (fun cdv A outer s H vs Q E hr h => ?_)
  · obtain ⟨la, p, us, rows, rfl, _⟩ := h
    rfl
  obtain ⟨la, p, us, rows, rfl, hla, hu, V1, q⟩ := h
  refine ⟨_, pss_one (ps_ret (pe_and (pe_cmpR op_le pe_int (pv 1) (nomark _)) (pe_and (pe_cmpR op_lt (pv 1) (cB call_len_seq T.len PySem.boot_len (ac (pv 0) pa_nil)) (nomark _)) (pe_one (pe_cmpR op_in_seq (pe_ix ix_tup (pe_ix ix_list (pv 0) (pv 1) (fun _ _ => rfl)) pe_int (fun _ _ => rfl)) (pe_tup (ac pe_str (ac pe_str (ac pe_str pa_nil)))) (by with_unfolding_all rfl)))))), ?_⟩
  have lu : us.length = rows.length := hu.length
  refine ⟨_, rfl, _, _, rfl, rfl, _, rfl, ?_⟩
  unfold sglB at q
  by_cases h0 : 0 ≤ p
  rotate_left
  · refine dF h0 ?_
    have := q H (Same.refl _)
    rw [if_neg h0] at this
    exact this
  refine dT h0 ?_
  rw [if_pos h0] at q
  obtain ⟨n, rfl⟩ := Int.eq_ofNat_of_zero_le h0
  rw [Int.toNat_natCast] at q
  refine ⟨_, rfl, _, rfl, la, _, rfl, .inl (SqL.of hla), _, _, rfl, rfl, _, rfl, ?_⟩
  by_cases h1 : n < rows.length
  rotate_left
  · have h1' : ¬ ((n : Nat) : Int) < ((us.map V.ref).length : Int) := by rw [List.length_map]; omega
    refine dF h1' ?_
    have := q H (Same.refl _)
    rw [List.getElem?_eq_none (by omega)] at this
    exact this
  have h1' : ((n : Nat) : Int) < ((us.map V.ref).length : Int) := by rw [List.length_map]; omega
  refine dT h1' ?_
  have e2 : rows[n]? = some rows[n] := List.getElem?_eq_getElem h1
  have eu : us[n]? = some us[n] := List.getElem?_eq_getElem (by omega)
  obtain ⟨r, hr', tr⟩ := paired_at hu eu
  rw [hr'] at q
  have rk := V1.ok r (List.mem_of_getElem? hr')
  refine ⟨_, rfl, _, rfl, la, _, _, .ref us[n], rfl, rfl, SqL.of hla, atI_nat (by rw [List.getElem?_map, eu]; rfl), us[n], _, 0, _, rfl, rfl, SqT.of tr, row_at0 rk, (by show 3 ≤ sizeLine; decide), fun t ht => ?_⟩
  have s1 := same_new ht (.tup [.str "seat", .str "both", .str "tag"])
  refine ⟨t, _, rfl, .inr (SqT.of upd_same), rfl, rfl, ?_⟩
  rw [if_neg Bool.false_ne_true, in_of _ rk.1]
  exact q _ s1
end
end K42

set_option Elab.async false
set_option linter.all false
set_option maxRecDepth 100000
set_option maxHeartbeats 4000000
namespace K42
open PySem L2 PyProof.Rows
theorem row_at2 {r : Rw} (h : ofOne r.k = true) : atI (rv r) 2 = some (.bl r.b) := by
  obtain ⟨k, z, b⟩ := r
  unfold ofOne at h
  simp only [Bool.or_eq_true, beq_iff_eq] at h
  rcases h with (h | h) | h <;> (cases h; rfl)
def keepF (rows : List Rw) (i : Nat) : Bool := match rows[i]? with | some r => ofOne r.k && r.b | none => false
/-- the numbers of the free seats, boths and tags -/
def freeN (rows : List Rw) : List Nat := (List.range rows.length).filter (keepF rows)
def spLoose : Sp := fun vs H Q _ => ∃ (la : Addr) (us : List Addr) (rows : List Rw), vs = [.ref la] ∧ H la = some (.lst (us.map V.ref)) ∧ Paired (TAt H) us rows ∧ VR rows ∧ ∀ (l : Addr) (H' : Hp), Same H H' → H l = none → H' l = some (.lst ((freeN rows).map fun n => V.int (n : Nat))) → Q (.ref l) H'
section
variable {P : Program} {w : World} {K : PySem.W.Frag} {mg : Str → Option Value} {base : Heap} {f : Addr} {fd : FuncData}
theorem ndPs : ([Str.ofString "_law_p", Str.ofString "_law_specs_here"] : List Str).Nodup := by decide +kernel
theorem scLoose : FnScope ["_law_specs_here"] ["_law_specs_here"] (defScope sLoose) := ⟨rfl, rfl, rfl, by decide +kernel, rfl, by decide +kernel, by decide +kernel⟩
theorem ok_loose {g : Addr} {gd : FuncData} (F : Fun K "_law_loose" "_law_loose" sLoose f fd) (T : TxtL mg) (cS : Callee P w K mg base 1 "_law_single" g gd ["_law_specs_here", "_law_p"] spSgl) : FnOk P w K mg base CX0 2 f fd ["_law_specs_here"] spLoose := by
  refine F.ok scLoose (fun vs H Q E h => ?_) (fun cdv A outer s H vs Q E hr h => ?_)
  · obtain ⟨la, us, rows, rfl, _⟩ := h
    rfl
  obtain ⟨la, us, rows, rfl, hla, hu, V1, q⟩ := h
  refine ⟨_, pss_one (ps_ret (pe_lc ["_law_specs_here"] ["_law_p", "_law_specs_here"] [none, some 0] rfl ⟨rfl, rfl, rfl, rfl⟩ (pi_range1 rfl T.range (ac (cB call_len_seq T.len PySem.boot_len (ac (pv 0) pa_nil)) pa_nil)) (gown_name 0) rfl rfl rfl
      (fun pins fp s H C => ⟨pg_name (i := 0) ndPs rfl (Or.inl rfl) (.inr rfl), pif_one (PW.pt (pw_and (pt_val (cF cS hr (ac (pv 1) (ac (pv 0) pa_nil)))) (pw_and1 (pt_val (pe_ix (r := rIxT K) ix_tup (pe_ix (r := rIxL K) ix_list (pv 1) (pv 0) (fun _ _ => rfl)) pe_int (fun _ _ => rfl)))))), pv 0⟩))), ?_⟩
  have lu : us.length = rows.length := hu.length
  have l24 := V1.l24
  refine ⟨_, rfl, la, _, rfl, .inl (SqL.of hla), (((us.map V.ref).length : Nat) : Int), rfl, by omega, (by rw [List.length_map]; omega), fun D hD => ?_⟩
  rw [show (((us.map V.ref).length : Nat) : Int).toNat = rows.length by rw [List.length_map]; omega]
  refine lc_selr (n := rows.length) (keepF rows) (fun n => .int (n : Nat)) hD (by omega) (fun i H' N S hi sH n1 s1 => ?_) (fun H1 s1 h1 => q D H1 s1 hD h1)
  rw [Int.zero_add]
  have e2 : rows[i]? = some rows[i] := List.getElem?_eq_getElem hi
  have eu : us[i]? = some us[i] := List.getElem?_eq_getElem (by omega)
  have tr : TAt H us[i] rows[i] := by
    obtain ⟨r, hr', tr⟩ := paired_at hu eu
    rw [e2] at hr'
    cases hr'
    exact tr
  refine ⟨_, rfl, _, rfl, la, (i : Int), us, rows, rfl, sH _ _ hla, tats_same sH hu, V1, fun H2 s2 => ?_⟩
  have es : sglB rows (i : Int) = ofOne rows[i].k := by
    unfold sglB
    rw [if_pos (by omega), Int.toNat_natCast, e2]
  have ek : keepF rows i = (ofOne rows[i].k && rows[i].b) := by
    unfold keepF
    rw [e2]
  refine ⟨_, rfl, ?_⟩
  rw [es]
  cases ho : ofOne rows[i].k with
  | false =>
    refine iteF ?_
    exact ⟨fun e => Bool.noConfusion e, fun _ => s1 _ s2 (by rw [ek, ho]; rfl)⟩
  | true =>
    refine iteT ?_
    have sH2 := sH.trans s2
    refine ⟨_, rfl, _, rfl, la, _, _, .ref us[i], rfl, rfl, SqL.of (sH2 _ _ hla), atI_nat (by rw [List.getElem?_map, eu]; rfl), us[i], _, 2, _, rfl, rfl, SqT.of (sH2 _ _ tr), row_at2 ho, _, rfl, ?_⟩
    exact ⟨fun e => ⟨_, rfl, n1 _ s2 (by rw [ek, ho, e]; rfl)⟩, fun e => s1 _ s2 (by rw [ek, ho, e]; rfl)⟩
end
end K42

set_option Elab.async false
set_option linter.all false
set_option maxRecDepth 100000
set_option maxHeartbeats 4000000
namespace K42
open PySem L2 PyProof.Rows
abbrev sDTold : Stmt := inClass (top 3) 0
abbrev sDSum : Stmt := inClass (top 6) 0
/-- a default -/
inductive Df where
  | told (n : Int) | once | anew | sum (at_ times plus : Int)
def Df.row : Df → List V
  | .told n => [.str "told", .int n] | .once => [.str "once"] | .anew => [.str "anew"] | .sum a t p => [.str "sum", .int a, .int t, .int p]
def fTo (v : V) : List (Str × V) := putF "number" v []
def fSu (a t p : V) : List (Str × V) := putF "plus" p (putF "times" t (putF "at" a []))
def Df.fs : Df → List (Str × V)
  | .told n => fTo (.int n) | .sum a t p => fSu (.int a) (.int t) (.int p) | _ => []
def Df.k : Df → Nat
  | .told _ => 0 | .once => 1 | .anew => 2 | .sum _ _ _ => 3
structure C4 where
  (c0 c1 c2 c3 : Addr)
def C4.at (c : C4) : Nat → Addr
  | 0 => c.c0 | 1 => c.c1 | 2 => c.c2 | _ => c.c3
def spD1 (C : Addr) : Sp := fun vs H Q _ => ∃ (p dx : Addr) (v : V), vs = [.ref p, v] ∧ H p = some (.ins C dx []) ∧ Q .non (upd H p (.ins C dx (fTo v)))
def spD3 (C : Addr) : Sp := fun vs H Q _ => ∃ (p dx : Addr) (x y z : V), vs = [.ref p, x, y, z] ∧ H p = some (.ins C dx []) ∧ Q .non (upd H p (.ins C dx (fSu x y z)))
def spDef (K : PySem.W.Frag) (c : C4) : Sp := fun vs H Q _ => ∃ (p : Addr) (d : Df), vs = [.ref p] ∧ H p = some (.tup d.row) ∧ ∀ (x dx : Addr) (H' : Hp), Same H H' → H x = none → H' x = some (.ins (c.at d.k) dx d.fs) → Q (.ref x) H'
structure Ctors4 (P : Program) (w : World) (K : PySem.W.Frag) (mg : Str → Option Value) (base : Heap) (c : C4) (i0 i3 : Addr) (d0 d3 : FuncData) : Prop where
  k0 : Ctor P w K mg base CX0 1 "Told" c.c0 i0 d0 ["self", "number"] [] (spD1 c.c0)
  k3 : Ctor P w K mg base CX0 1 "Sum" c.c3 i3 d3 ["self", "at", "times", "plus"] [] (spD3 c.c3)
  k1 : Mk0 K c.c1
  k2 : Mk0 K c.c2
  m1 : mg "Once" = some (.ref c.c1)
  m2 : mg "Anew" = some (.ref c.c2)
theorem nd10 : ¬ (V.str "once" = V.str "told") := by decide +kernel
theorem nd20 : ¬ (V.str "anew" = V.str "told") := by decide +kernel
theorem nd21 : ¬ (V.str "anew" = V.str "once") := by decide +kernel
theorem nd30 : ¬ (V.str "sum" = V.str "told") := by decide +kernel
theorem nd31 : ¬ (V.str "sum" = V.str "once") := by decide +kernel
theorem nd32 : ¬ (V.str "sum" = V.str "anew") := by decide +kernel
section
variable {P : Program} {w : World} {K : PySem.W.Frag} {mg : Str → Option Value} {base : Heap} {f C i0 i3 : Addr} {fd d0 d3 : FuncData} {c : C4}
theorem scDTold : FnScope ["self", "number"] ["self", "number"] (defScope sDTold) := ⟨rfl, rfl, rfl, by decide +kernel, rfl, by decide +kernel, by decide +kernel⟩
theorem ok_dTold (F : Fun K "__init__" "Told.__init__" sDTold f fd) (cc : Cls K C) (n : NoAttr K C "number") : FnOk P w K mg base CX0 1 f fd ["self", "number"] (spD1 C) := by
  refine F.ok scDTold (fun vs H Q E h => ?_) (fun cdv A outer s H vs Q E hr h => ?_)
  · obtain ⟨p, dx, v, rfl, _⟩ := h
    rfl
  obtain ⟨p, dx, v, rfl, hp, q⟩ := h
  refine ⟨_, pss_one (ps_fld (pv 0) (pv 1) rfl), ?_⟩
  exact ⟨_, rfl, _, rfl, p, C, dx, [], rfl, hp, cc, n, (by show 0 < 1000; decide), q⟩
theorem scDSum : FnScope ["self", "at", "times", "plus"] ["self", "at", "times", "plus"] (defScope sDSum) := ⟨rfl, rfl, rfl, by decide +kernel, rfl, by decide +kernel, by decide +kernel⟩
theorem ok_dSum (F : Fun K "__init__" "Sum.__init__" sDSum f fd) (cc : Cls K C) (n1 : NoAttr K C "at") (n2 : NoAttr K C "times") (n3 : NoAttr K C "plus") : FnOk P w K mg base CX0 1 f fd ["self", "at", "times", "plus"] (spD3 C) := by
  refine F.ok scDSum (fun vs H Q E h => ?_) (fun cdv A outer s H vs Q E hr h => ?_)
  · obtain ⟨p, dx, x, y, z, rfl, _⟩ := h
    rfl
  obtain ⟨p, dx, x, y, z, rfl, hp, q⟩ := h
  refine ⟨_, pss_cons (ps_fld (pv 0) (pv 1) rfl) (pss_cons (ps_fld (pv 0) (pv 2) rfl) (pss_one (ps_fld (pv 0) (pv 3) rfl))), ?_⟩
  refine ⟨_, rfl, _, rfl, p, C, dx, [], rfl, hp, cc, n1, (by show 0 < 1000; decide), ?_⟩
  refine ⟨_, rfl, _, rfl, p, C, dx, _, rfl, upd_same, cc, n2, (by show 1 < 1000; decide), ?_⟩
  rw [upd_upd]
  refine ⟨_, rfl, _, rfl, p, C, dx, _, rfl, upd_same, cc, n3, (by show 2 < 1000; decide), ?_⟩
  rw [upd_upd]
  exact q
theorem scDef : FnScope ["_law_told"] ["_law_told"] (defScope sDefault) := ⟨rfl, rfl, rfl, by decide +kernel, rfl, by decide +kernel, by decide +kernel⟩
theorem ok_def (F : Fun K "_law_default" "_law_default" sDefault f fd) (U : Ctors4 P w K mg base c i0 i3 d0 d3) : FnOk P w K mg base CX0 3 f fd ["_law_told"] (spDef K c) := by
  refine F.ok scDef (fun vs H Q E h => ?_) (fun cdv A outer s H vs Q E hr h => ?_)
  · obtain ⟨p, d, rfl, _⟩ := h
    rfl
  obtain ⟨p, d, rfl, hp, q⟩ := h
  have hS : SqT K H p d.row := SqT.of hp
  refine ⟨_, pss_cons (ps_if (pt_cmpR op_eq (pe_ix ix_tup (pv 0) pe_int (fun _ _ => rfl)) pe_str (nomark _)) (pss_one (ps_ret (cMk U.k0 .nil pass0 hr (ac (pe_ix ix_tup (pv 0) pe_int (fun _ _ => rfl)) pa_nil)))) pss_nil)
    (pss_cons (ps_if (pt_cmpR op_eq (pe_ix ix_tup (pv 0) pe_int (fun _ _ => rfl)) pe_str (nomark _)) (pss_one (ps_ret (pe_new U.k1 rfl U.m1))) pss_nil)
    (pss_cons (ps_if (pt_cmpR op_eq (pe_ix ix_tup (pv 0) pe_int (fun _ _ => rfl)) pe_str (nomark _)) (pss_one (ps_ret (pe_new U.k2 rfl U.m2))) pss_nil)
    (pss_one (ps_ret (cMk U.k3 .nil pass0 hr (ac (pe_ix ix_tup (pv 0) pe_int (fun _ _ => rfl)) (ac (pe_ix ix_tup (pv 0) pe_int (fun _ _ => rfl)) (ac (pe_ix ix_tup (pv 0) pe_int (fun _ _ => rfl)) pa_nil)))))))), ?_⟩
  cases d with
  | told n =>
    refine ⟨_, rfl, p, _, _, .str "told", rfl, rfl, hS, rfl, rfl, _, rfl, ?_⟩
    refine dT rfl ?_
    exact ⟨_, rfl, p, _, _, .int n, rfl, rfl, hS, rfl, fun x dx hx hdx ne => ⟨x, dx, .int n, rfl, upd_same, ⟨rfl, q x dx _ (same_make hx hdx) hx upd_same⟩⟩⟩
  | once =>
    refine ⟨_, rfl, p, _, _, .str "once", rfl, rfl, hS, rfl, rfl, _, rfl, ?_⟩
    refine dF nd10 ?_
    refine ⟨_, rfl, p, _, _, .str "once", rfl, rfl, hS, rfl, rfl, _, rfl, ?_⟩
    refine dT rfl ?_
    exact fun x dx hx hdx ne => q x dx _ (same_make0 hx hdx) hx upd_same
  | anew =>
    refine ⟨_, rfl, p, _, _, .str "anew", rfl, rfl, hS, rfl, rfl, _, rfl, ?_⟩
    refine dF nd20 ?_
    refine ⟨_, rfl, p, _, _, .str "anew", rfl, rfl, hS, rfl, rfl, _, rfl, ?_⟩
    refine dF nd21 ?_
    refine ⟨_, rfl, p, _, _, .str "anew", rfl, rfl, hS, rfl, rfl, _, rfl, ?_⟩
    refine dT rfl ?_
    exact fun x dx hx hdx ne => q x dx _ (same_make0 hx hdx) hx upd_same
  | sum a' t' p' =>
    refine ⟨_, rfl, p, _, _, .str "sum", rfl, rfl, hS, rfl, rfl, _, rfl, ?_⟩
    refine dF nd30 ?_
    refine ⟨_, rfl, p, _, _, .str "sum", rfl, rfl, hS, rfl, rfl, _, rfl, ?_⟩
    refine dF nd31 ?_
    refine ⟨_, rfl, p, _, _, .str "sum", rfl, rfl, hS, rfl, rfl, _, rfl, ?_⟩
    refine dF nd32 ?_
    exact ⟨_, rfl, p, _, _, .int a', rfl, rfl, hS, rfl, _, rfl, p, _, _, .int t', rfl, rfl, hS, rfl, _, rfl, p, _, _, .int p', rfl, rfl, hS, rfl, fun x dx hx hdx ne => ⟨x, dx, .int a', .int t', .int p', rfl, upd_same, ⟨rfl, q x dx _ (same_make hx hdx) hx upd_same⟩⟩⟩
end
end K42

set_option Elab.async false
set_option linter.all false
set_option maxRecDepth 100000
set_option maxHeartbeats 4000000
namespace K42
open PySem L2 PyProof.Rows
def spDrawn : Sp := fun vs H Q _ => ∃ (c : Int) (many : Nat), vs = [.int c, .int many] ∧ many ≤ 24 ∧ ∀ (u : Addr) (d : Df) (H' : Hp), Same H H' → H u = none → H' u = some (.tup d.row) → Q (.ref u) H'
section
variable {P : Program} {w : World} {K : PySem.W.Frag} {mg : Str → Option Value} {base : Heap} {f : Addr} {fd : FuncData}
theorem scDrawn : FnScope ["_law_cell", "_law_many", "_law_number"] ["_law_cell", "_law_many"] (defScope sDrawn) := ⟨rfl, rfl, rfl, by decide +kernel, rfl, by decide +kernel, by decide +kernel⟩
theorem ok_drawn {g1 g2 : Addr} {d1 d2 : FuncData} (F : Fun K "_law_drawn" "_law_drawn" sDrawn f fd) (cM : Callee P w K mg base 1 "_law_mix" g1 d1 ["_law_cell", "_law_k"] spMix) (cT : Callee P w K mg base 1 "_law_thing" g2 d2 ["_law_cell"] spThg) : FnOk P w K mg base CX0 2 f fd ["_law_cell", "_law_many"] spDrawn := by
  refine F.ok scDrawn (fun vs H Q E h => ?_) (fun cdv A outer s H vs Q E hr h => ?_)
  · obtain ⟨c, many, rfl, _⟩ := h
    rfl
  obtain ⟨c, many, rfl, hm, q⟩ := h
  refine ⟨_, pss_cons (ps_set (i := 2) scDrawn.nd rfl (Or.inl rfl) (cF cM hr (ac (pv 0) (ac pe_int pa_nil))))
    (pss_cons (ps_if (pt_cmpR op_eq (pe_op op_mod (pv 0) pe_int) pe_int (nomark _)) (pss_one (ps_ret (pe_tup (ac pe_str (ac (cF cT hr (ac (pe_op op_fdiv (pv 0) pe_int) pa_nil)) pa_nil))))) pss_nil)
    (pss_cons (ps_if (pt_cmpR op_eq (pe_op op_mod (pv 0) pe_int) pe_int (nomark _)) (pss_one (ps_ret (pe_tup (ac pe_str pa_nil)))) pss_nil)
    (pss_cons (ps_if (pt_cmpR op_eq (pe_op op_mod (pv 0) pe_int) pe_int (nomark _)) (pss_one (ps_ret (pe_tup (ac pe_str pa_nil)))) pss_nil)
    (pss_one (ps_ret (pe_tup (ac pe_str (ac (pe_op op_sub (pe_op op_mod (pe_op op_fdiv (pv 0) pe_int) (pe_op op_add (pv 1) pe_int)) pe_int) (ac (pe_op op_sub (pe_op op_mod (pv 2) pe_int) pe_int) (ac (cF cT hr (ac (pe_op op_fdiv (pv 0) pe_int) pa_nil)) pa_nil)))))))))), ?_⟩
  refine ⟨_, rfl, c, 5, rfl, by decide, fun m m0 m1 => ?_⟩
  refine ⟨_, rfl, _, _, rfl, rfl, (by show (0 : Int) < 4; decide), rfl, _, rfl, ?_⟩
  refine ite2 (fun _ => ?_) (fun _ => ?_)
  · refine ⟨_, rfl, _, _, rfl, rfl, ⟨by decide, by decide⟩, _, rfl, fun t => ⟨(by show 2 ≤ sizeLine; decide), fun u hu => ?_⟩⟩
    exact q u (.told t) _ (same_new hu _) hu upd_same
  refine ⟨_, rfl, _, _, rfl, rfl, (by show (0 : Int) < 4; decide), rfl, _, rfl, ?_⟩
  refine ite2 (fun _ => ?_) (fun _ => ?_)
  · refine ⟨(by show 1 ≤ sizeLine; decide), fun u hu => ?_⟩
    exact q u .once _ (same_new hu _) hu upd_same
  refine ⟨_, rfl, _, _, rfl, rfl, (by show (0 : Int) < 4; decide), rfl, _, rfl, ?_⟩
  refine ite2 (fun _ => ?_) (fun _ => ?_)
  · refine ⟨(by show 1 ≤ sizeLine; decide), fun u hu => ?_⟩
    exact q u .anew _ (same_new hu _) hu upd_same
  refine ⟨_, rfl, _, _, rfl, rfl, ⟨by decide, by decide⟩, _, rfl, _, _, rfl, rfl, _, _, rfl, rfl, (by show (0 : Int) < (many : Int) + 4; omega), _, _, rfl, rfl, _, rfl, _, _, rfl, rfl, (by show (0 : Int) < 19; decide), _, _, rfl, rfl, _, rfl, _, _, rfl, rfl, ⟨by decide, by decide⟩, _, rfl, fun t => ⟨(by show 4 ≤ sizeLine; decide), fun u hu => ?_⟩⟩
  exact q u (.sum _ _ t) _ (same_new hu _) hu upd_same
end
end K42

set_option Elab.async false
set_option linter.all false
set_option maxRecDepth 100000
set_option maxHeartbeats 4000000
namespace K42
open PySem L2 PyProof.Rows
abbrev sWInit : Stmt := inClass (top 57) 0
abbrev sWDraw : Stmt := inClass (top 57) 1
abbrev sWAhead : Stmt := inClass (top 57) 2
def wl (n : Int) : List (Str × V) := [(Str.ofString "coming", V.int n)]
theorem wl_new (n : Int) : putF "coming" (.int n) [] = wl n := rfl
theorem wl_put (n m : Int) : putF "coming" (.int m) (wl n) = wl m := by
  show (if (Str.ofString "coming") = "coming" then _ else _) = _
  rw [if_pos rfl]
  rfl
theorem wl_get (n : Int) : (wl n).lookup ("coming" : Str) = some (.int n) := by
  rw [← wl_new, lookup_putF, if_pos rfl]
theorem wl_no (n : Int) {m : Str} (h : ¬ m = "coming") : (wl n).lookup m = none := by
  rw [← wl_new, lookup_putF, if_neg h]
  rfl
theorem nm1 : ¬ (("draw" : Str) = "coming") := by decide +kernel
theorem nm2 : ¬ (("ahead" : Str) = "coming") := by decide +kernel
/-! ### the promises -/
def spInit (C : Addr) : Sp := fun vs H Q _ => ∃ (p dx : Addr) (n : Int), vs = [.ref p, .int n] ∧ H p = some (.ins C dx []) ∧ Q .non (upd H p (.ins C dx (wl n)))
def spDraw (C : Addr) : Sp := fun vs H Q _ => ∃ (p dx : Addr) (n : Int), vs = [.ref p] ∧ H p = some (.ins C dx (wl n)) ∧ Q (.int n) (upd H p (.ins C dx (wl (n + 1))))
def spAhead (C : Addr) : Sp := fun vs H Q _ => ∃ (p dx : Addr) (n : Int), vs = [.ref p] ∧ H p = some (.ins C dx (wl n)) ∧ Q (.int n) H
structure WellC (K : PySem.W.Frag) (mg : Str → Option Value) (C : Addr) : Prop where
  cl : Cls K C
  nC : NoAttr K C "coming"
  mgW : mg "Well" = some (.ref C)
section
variable {P : Program} {w : World} {K : PySem.W.Frag} {mg : Str → Option Value} {base : Heap} {f C : Addr} {fd : FuncData}
theorem scWInit : FnScope ["self", "first"] ["self", "first"] (defScope sWInit) := ⟨rfl, rfl, rfl, by decide +kernel, rfl, by decide +kernel, by decide +kernel⟩
theorem ok_winit {ds : List Value} (F : FunD K "__init__" "Well.__init__" sWInit f fd ds) (T : WellC K mg C) : FnOk P w K mg base CX0 1 f fd ["self", "first"] (spInit C) := by
  refine F.ok scWInit (fun vs H Q E h => ?_) (fun cdv A outer s H vs Q E hr h => ?_)
  · obtain ⟨p, dx, n, rfl, _⟩ := h
    rfl
  obtain ⟨p, dx, n, rfl, hp, q⟩ := h
  refine ⟨_, pss_one (ps_fld (pv 0) (pv 1) rfl), ?_⟩
  exact ⟨_, rfl, _, rfl, p, C, dx, [], rfl, hp, T.cl, T.nC, (by show 0 < 1000; decide), q⟩
theorem scWDraw : FnScope ["self", "given"] ["self"] (defScope sWDraw) := ⟨rfl, rfl, rfl, by decide +kernel, rfl, by decide +kernel, by decide +kernel⟩
theorem ok_wdraw (F : Fun K "draw" "Well.draw" sWDraw f fd) (T : WellC K mg C) : FnOk P w K mg base CX0 1 f fd ["self"] (spDraw C) := by
  refine F.ok scWDraw (fun vs H Q E h => ?_) (fun cdv A outer s H vs Q E hr h => ?_)
  · obtain ⟨p, dx, n, rfl, _⟩ := h
    rfl
  obtain ⟨p, dx, n, rfl, hp, q⟩ := h
  refine ⟨_, pss_cons (ps_set (i := 1) scWDraw.nd rfl (Or.inl rfl) (pe_fld (pv 0) rfl)) (pss_cons (ps_fldaug (pv 0) pe_int in_add) (pss_one (ps_ret (pv 1)))), ?_⟩
  refine ⟨_, rfl, p, C, dx, _, _, rfl, hp, T.cl, T.nC, wl_get n, ?_⟩
  refine ⟨_, rfl, p, C, dx, _, _, rfl, hp, T.cl, T.nC, wl_get n, _, _, rfl, rfl, dx, _, hp, (by show 1 < 1000; decide), ?_⟩
  refine ⟨_, rfl, ?_⟩
  rw [wl_put]
  exact q
theorem scWAhead : FnScope ["self"] ["self"] (defScope sWAhead) := ⟨rfl, rfl, rfl, by decide +kernel, rfl, by decide +kernel, by decide +kernel⟩
theorem ok_wahead (F : Fun K "ahead" "Well.ahead" sWAhead f fd) (T : WellC K mg C) : FnOk P w K mg base CX0 1 f fd ["self"] (spAhead C) := by
  refine F.ok scWAhead (fun vs H Q E h => ?_) (fun cdv A outer s H vs Q E hr h => ?_)
  · obtain ⟨p, dx, n, rfl, _⟩ := h
    rfl
  obtain ⟨p, dx, n, rfl, hp, q⟩ := h
  refine ⟨_, pss_one (ps_ret (pe_fld (pv 0) rfl)), ?_⟩
  exact ⟨_, rfl, p, C, dx, _, _, rfl, hp, T.cl, T.nC, wl_get n, q⟩
end
end K42

set_option Elab.async false
set_option linter.all false
set_option maxRecDepth 100000
set_option maxHeartbeats 4000000
namespace K42
open PySem L2 PyProof.Rows
def spFN (c : C5) (CF : Addr) : Sp := fun vs H Q _ => ∃ (f : Addr) (rows : List Rw) (bars : List Str), vs = [.ref f] ∧ FormAt c CF H f rows bars ∧ VR rows ∧ ∀ (l : Addr) (H' : Hp), Same H H' → H l = none → H' l = some (.lst ((freeN rows).map fun n => V.int (n : Nat))) → Q (.ref l) H'
section
variable {P : Program} {w : World} {K : PySem.W.Frag} {mg : Str → Option Value} {base : Heap} {f CF : Addr} {fd : FuncData} {c : C5} {m : MA}
theorem ndNO : ([Str.ofString "number", Str.ofString "one"] : List Str).Nodup := by decide +kernel
theorem scFN : FnScope ["form", "parameters"] ["form"] (defScope sFreeN) := ⟨rfl, rfl, rfl, by decide +kernel, rfl, by decide +kernel, by decide +kernel⟩
theorem ok_fn {gP : Addr} {eP gt gf : FuncData} (F : Fun K "free_numbers" "free_numbers" sFreeN f fd) (hen : mg "enumerate" = none) (PP : Pcs K m c) (FK : FC K CF) (mP : Meth K CF "parameters" gP) (GP : FnOk P w K mg base CX0 1 gP eP ["self"] (spPars c CF)) (bP : Binds K eP ["self"] [])
    (GT : FnOk P w K mg base CX0 1 m.fT gt ["self"] (spIn K m otL)) (bT : Binds K gt ["self"] []) (GF : FnOk P w K mg base CX0 1 m.fF gf ["self"] (spFree K m)) (bF : Binds K gf ["self"] []) : FnOk P w K mg base CX0 2 f fd ["form"] (spFN c CF) := by
  refine F.ok scFN (fun vs H Q E h => ?_) (fun cdv A outer s H vs Q E hr h => ?_)
  · obtain ⟨f, rows, bars, rfl, _⟩ := h
    rfl
  obtain ⟨f, rows, bars, rfl, hF, V1, q⟩ := h
  have hT : ∀ C, Cs5 c C → Cls K C ∧ Meth K C "takes_one" m.fT := fun C ⟨k, hk, e⟩ => by rw [e]; exact ⟨(PP k hk).cl, (PP k hk).mT⟩
  have hO : ∀ C, Cs5 c C → Cls K C ∧ Meth K C "free" m.fF := fun C ⟨k, hk, e⟩ => by rw [e]; exact ⟨(PP k hk).cl, (PP k hk).mF⟩
  refine ⟨_, pss_cons (ps_set (i := 1) scFN.nd rfl (Or.inl rfl) (pe_meth0 (pv 0) FK.cl mP GP hr bP .nil pass0))
    (pss_one (ps_ret (pe_lc [] ["number", "one"] [none, none] rfl ⟨rfl, rfl, rfl, rfl⟩ (pi_enum rfl hen (ac (pv 1) pa_nil)) (gown_tup2 (K := K) (n := 2) 0 1) rfl rfl rfl
      (fun pins fp s H C => ⟨pg_tup rfl (pgs_cons (pg_name (i := 0) ndNO rfl (Or.inl rfl) (.inr rfl)) (pgs_cons (pg_name (i := 1) ndNO rfl (Or.inl rfl) (.inr rfl)) pgs_nil)), pif_one (PW.pt (pw_and (pt_val (pe_methP (pv 1) hT GT hr bT pass0)) (pw_and1 (pt_val (pe_methP (pv 1) hO GF hr bF pass0))))), pv 0⟩)))), ?_⟩
  have l24 := V1.l24
  obtain ⟨dx, fs, lr, lb, ld, ps0, h1, h2, h3, h4, h5, h6⟩ := id hF
  refine ⟨_, rfl, f, dx, fs, rfl, h1, h2.no _ (by decide +kernel), f, rows, bars, rfl, hF, fun lp ps H2 s2 np ep hps => ?_⟩
  have lps : ps.length = rows.length := hps.length
  refine ⟨_, rfl, lp, rfl, ⟨_, SqL.of ep⟩, fun D hD => ?_⟩
  refine lc_sele (K := K) (xs := ps.map V.ref) (List.range rows.length) (keepF rows) (fun n => .int (n : Nat)) hD (SqL.of ep) (by rw [List.length_map, List.length_range, lps]) (by rw [List.length_map]; omega) (fun i x y p H' N S hx hy hp sH n1 s1 => ?_) (fun H3 s3 h3' => q D H3 (s2.trans s3) (s2.free hD) h3')
  obtain ⟨pa, hpa, rfl⟩ := refs_at hx
  obtain ⟨r, hr', dx', hdx⟩ := paired_at hps hpa
  have hi : i < rows.length := (List.getElem?_eq_some_iff.mp hr').1
  rw [List.getElem?_range hi] at hy
  cases hy
  have rok := V1.ok r (List.mem_of_getElem? hr')
  have C := PP r.k rok.1
  have ek : keepF rows i = (ofOne r.k && r.b) := by unfold keepF; rw [hr']
  have sp := same_new hp (.tup [.int (i : Nat), .ref pa])
  have hdx3 := sp _ _ (sH _ _ hdx)
  refine ⟨p, _, rfl, SqT.of upd_same, rfl, _, _, rfl, _, _, rfl, rfl, ?_⟩
  generalize upd H' p (.tup [.int (i : Nat), .ref pa]) = H4 at sp hdx3 ⊢
  refine ⟨_, rfl, pa, _, dx', _, rfl, ⟨r.k, rok.1, rfl⟩, hdx3, pf_no (by decide +kernel) (by decide +kernel) (by decide +kernel), pa, dx', _, _, _, _, rfl, C, hdx3, _, rfl, ?_⟩
  rw [show inV (.str (kw r.k)) otL = ofOne r.k from in_of r.k rok.1]
  cases ho : ofOne r.k with
  | false =>
    refine iteF ?_
    exact ⟨fun e => Bool.noConfusion e, fun _ => s1 _ sp (by rw [ek, ho]; rfl)⟩
  | true =>
    refine iteT ?_
    refine ⟨_, rfl, pa, _, dx', _, rfl, ⟨r.k, rok.1, rfl⟩, hdx3, pf_no (by decide +kernel) (by decide +kernel) (by decide +kernel), pa, dx', _, _, _, _, rfl, C, hdx3, _, rfl, ?_⟩
    have ef : fr r.k r.b = r.b := by
      have h := ho
      unfold ofOne at h
      simp only [Bool.or_eq_true, beq_iff_eq] at h
      rcases h with (h | h) | h <;> rw [h] <;> rfl
    rw [ef]
    exact ⟨fun e => ⟨_, rfl, n1 _ sp (by rw [ek, ho, e]; rfl)⟩, fun e => s1 _ sp (by rw [ek, ho, e]; rfl)⟩
end
end K42

set_option Elab.async false
set_option linter.all false
set_option maxRecDepth 100000
set_option maxHeartbeats 4000000
namespace L2
open PySem PySem.Spec PyProof.Rows
/-! ### zip over two lists -/
theorem Inv.turnedL {X : Cx} {pins : List (Addr × Obj)} {σ : St} {H : Hp} {s : Shared} {h' : Heap} {t' : Nat} {ch : List Addr} (I : Inv X pins σ H s) (hf : ∀ b ∈ ch, FpOk X pins H b) (k : ∀ b o, b ∉ ch → s.heap.get? b = some o → h'.get? b = some o) : Inv X pins σ H { s with heap := h', toks := t' } := by
  have nit : ∀ b u, H b = some u → b ∉ ch := fun b u e z => by rw [(hf b z).1] at e; cases e
  refine I.step (g' := s.gens) (d' := s.drawn) (ch := ch) (fun b hb => ?_) (fun b o _ _ hc e _ => k b o hc e) (fun b o _ _ hc e _ => ⟨o.slots, k b o hc e⟩) (fun _ _ _ _ n => n)
    (fun b o hc e => ⟨o, k b o hc e⟩) (fun _ _ e => e) (fun _ _ _ e => e) (fun b ps e => ⟨#[], by rw [e]; simp⟩) (fun m hm => ?_) (fun b u e => ?_) I.bare
  · obtain ⟨f0, f1, f2, f3, f4, f5⟩ := hf b hb
    exact ⟨f3, f1, f4, f5⟩
  · obtain ⟨o, es, ep, ho, r⟩ := hm
    exact ⟨o, es, ep, k _ o (fun z => (hf _ z).2.1 rfl) ho, r⟩
  · refine (I.hok b u e).stay (fun c v hc q => k c v ?_ q) (fun _ q => q) fun _ _ q => q
    rcases hc with z | z
    · rw [z]; exact nit b u e
    · exact nit c _ z
def Itz (K : PySem.W.Frag) (a b : Addr) : It :=
  ⟨fun i H => ∃ xs ys x y, SqL K H a xs ∧ SqL K H b ys ∧ xs[i]? = some x ∧ ys[i]? = some y,
   fun i H v H' => ∃ (p : Addr) (x y : V), v = .ref p ∧ H p = none ∧ (∀ xs, SqL K H a xs → xs[i]? = some x) ∧ (∀ ys, SqL K H b ys → ys[i]? = some y) ∧ H' = upd H p (.tup [x, y]),
   fun i H => ∃ xs ys, SqL K H a xs ∧ SqL K H b ys ∧ (xs.length ≤ i ∨ ys.length ≤ i)⟩
theorem turn_zip {P : Program} {w : World} {K : PySem.W.Frag} {elts : List Expr} {x1 : Nat} {tpos : Pos} (a b z TI TO i1 i2 : Addr) (D : ZipApart z TI TO i1 i2 a b) :
    Turn P w K (.Tuple elts x1 tpos) (Itz K a b) [z, TI, TO, i1, i2] z (fun i h => IsZip h z TI TO .none ∧ IsPair h TI (.ref i1) (.ref i2) ∧ (∃ u v, IsPair h TO u v) ∧ h.IsListIter i1 a i ∧ h.IsListIter i2 b i) where
  mem := by simp
  obj := fun i h st c hc => by
    obtain ⟨hz, hTI, ⟨u, v, hTO⟩, ⟨o1, ho1, _, d1⟩, ⟨o2, ho2, _, d2⟩⟩ := st
    have hc' : c = z ∨ c = TI ∨ c = TO ∨ c = i1 ∨ c = i2 := by simpa using hc
    rcases hc' with rfl | rfl | rfl | rfl | rfl
    · exact ⟨_, hz, fun v q => by cases q⟩
    · exact ⟨_, hTI, fun v q => by cases q⟩
    · exact ⟨_, hTO, fun v q => by cases q⟩
    · exact ⟨o1, ho1, fun v q => by rw [d1] at q; cases q⟩
    · exact ⟨o2, ho2, fun v q => by rw [d2] at q; cases q⟩
  keep := fun i h h' st k => by
    obtain ⟨hz, hTI, ⟨u, v, hTO⟩, ⟨o1, ho1, d1⟩, ⟨o2, ho2, d2⟩⟩ := st
    exact ⟨k z (by simp) _ hz, k TI (by simp) _ hTI, ⟨u, v, k TO (by simp) _ hTO⟩, ⟨o1, k i1 (by simp) _ ho1, d1⟩, ⟨o2, k i2 (by simp) _ ho2, d2⟩⟩
  item := by
    intro X hP hw hK hc i pins s σ H E I hf st hg
    subst hP hw hK
    obtain ⟨hz, hTI, ⟨u0, v0, hTO⟩, h1, h2⟩ := st
    obtain ⟨xs, ys, x, y, hS, hS', hx, hy⟩ := hg
    obtain ⟨its, rv, hp, hz1⟩ := I.list hS
    obtain ⟨its', rv', hp', hz2⟩ := I.list hS'
    obtain ⟨u, hu, ru⟩ := rv.get hx
    obtain ⟨u', hu', ru'⟩ := rv'.get hy
    refine wpAny_pyNext_zip_item D hz hTI hTO h1 h2 hp.isList hp'.isList (x := u) (y := u') (by simpa using hu) (by simpa using hu') fun h' hz' hTO' h1' h2' htup hsz hk => ?_
    have I0 : Inv X pins σ H { s with heap := h', toks := s.toks } := I.turnedL (ch := [z, TO, i1, i2]) (fun c hc' => hf c (by
        have hc' : c = z ∨ c = TO ∨ c = i1 ∨ c = i2 := by simpa using hc'
        rcases hc' with rfl | rfl | rfl | rfl <;> simp)) (fun c o hc' e => hk c o (fun q => hc' (by simp [q])) (fun q => hc' (by simp [q])) (fun q => hc' (by simp [q])) (fun q => hc' (by simp [q])) e)
    have hfr : H s.heap.objs.size = none := I.hok.fresh (Nat.le_refl _)
    have I1 : Inv X pins σ (upd H s.heap.objs.size (.tup [x, y])) { s with heap := h', toks := s.toks } := by
      have hok : HOk X.prog X.w (upd H s.heap.objs.size (.tup [x, y])) h' := fun b o q => by
        by_cases hb : b = s.heap.objs.size
        · subst hb
          rw [upd_same] at q; cases q
          exact ⟨by show 2 ≤ sizeLine; decide, [u, u'], .cons ru (.cons ru' .nil), ⟨_, htup, rfl, _, rfl⟩⟩
        · rw [upd_ne hb] at q
          exact (I0.hok b o q).stay (fun _ _ _ z => z) (fun c z => by rw [upd_ne (ne_of_none z hfr)]; exact z) fun c xs' z => by rw [upd_ne (ne_of_none z hfr)]; exact z
      refine I0.step (s := { s with heap := h', toks := s.toks }) (g' := s.gens) (d' := s.drawn) (h' := h') (t' := s.toks) (ch := [s.heap.objs.size]) (fun b hb => ?_) (fun b o _ _ _ e1 _ => e1) (fun b o _ _ _ e1 _ => ⟨o.slots, e1⟩) (fun b o hb e1 n => by rw [upd_ne (fun z => hb (by simp [z]))]; exact n)
        (fun b o _ e1 => ⟨o, e1⟩) (fun b xs' e1 => by rw [upd_ne (ne_of_none e1 hfr)]; exact e1) (fun b o' u' e1 => by rw [upd_ne (ne_of_none e1 hfr)]; exact e1) (fun b ps e1 => ⟨#[], by rw [upd_ne (ne_of_none e1 hfr), e1]; simp⟩) (fun m hm => hm) hok I0.bare
      have e' : b = s.heap.objs.size := by simpa using hb
      subst e'
      refine ⟨.inr I.sz, fun z => ?_, fun y c h z => ?_, fun p hp' z => ?_⟩
      · have := I.lt; rw [← z] at this; exact absurd this (Nat.lt_irrefl _)
      · obtain ⟨v', hv⟩ := I.cell y c h
        have := hv.lt; rw [z] at this; exact absurd this (Nat.lt_irrefl _)
      · have := I.pin_lt hp'; rw [z] at this; exact absurd this (Nat.lt_irrefl _)
    refine ⟨_, rfl, wpAny_letOwnedTupleGo_zip hz' fun h3 hz3 hs3 => ?_⟩
    have lt : ∀ c ∈ [z, TI, TO, i1, i2], s.heap.objs.size ≠ c := fun c hc' e => by
      have hc' : c = z ∨ c = TI ∨ c = TO ∨ c = i1 ∨ c = i2 := by simpa using hc'
      have : ∃ o, s.heap.get? c = some o := by
        obtain ⟨o1, ho1, _⟩ := h1
        obtain ⟨o2, ho2, _⟩ := h2
        rcases hc' with rfl | rfl | rfl | rfl | rfl
        · exact ⟨_, hz⟩
        · exact ⟨_, hTI⟩
        · exact ⟨_, hTO⟩
        · exact ⟨_, ho1⟩
        · exact ⟨_, ho2⟩
      obtain ⟨o, ho⟩ := this
      have := Heap.lt_size ho
      rw [← e] at this; exact absurd this (Nat.lt_irrefl _)
    obtain ⟨f0, f1, f2, f3, f4, f5⟩ := hf z (by simp)
    have I2 : Inv X pins σ (upd H s.heap.objs.size (.tup [x, y])) { s with heap := h3, toks := s.toks } :=
      I1.turned (s := { s with heap := h', toks := s.toks }) (t' := s.toks) (it := z) (fun b o hb q => (hs3.2 b hb).trans q) (by rw [upd_ne (lt z (by simp)).symm]; exact f0) f1 f3 f4 f5
    refine ⟨.ref s.heap.objs.size, _, I2, rfl, ⟨_, x, y, rfl, hfr, fun xs' h' => ?_, fun ys' h' => ?_, rfl⟩, ⟨hz3, (hs3.2 TI D.TIz).trans (hk TI _ D.TIz D.TITO D.TIi1 D.TIi2 hTI), ⟨_, _, (hs3.2 TO D.TOz).trans hTO'⟩, ?_, ?_⟩, fun b hb => ?_⟩
    · rw [I.list_inj h' hS]; exact hx
    · rw [I.list_inj h' hS']; exact hy
    · obtain ⟨o, ho, r⟩ := h1'
      exact ⟨o, (hs3.2 i1 D.i1z).trans ho, r⟩
    · obtain ⟨o, ho, r⟩ := h2'
      exact ⟨o, (hs3.2 i2 D.i2z).trans ho, r⟩
    · rw [upd_ne (lt b hb).symm]; exact (hf b hb).1
  done := by
    intro X hP hw hK hc i pins s σ H E I hf st hg
    subst hP hw hK
    obtain ⟨hz, hTI, ⟨u0, v0, hTO⟩, h1, h2⟩ := st
    obtain ⟨xs, ys, hS, hS', hle⟩ := hg
    obtain ⟨its, rv, hp, hz1⟩ := I.list hS
    obtain ⟨its', rv', hp', hz2⟩ := I.list hS'
    refine wpAny_pyNext_zip_end (I.ok.hd hc) D hz hTI hTO h1 h2 hp.isList hp'.isList ?_ fun h' hk => ⟨rfl, ?_⟩
    · rcases hle with h | h
      · exact .inl (by simp [← rv.length, h])
      · exact .inr (by simp [← rv'.length, h])
    · exact I.turnedL (t' := s.toks) (ch := [z, TO, i1, i2]) (fun c hc' => hf c (by
        have hc' : c = z ∨ c = TO ∨ c = i1 ∨ c = i2 := by simpa using hc'
        rcases hc' with rfl | rfl | rfl | rfl <;> simp)) (fun c o hc' e => hk c o (fun q => hc' (by simp [q])) (fun q => hc' (by simp [q])) (fun q => hc' (by simp [q])) (fun q => hc' (by simp [q])) e)
  self := fun A i s Q E st h => wpAny_pyIter_zip st.1 h
section
variable {X : Cx} {elts : List Expr} {x1 : Nat} {tpos : Pos}
def iZip (K : PySem.W.Frag) (ta : TA) : TI := fun σ H R => ta σ H fun vs H1 => ∃ a b, vs = [.ref a, .ref b] ∧ (∃ xs, SqL K H1 a xs) ∧ (∃ ys, SqL K H1 b ys) ∧ R (Itz K a b) H1
theorem pi_zip {l l' : Expr} {ta : TA} {p pos : Pos} (hg : Gl X "zip") (hm : X.mg "zip" = none) (ha : PA X [l, l'] ta) (hl : isSt l = false := by rfl) (hl' : isSt l' = false := by rfl) : PI X (.Tuple elts x1 tpos) (.Call (.Name "zip" p) [l, l'] [] pos) (iZip X.K ta) := by
  refine ⟨?_⟩
  intro pins s σ H R I h
  have e2 : starEach [l'] X.env = [(false, eval l' X.env)] := star_cons hl'
  refine Call_ (ld_blt I hg hm PyProof.Rows.boot_zip (PyProof.Rows.callWith_type1 (thn (ha pos pins s σ H _ I h) fun us s1 ⟨vs, H1, I1, r1, q1⟩ => ?_) (star_cons hl) (by rw [e2]; rfl)))
  obtain ⟨a, b, e, ⟨xs, hS⟩, ⟨ys, hS'⟩, q⟩ := q1
  subst e
  obtain ⟨u, u', rfl, ru, ru'⟩ := vals2 r1
  cases ru
  cases ru'
  obtain ⟨its, rv, hp, hz⟩ := I1.list hS
  obtain ⟨its', rv', hp', hz'⟩ := I1.list hS'
  have la : a < s1.heap.objs.size := by
    obtain ⟨o, ho, _⟩ := hp.isList
    exact Heap.lt_size ho
  have lb : b < s1.heap.objs.size := by
    obtain ⟨o, ho, _⟩ := hp'.isList
    exact Heap.lt_size ho
  refine call_zip_2 hp.isList hp'.isList fun h' hzz hTI hTO h1 h2 hsz hk => ?_
  refine wpAny_pyIter_zip hzz ?_
  have hfr : ∀ b, s1.heap.objs.size ≤ b → H1 b = none := fun b hb => I1.hok.fresh hb
  have I2 : Inv X pins σ H1 { s1 with heap := h' } := I1.kept (t' := s1.toks) hk
  refine ⟨s1.heap.objs.size + 4, [s1.heap.objs.size + 4, s1.heap.objs.size + 2, s1.heap.objs.size + 3, s1.heap.objs.size, s1.heap.objs.size + 1], _, _, H1, rfl, I2, turn_zip a b _ _ _ _ _ (zipApart_new la lb), ⟨hzz, hTI, ⟨_, _, hTO⟩, h1, h2⟩, fun c hc => ?_, q⟩
  have hc' : s1.heap.objs.size ≤ c := by
    have hc' : c = s1.heap.objs.size + 4 ∨ c = s1.heap.objs.size + 2 ∨ c = s1.heap.objs.size + 3 ∨ c = s1.heap.objs.size ∨ c = s1.heap.objs.size + 1 := by simpa using hc
    rcases hc' with rfl | rfl | rfl | rfl | rfl
    · exact Nat.le_add_right _ _
    · exact Nat.le_add_right _ _
    · exact Nat.le_add_right _ _
    · exact Nat.le_refl _
    · exact Nat.le_add_right _ _
  exact I1.fpOk hc' (hfr _ hc')
end
theorem for_zip {K : PySem.W.Frag} {a b : Addr} {xs ys : List V} {g : TG} {tb : TS} {D : Ends} {σ : St} {H : Hp} (Pv : Nat → St → Hp → Prop) (el : ys.length = xs.length) (h0 : Pv 0 σ H) (hl : ∀ i σ H, i ≤ xs.length → Pv i σ H → SqL K H a xs ∧ SqL K H b ys)
    (hs : ∀ i x y p σ H, xs[i]? = some x → ys[i]? = some y → Pv i σ H → H p = none → g (.ref p) σ (upd H p (.tup [x, y])) fun σ2 H2 => tb { D with nx := Pv (i + 1), ct := Pv (i + 1), bk := D.nx } σ2 H2) (hd : ∀ σ H, Pv xs.length σ H → D.nx σ H) :
    ∃ W : Nat → Nat → St → Hp → Prop, (∃ m, W 0 m σ H) ∧ ∀ i m σ H, W i m σ H →
      ((Itz K a b).stop i H ∧ D.nx σ H) ∨ ((Itz K a b).go i H ∧ ∃ N : St → Hp → Prop, (∀ σ' H', N σ' H' → ∃ m', m' < m ∧ W (i + 1) m' σ' H') ∧ ∀ x H', (Itz K a b).yld i H x H' → g x σ H' fun σ2 H2 => tb { D with nx := N, ct := N, bk := D.nx } σ2 H2) := by
  refine ⟨fun i m σ H => m = xs.length - i ∧ i ≤ xs.length ∧ Pv i σ H, ⟨xs.length, by simp, Nat.zero_le _, h0⟩, ?_⟩
  rintro i m σ H ⟨rfl, hi, p⟩
  obtain ⟨q, q'⟩ := hl i σ H hi p
  by_cases hlt : i < xs.length
  · have hlt' : i < ys.length := by omega
    refine .inr ⟨⟨xs, ys, xs[i], ys[i], q, q', by simp [hlt], by simp [hlt']⟩, Pv (i + 1), fun σ' H' p' => ⟨xs.length - (i + 1), by omega, rfl, hlt, p'⟩, fun x H' y => ?_⟩
    obtain ⟨pp, x, y, rfl, hp, y1, y2, rfl⟩ := y
    exact hs i x y pp σ H (y1 xs q) (y2 ys q') p hp
  · have e : i = xs.length := by omega
    subst e
    exact .inl ⟨⟨xs, ys, q, q', .inl (Nat.le_refl _)⟩, hd σ H p⟩
end L2

set_option Elab.async false
set_option linter.all false
set_option maxRecDepth 100000
set_option maxHeartbeats 4000000
namespace K42
open PySem L2 PyProof.Rows
/-! ### which default is none -/
def badS (rows : List Rw) (n : Nat) : Df → Bool
  | .sum a _ _ => !(decide (0 ≤ a) && decide (a < (n : Int))) || decide (V.int a = numV (firstK 2 0 rows))
  | _ => false
def badL (rows : List Rw) (n : Nat) : Df → Bool
  | .sum a _ _ => decide ((n : Int) ≤ a) || !sglB rows a
  | _ => false
def dueF (rows : List Rw) (ds : List Df) : Option Nat :=
  if ds.length < (freeN rows).length then (freeN rows)[ds.length]? else if (freeN rows).length < ds.length then some rows.length else (((freeN rows).zip ds).find? fun p => badL rows p.1 p.2).map (·.1)
theorem bad_tr {l g0 g : Nat} (h1 : badAt l g0 = false) (h2 : badAt g0 g = false) : badAt l g = false := by
  unfold badAt at *
  simp only [Bool.or_eq_false_iff, decide_eq_false_iff_not, Bool.and_eq_false_iff, beq_eq_false_iff_ne] at *
  omega
theorem ord_ge : ∀ (rows : List Rw) (l n : Nat) (r : Rw), ordOk l rows = true → rows[n]? = some r → badAt l (grp r.k) = false
  | [], _, _, _, _, h => by simp at h
  | x :: xs, l, 0, r, h, e => by
    cases e
    have h' : (!badAt l (grp x.k) && ordOk (grp x.k) xs) = true := h
    rw [Bool.and_eq_true, Bool.not_eq_true'] at h'
    exact h'.1
  | x :: xs, l, n + 1, r, h, e => by
    have h' : (!badAt l (grp x.k) && ordOk (grp x.k) xs) = true := h
    rw [Bool.and_eq_true, Bool.not_eq_true'] at h'
    exact bad_tr h'.1 (ord_ge xs _ n r h'.2 (by simpa using e))
theorem ord_lt : ∀ (rows : List Rw) (l m n : Nat) (r r' : Rw), ordOk l rows = true → m < n → rows[m]? = some r → rows[n]? = some r' → badAt (grp r.k) (grp r'.k) = false
  | [], _, _, _, _, _, _, _, h, _ => by simp at h
  | x :: xs, l, m, 0, r, r', h, hm, _, _ => by omega
  | x :: xs, l, 0, n + 1, r, r', h, _, e, e' => by
    cases e
    have h' : (!badAt l (grp x.k) && ordOk (grp x.k) xs) = true := h
    rw [Bool.and_eq_true, Bool.not_eq_true'] at h'
    exact ord_ge xs _ n r' h'.2 (by simpa using e')
  | x :: xs, l, m + 1, n + 1, r, r', h, hm, e, e' => by
    have h' : (!badAt l (grp x.k) && ordOk (grp x.k) xs) = true := h
    rw [Bool.and_eq_true, Bool.not_eq_true'] at h'
    exact ord_lt xs _ m n r r' h'.2 (by omega) (by simpa using e) (by simpa using e')
theorem firstK_at {kk : Nat} : ∀ (rows : List Rw) (i j : Nat), firstK kk i rows = some j → ∃ r, i ≤ j ∧ rows[j - i]? = some r ∧ r.k = kk
  | [], _, _, h => by cases h
  | x :: xs, i, j, h => by
    have h' : (if x.k = kk then some i else firstK kk (i + 1) xs) = some j := h
    by_cases e : x.k = kk
    · rw [if_pos e] at h'
      cases h'
      exact ⟨x, Nat.le_refl _, by simp, e⟩
    · rw [if_neg e] at h'
      obtain ⟨r, hl, hr, hk⟩ := firstK_at xs (i + 1) j h'
      refine ⟨r, by omega, ?_, hk⟩
      rw [show j - i = (j - (i + 1)) + 1 by omega]
      simpa using hr
theorem firstK_is {kk : Nat} : ∀ (rows : List Rw) (i m : Nat) (r : Rw), rows[m]? = some r → r.k = kk → (∀ j r', j < m → rows[j]? = some r' → ¬ r'.k = kk) → firstK kk i rows = some (i + m)
  | [], _, _, _, h, _, _ => by simp at h
  | x :: xs, i, 0, r, h, hk, _ => by
    cases h
    show (if x.k = kk then some i else _) = _
    rw [if_pos hk]
    rfl
  | x :: xs, i, m + 1, r, h, hk, hn => by
    show (if x.k = kk then some i else firstK kk (i + 1) xs) = _
    rw [if_neg (hn 0 x (by omega) rfl), firstK_is xs (i + 1) m r (by simpa using h) hk (fun j r' hj e => hn (j + 1) r' (by omega) (by simpa using e))]
    congr 1
    omega
theorem free_at {rows : List Rw} {n : Nat} (h : n ∈ freeN rows) : ∃ r, rows[n]? = some r ∧ ofOne r.k = true ∧ r.b = true := by
  unfold freeN at h
  obtain ⟨h1, h2⟩ := List.mem_filter.mp h
  have hn := List.mem_range.mp h1
  unfold keepF at h2
  rw [List.getElem?_eq_getElem hn] at h2
  have h2' : (ofOne rows[n].k && rows[n].b) = true := h2
  rw [Bool.and_eq_true] at h2'
  exact ⟨_, List.getElem?_eq_getElem hn, h2'.1, h2'.2⟩
theorem bad_eq {rows : List Rw} (V1 : VR rows) {n : Nat} (h : n ∈ freeN rows) (d : Df) : badS rows n d = badL rows n d := by
  cases d with
  | told _ => rfl
  | once => rfl
  | anew => rfl
  | sum a t p =>
    show (!(decide (0 ≤ a) && decide (a < (n : Int))) || decide (V.int a = numV (firstK 2 0 rows))) = (decide ((n : Int) ≤ a) || !sglB rows a)
    obtain ⟨r', hr', ho', _⟩ := free_at h
    by_cases h0 : 0 ≤ a
    rotate_left
    · have e1 : sglB rows a = false := by unfold sglB; rw [if_neg h0]
      rw [e1, decide_eq_false h0]
      simp
    obtain ⟨m, rfl⟩ := Int.eq_ofNat_of_zero_le h0
    by_cases hm : m < n
    rotate_left
    · rw [decide_eq_true (show (n : Int) ≤ (m : Int) by omega), decide_eq_false (show ¬ (m : Int) < (n : Int) by omega)]
      simp
    rw [decide_eq_true h0, decide_eq_true (show (m : Int) < (n : Int) by omega), decide_eq_false (show ¬ (n : Int) ≤ (m : Int) by omega)]
    have hn : n < rows.length := (List.getElem?_eq_some_iff.mp hr').1
    have hr : rows[m]? = some rows[m] := List.getElem?_eq_getElem (by omega)
    generalize rows[m] = r at hr
    have hs : sglB rows (m : Int) = ofOne r.k := by
      unfold sglB
      rw [if_pos h0, Int.toNat_natCast, hr]
    rw [hs]
    have ob := ord_lt rows 0 m n r r' V1.ord hm hr hr'
    have rk := V1.ok r (List.mem_of_getElem? hr)
    have gk : grp r'.k = 0 ∨ grp r'.k = 2 := by
      unfold ofOne at ho'
      simp only [Bool.or_eq_true, beq_iff_eq] at ho'
      rcases ho' with (z | z) | z <;> rw [z]
      · exact .inl rfl
      · exact .inl rfl
      · exact .inr rfl
    have hkey : decide (V.int (m : Int) = numV (firstK 2 0 rows)) = !ofOne r.k := by
      by_cases h2 : r.k = 2
      · rw [firstK_is rows 0 m r hr h2 (fun j r2 hj e e2 => by
          have := ord_lt rows 0 j m r2 r V1.ord hj e hr
          rw [e2, h2] at this
          exact absurd this (by decide)), h2]
        rw [Nat.zero_add]
        exact decide_eq_true rfl
      · have h4 : ¬ r.k = 4 := fun z => by
          rw [z] at ob
          rcases gk with e | e <;> rw [e] at ob <;> exact absurd ob (by decide)
        have ho : ofOne r.k = true := by
          unfold ofOne
          have := rk.1
          simp only [Bool.or_eq_true, beq_iff_eq]
          omega
        rw [ho, decide_eq_false]
        · rfl
        · intro e
          cases ef : firstK 2 0 rows with
          | none => rw [ef] at e; cases e
          | some j =>
            rw [ef] at e
            have ej : (m : Int) = (j : Int) := by
              have : V.int (m : Int) = V.int (j : Int) := e
              exact V.int.inj this
            obtain ⟨r3, _, hr3, hk3⟩ := firstK_at rows 0 j ef
            rw [Nat.sub_zero, show j = m by omega, hr] at hr3
            cases hr3
            exact h2 hk3
    rw [hkey]
    simp
end K42

set_option Elab.async false
set_option linter.all false
set_option maxRecDepth 100000
set_option maxHeartbeats 4000000
namespace K42
open PySem L2 PyProof.Rows
def spXI (K : PySem.W.Frag) (nm : Str) : Sp := fun vs H Q _ => ∃ (x C t : Addr) (v : V), vs = [.ref x, v] ∧ H x = some (excX x C none t) ∧ XSet K C ∧ NoAttr K C nm ∧ ∀ dx, H dx = none → Q .non (upd (upd H x (excX x C (some dx) t)) dx (.xd [(nm, v)]))
theorem same_drop2 {H H2 : Hp} {x d : Addr} {o o' o'' : HO} (s : Same H H2) (hx : H2 x = none) (hd : upd H2 x o d = none) : Same H (drop (upd (upd (upd H2 x o) x o') d o'') x) := fun b u e => by
  have nx : b ≠ x := ne_of_none (s _ _ e) hx
  have e2 : upd H2 x o b = some u := by rw [upd_ne nx]; exact s _ _ e
  rw [drop_ne nx, upd_ne (ne_of_none e2 hd), upd_ne nx]
  exact e2
theorem drop_at2 {H2 : Hp} {x d : Addr} {o o' o'' : HO} (hd : upd H2 x o d = none) : drop (upd (upd (upd H2 x o) x o') d o'') x d = some o'' := by
  have : d ≠ x := fun z => by rw [z, upd_same] at hd; cases hd
  rw [drop_ne this, upd_same]
structure XCls (P : Program) (w : World) (K : PySem.W.Frag) (mg : Str → Option Value) (base : Heap) (x : Str) (C g : Addr) (gd : FuncData) (a nm : Str) : Prop where
  call : XCall K C g
  set : XSet K C
  no : NoAttr K C nm
  ex : ExcCls K C
  gl : mg x = some (.ref C)
  ok : FnOk P w K mg base CX0 1 g gd ["self", a] (spXI K nm)
  bd : Binds K gd ["self", a] []
/-! ### defaults in a row -/
def DAt (c : C4) (H : Hp) (p : Addr) (d : Df) : Prop := ∃ dx, H p = some (.ins (c.at d.k) dx d.fs)
theorem dats_same {c : C4} {H H' : Hp} {ps : List Addr} {ds : List Df} (s : Same H H') (h : Paired (DAt c H) ps ds) : Paired (DAt c H') ps ds := Paired.imp' (fun _ _ ⟨dx, z⟩ => ⟨dx, s _ _ z⟩) h
theorem Df.k4 (d : Df) : d.k < 4 := by cases d <;> simp [Df.k]
structure D4 (K : PySem.W.Frag) (mg : Str → Option Value) (c : C4) (DF : Addr) : Prop where
  ty : ∀ k, k < 4 → ∀ (H : Hp) (p dx : Addr) (fs : List (Str × V)), H p = some (.ins (c.at k) dx fs) → TyOf K H (.ref p) (.ref (c.at k))
  kt : ∀ k, k < 4 → ∀ j, j < 4 → PySem.W.kitOne K (.ref (c.at k)) (.ref (c.at j)) = some (decide (j = k))
  kd : ∀ k, k < 4 → PySem.W.kitOne K (.ref (c.at k)) (.ref DF) = some true
  cl0 : Cls K c.c0
  cl3 : Cls K c.c3
  nn : NoAttr K c.c0 "number"
  na : NoAttr K c.c3 "at"
  nt : NoAttr K c.c3 "times"
  np : NoAttr K c.c3 "plus"
  m0 : mg "Told" = some (.ref c.c0)
  m1 : mg "Once" = some (.ref c.c1)
  m2 : mg "Anew" = some (.ref c.c2)
  m3 : mg "Sum" = some (.ref c.c3)
  mD : mg "Default" = some (.ref DF)
theorem su_at {a t p : V} : (fSu a t p).lookup ("at" : Str) = some a := by
  unfold fSu
  rw [lookup_putF, if_neg (by decide +kernel), lookup_putF, if_neg (by decide +kernel), lookup_putF, if_pos rfl]
theorem su_times {a t p : V} : (fSu a t p).lookup ("times" : Str) = some t := by
  unfold fSu
  rw [lookup_putF, if_neg (by decide +kernel), lookup_putF, if_pos rfl]
theorem su_plus {a t p : V} : (fSu a t p).lookup ("plus" : Str) = some p := by
  unfold fSu
  rw [lookup_putF, if_pos rfl]
theorem to_num {v : V} : (fTo v).lookup ("number" : Str) = some v := by
  unfold fTo
  rw [lookup_putF, if_pos rfl]
theorem ints_at {ns : List Nat} {i : Nat} {x : V} (h : (ns.map fun n => V.int (n : Nat))[i]? = some x) : ∃ n, ns[i]? = some n ∧ x = .int (n : Nat) := by
  rw [List.getElem?_map] at h
  cases e : ns[i]? with
  | none => rw [e] at h; cases h
  | some z => rw [e] at h; exact ⟨z, rfl, (Option.some.inj h).symm⟩
theorem zip_find {α β : Type} {xs : List α} {ys : List β} {p : α × β → Bool} {i : Nat} {x : α} {y : β} (hx : xs[i]? = some x) (hy : ys[i]? = some y) (hn : ∀ j x' y', j < i → xs[j]? = some x' → ys[j]? = some y' → p (x', y') = false) (hp : p (x, y) = true) : (xs.zip ys).find? p = some (x, y) := by
  have e : (xs.zip ys)[i]? = some (x, y) := PyProof.Rows.zip_get hx hy
  have hi : i < (xs.zip ys).length := (List.getElem?_eq_some_iff.mp e).1
  have ei : (xs.zip ys)[i] = (x, y) := (List.getElem?_eq_some_iff.mp e).2
  have es : xs.zip ys = (xs.zip ys).take i ++ (x, y) :: (xs.zip ys).drop (i + 1) := by
    conv => lhs; rw [← List.take_append_drop i (xs.zip ys)]
    rw [List.drop_eq_getElem_cons hi, ei]
  rw [es, List.find?_append, List.find?_eq_none.mpr (fun q hq => ?_), List.find?_cons, hp]
  · rfl
  · obtain ⟨j, hj, eq⟩ := List.getElem_of_mem hq
    rw [List.length_take] at hj
    rw [List.getElem_take] at eq
    have e2 : (xs.zip ys)[j]? = some q := by rw [← eq]; exact List.getElem?_eq_getElem (by omega)
    rw [List.getElem?_zip_eq_some] at e2
    rw [hn j q.1 q.2 (by omega) e2.1 e2.2]
    decide
theorem zip_none {α β : Type} {xs : List α} {ys : List β} {p : α × β → Bool} (hn : ∀ (j : Nat) x' y', xs[j]? = some x' → ys[j]? = some y' → p (x', y') = false) : (xs.zip ys).find? p = none := by
  refine List.find?_eq_none.mpr fun q hq => ?_
  obtain ⟨j, hj, eq⟩ := List.getElem_of_mem hq
  have e2 : (xs.zip ys)[j]? = some q := by rw [← eq]; exact List.getElem?_eq_getElem (by omega)
  rw [List.getElem?_zip_eq_some] at e2
  rw [hn j q.1 q.2 e2.1 e2.2]
  decide
def spRDef (c : C5) (c4 : C4) (CF CN : Addr) : Sp := fun vs H Q E => ∃ (f ld : Addr) (rows : List Rw) (bars : List Str) (ps : List Addr) (ds : List Df), vs = [.ref f, .ref ld] ∧ FormAt c CF H f rows bars ∧ VR rows ∧ H ld = some (.lst (ps.map V.ref)) ∧ Paired (DAt c4 H) ps ds ∧
  (dueF rows ds = none → ∀ H', Same H H' → Q .non H') ∧ (∀ n, dueF rows ds = some n → ∀ (d : Addr) (H' : Hp), Same H H' → H' d = some (.xd [("number", .int (n : Nat))]) → E (.ref CN) (some d) H')
section
variable {P : Program} {w : World} {K : PySem.W.Frag} {mg : Str → Option Value} {base : Heap} {f CF CN DF : Addr} {fd : FuncData} {c : C5} {m : MA} {c4 : C4}
theorem scXNd : FnScope ["self", "number"] ["self", "number"] (defScope sXNoDef) := ⟨rfl, rfl, rfl, by decide +kernel, rfl, by decide +kernel, by decide +kernel⟩
theorem ok_xnd (F : Fun K "__init__" "NoDefault.__init__" sXNoDef f fd) : FnOk P w K mg base CX0 1 f fd ["self", "number"] (spXI K "number") := by
  refine F.ok scXNd (fun vs H Q E h => ?_) (fun cdv A outer s H vs Q E hr h => ?_)
  · obtain ⟨x, C, t, v, rfl, _⟩ := h
    rfl
  obtain ⟨x, C, t, v, rfl, hx, m, n, q⟩ := h
  refine ⟨_, pss_one (ps_fldX (pv 0) (pv 1) rfl), ?_⟩
  exact ⟨_, rfl, _, rfl, x, C, t, rfl, hx, m, n, q⟩
/-- raise C(n) -/
theorem raise_go {x : Str} {C g : Addr} {gd : FuncData} (X' : XCls P w K mg base x C g gd "number" "number") {H0 H : Hp} {E : XK} {n : Nat} {t : TA} {σ : L2.St} {Dn : Ends} (ht : ∀ Q : List V → Hp → Prop, (∀ H2, Same H0 H2 → Q [.int (n : Nat)] H2) → t σ H Q)
    (q : ∀ (d : Addr) (H' : Hp), Same H0 H' → H' d = some (.xd [("number", .int (n : Nat))]) → E (.ref C) (some d) H') : tRaiseS K H0 E (tMakeX C (spXI K "number") E0 t) Dn σ H := by
  refine ht _ fun H2 s => ⟨by show 1 ≤ sizeLine; decide, fun x tu hxn htn hne => ?_⟩
  refine ⟨x, _, tu, _, rfl, upd_same, X'.set, X'.no, fun d hd => ⟨rfl, x, _, some d, tu, rfl, ?_, X'.ex, X'.call.ob, s.free hxn, ?_⟩⟩
  · have : x ≠ d := fun z => by rw [← z, upd_same] at hd; cases hd
    rw [upd_ne this, upd_same]
  · exact q d _ (same_drop2 s hxn hd) (drop_at2 hd)
theorem scRDef : FnScope ["form", "defaults", "numbers", "number", "default"] ["form", "defaults"] (defScope sRDef) := ⟨rfl, rfl, rfl, by decide +kernel, rfl, by decide +kernel, by decide +kernel⟩
theorem ok_rdef {g1 g2 gP gT : Addr} {d1 d2 eP eT : FuncData} (F : Fun K "refuse_defaults" "refuse_defaults" sRDef f fd) (T : TxtL mg) (FK : FC K CF) (DK : D4 K mg c4 DF) (cN : Callee P w K mg base 2 "free_numbers" g1 d1 ["form"] (spFN c CF))
    (mP : Meth K CF "parameters" gP) (GP : FnOk P w K mg base CX0 1 gP eP ["self"] (spPars c CF)) (bP : Binds K eP ["self"] []) (mT : Meth K CF "tail" gT) (GT : FnOk P w K mg base CX0 1 gT eT ["self"] (spWord c CF 2)) (bT : Binds K eT ["self"] [])
    (X0 : XCls P w K mg base "NoDefault" CN g2 d2 "number" "number") : FnOk P w K mg base (CXs P w) 3 f fd ["form", "defaults"] (spRDef c c4 CF CN) := by
  refine F.okS scRDef (fun vs H Q E h => ?_) (fun cdv A outer s H vs Q E hr h => ?_)
  · obtain ⟨f, ld, rows, bars, ps, ds, rfl, _⟩ := h
    rfl
  obtain ⟨f, ld, rows, bars, ps, ds, rfl, hF, V1, hld, hp, q1, q2⟩ := h
  have hr1 : Room 1 _ := hr.mono (by decide)
  refine ⟨_, pss_cons (ps_set (i := 2) scRDef.nd rfl (Or.inl rfl) (cF cN hr (ac (pv 0) pa_nil)))
    (pss_cons (ps_if (pt_cmpR op_lt (cB call_len_seq T.len PySem.boot_len (ac (pv 1) pa_nil)) (cB call_len_seq T.len PySem.boot_len (ac (pv 2) pa_nil)) (nomark _)) (pss_one (ps_raiseS raisesS_cx rfl (pe_makeX X0.call X0.ok hr rfl X0.gl X0.bd pass0 (ac (pe_ix ix_list (pv 2) (cB call_len_seq T.len PySem.boot_len (ac (pv 1) pa_nil)) (fun _ _ => rfl)) pa_nil)))) pss_nil)
    (pss_cons (ps_if (pt_cmpR op_gt (cB call_len_seq T.len PySem.boot_len (ac (pv 1) pa_nil)) (cB call_len_seq T.len PySem.boot_len (ac (pv 2) pa_nil)) (nomark _)) (pss_one (ps_raiseS raisesS_cx rfl (pe_makeX X0.call X0.ok hr rfl X0.gl X0.bd pass0 (ac (cB call_len_seq T.len PySem.boot_len (ac (pe_meth0 (pv 0) FK.cl mP GP hr1 bP .nil pass0) pa_nil)) pa_nil)))) pss_nil)
    (pss_one (ps_for PassesOwn.leaving rfl (pi_zip rfl T.zip (ac (pv 2) (ac (pv 1) pa_nil))) (pg_tup rfl (pgs_cons (pg_name (i := 3) scRDef.nd rfl (Or.inl rfl)) (pgs_cons (pg_name (i := 4) scRDef.nd rfl (Or.inl rfl)) pgs_nil)))
      (pss_one (ps_if (PW.pt (pw_and (pt_val (cB call_isinstC T.isi boot_isinstance (ac (pv 4) (ac (pe_glob (v := .ref c4.c3) rfl DK.m3 rfl) pa_nil)))) (pw_and1 (PW.pt (pw_or (pt_not (pt_chain op_le op_lt pe_int (pe_fld (pv 4) rfl) (pv 3))) (pw_or1 (pt_cmpR op_eq (pe_fld (pv 4) rfl) (pe_meth0 (pv 0) FK.cl mT GT hr1 bT .nil pass0) (nomark _))))))))
        (pss_one (ps_raiseS raisesS_cx rfl (pe_makeX X0.call X0.ok hr rfl X0.gl X0.bd pass0 (ac (pv 3) pa_nil)))) pss_nil)))))), ?_⟩
  refine ⟨_, rfl, f, rows, bars, rfl, hF, V1, fun l H1 s1 nl el => ?_⟩
  have lp : ps.length = ds.length := hp.length
  have lf : (freeN rows).length ≤ 24 := Nat.le_trans (List.length_filter_le _ _) (by rw [List.length_range]; exact V1.l24)
  have hld1 := s1 _ _ hld
  refine ⟨_, rfl, ld, _, rfl, .inl (SqL.of hld1), _, rfl, l, _, rfl, .inl (SqL.of el), _, _, rfl, rfl, _, rfl, ?_⟩
  by_cases h1 : ds.length < (freeN rows).length
  · have h1' : ((ps.map V.ref).length : Int) < (((freeN rows).map fun n => V.int (n : Nat)).length : Int) := by rw [List.length_map, List.length_map]; omega
    refine dT h1' ?_
    have en : (freeN rows)[ds.length]? = some (freeN rows)[ds.length] := List.getElem?_eq_getElem h1
    refine raise_go (n := (freeN rows)[ds.length]) X0 (fun Q h => ?_) (fun d H' s' hd => q2 _ (by unfold dueF; rw [if_pos h1]; exact en) d H' s' hd)
    refine ⟨_, rfl, _, rfl, ld, _, rfl, .inl (SqL.of hld1), l, _, _, .int ((freeN rows)[ds.length] : Nat), rfl, rfl, SqL.of el, ?_, h _ s1⟩
    rw [List.length_map, lp]
    exact atI_nat (by rw [List.getElem?_map, en]; rfl)
  have h1' : ¬ ((ps.map V.ref).length : Int) < (((freeN rows).map fun n => V.int (n : Nat)).length : Int) := by rw [List.length_map, List.length_map]; omega
  refine dF h1' ?_
  refine ⟨_, rfl, ld, _, rfl, .inl (SqL.of hld1), _, rfl, l, _, rfl, .inl (SqL.of el), _, _, rfl, rfl, _, rfl, ?_⟩
  by_cases h2 : (freeN rows).length < ds.length
  · have h2' : ((ps.map V.ref).length : Int) > (((freeN rows).map fun n => V.int (n : Nat)).length : Int) := by rw [List.length_map, List.length_map]; omega
    refine dT h2' ?_
    have hF1 := hF.same s1
    obtain ⟨dx, fs, lr, lb, ldo, ps0, g1, g2, g3, g4, g5, g6⟩ := id hF1
    refine raise_go (n := rows.length) X0 (fun Q h => ?_) (fun d H' s' hd => q2 _ (by unfold dueF; rw [if_neg h1, if_pos h2]) d H' s' hd)
    refine ⟨_, rfl, f, dx, fs, rfl, g1, g2.no _ (by decide +kernel), f, rows, bars, rfl, hF1, fun l2 ps2 H2 s2 n2 e2 hp2 => ?_⟩
    refine ⟨l2, _, rfl, .inl (SqL.of e2), ?_⟩
    rw [List.length_map, hp2.length]
    exact h _ (s1.trans s2)
  have h2' : ¬ ((ps.map V.ref).length : Int) > (((freeN rows).map fun n => V.int (n : Nat)).length : Int) := by rw [List.length_map, List.length_map]; omega
  refine dF h2' ?_
  have el2 : ds.length = (freeN rows).length := by omega
  have hdue : dueF rows ds = (((freeN rows).zip ds).find? fun p => badL rows p.1 p.2).map (·.1) := by
    unfold dueF
    rw [if_neg h1, if_neg h2]
  refine ⟨_, rfl, _, rfl, l, ld, rfl, ⟨_, SqL.of el⟩, ⟨_, SqL.of hld1⟩, for_zip (K := K) (a := l) (b := ld) (xs := (freeN rows).map fun n => V.int (n : Nat)) (ys := ps.map V.ref) (fun i σ H' => ∃ v3 v4, σ = [some (.ref f), some (.ref ld), some (.ref l), v3, v4] ∧ Same H1 H' ∧ ∀ j n d, j < i → (freeN rows)[j]? = some n → ds[j]? = some d → badL rows n d = false)
    (by rw [List.length_map, List.length_map]; omega) ⟨_, _, rfl, Same.refl _, fun j _ _ h => absurd h (by omega)⟩ (fun i σ H' _ ⟨_, _, _, sH, _⟩ => ⟨SqL.of (sH _ _ el), SqL.of (sH _ _ hld1)⟩) ?_ ?_⟩
  · rintro i x y p σ H2 hx hy ⟨v3, v4, rfl, s2, hn⟩ hpn
    obtain ⟨n, hn', rfl⟩ := ints_at hx
    obtain ⟨pa, hpa, rfl⟩ := refs_at hy
    obtain ⟨d, hd, dx, hdx⟩ := paired_at hp hpa
    have sp := same_new hpn (.tup [.int (n : Nat), .ref pa])
    refine ⟨p, _, rfl, SqT.of upd_same, rfl, _, _, rfl, _, _, rfl, rfl, ?_⟩
    generalize upd H2 p (.tup [.int (n : Nat), .ref pa]) = H3 at sp ⊢
    have s3 := s2.trans sp
    have s13 := s1.trans s3
    have hd3 := s13 _ _ hdx
    have nf : n ∈ freeN rows := List.mem_of_getElem? hn'
    have hb := bad_eq V1 nf d
    have step : badL rows n d = false → ∃ v3' v4', ([some (.ref f), some (.ref ld), some (.ref l), some (.int (n : Nat)), some (.ref pa)] : L2.St) = [some (.ref f), some (.ref ld), some (.ref l), v3', v4'] ∧ Same H1 H3 ∧ ∀ j n d, j < i + 1 → (freeN rows)[j]? = some n → ds[j]? = some d → badL rows n d = false := fun hbad => by
      refine ⟨_, _, rfl, s3, fun j n' d' hj e1 e2 => ?_⟩
      by_cases e : j = i
      · subst e
        rw [hn'] at e1
        rw [hd] at e2
        cases e1
        cases e2
        exact hbad
      · exact hn j n' d' (by omega) e1 e2
    have stop : badL rows n d = true → dueF rows ds = some n := fun hbad => by
      rw [hdue, zip_find (p := fun p => badL rows p.1 p.2) hn' hd (fun j x' y' hj e1 e2 => hn j x' y' hj e1 e2) hbad]
      rfl
    refine ⟨_, rfl, _, _, _, _, rfl, DK.ty _ d.k4 _ _ _ _ hd3, DK.kt _ d.k4 3 (by decide), _, rfl, ?_⟩
    cases d with
    | told _ =>
      refine iteC rfl ?_
      refine iteF ?_
      exact step rfl
    | once =>
      refine iteC rfl ?_
      refine iteF ?_
      exact step rfl
    | anew =>
      refine iteC rfl ?_
      refine iteF ?_
      exact step rfl
    | sum a t pl =>
      refine iteB rfl ?_
      have hb' : (!(decide (0 ≤ a) && decide (a < (n : Int))) || decide (V.int a = numV (firstK 2 0 rows))) = badL rows n (.sum a t pl) := hb
      refine ⟨_, rfl, pa, c4.c3, dx, _, _, rfl, hd3, DK.cl3, DK.na, su_at, _, _, rfl, rfl, _, rfl, ?_⟩
      by_cases h0 : 0 ≤ a
      rotate_left
      · refine dF h0 ?_
        refine ⟨_, rfl, ?_⟩
        refine iteT ?_
        refine iteT ?_
        have hbad : badL rows n (.sum a t pl) = true := by rw [← hb', decide_eq_false h0]; rfl
        exact raise_go X0 (fun Q h => ⟨_, rfl, h _ s13⟩) (fun d' H' s' hd' => q2 n (stop hbad) d' H' s' hd')
      refine dT h0 ?_
      refine ⟨_, rfl, _, _, rfl, rfl, _, rfl, ?_⟩
      by_cases h3 : a < (n : Int)
      rotate_left
      · rw [decide_eq_false h3]
        refine iteT ?_
        refine iteT ?_
        have hbad : badL rows n (.sum a t pl) = true := by rw [← hb', decide_eq_false h3, Bool.and_false]; rfl
        exact raise_go X0 (fun Q h => ⟨_, rfl, h _ s13⟩) (fun d' H' s' hd' => q2 n (stop hbad) d' H' s' hd')
      rw [decide_eq_true h3]
      refine iteF ?_
      have hF3 := hF.same s13
      obtain ⟨dxf, fs, lr, lb, ldo, ps0, g1, g2, g3, g4, g5, g6⟩ := id hF3
      refine ⟨_, rfl, pa, c4.c3, dx, _, _, rfl, hd3, DK.cl3, DK.na, su_at, _, rfl, f, dxf, fs, rfl, g1, g2.no _ (by decide +kernel), f, rows, bars, rfl, hF3, ?_, _, rfl, ?_⟩
      · cases firstK 2 0 rows <;> rfl
      rw [decide_eq_true h0, decide_eq_true h3] at hb'
      have hb2 : decide (V.int a = numV (firstK 2 0 rows)) = badL rows n (.sum a t pl) := hb'
      cases hbl : badL rows n (.sum a t pl) with
      | true =>
        refine iteB (hb2.trans hbl) ?_
        exact raise_go X0 (fun Q h => ⟨_, rfl, h _ s13⟩) (fun d' H' s' hd' => q2 n (stop hbl) d' H' s' hd')
      | false =>
        refine iteC (hb2.trans hbl) ?_
        exact step hbl
  · rintro σ H2 ⟨v3, v4, rfl, s2, hn⟩
    rw [List.length_map] at hn
    refine q1 ?_ H2 (s1.trans s2)
    rw [hdue, zip_none (fun j x' y' e1 e2 => hn j x' y' (List.getElem?_eq_some_iff.mp e1).1 e1 e2)]
    rfl
end
end K42

set_option Elab.async false
set_option linter.all false
set_option maxRecDepth 100000
set_option maxHeartbeats 4000000
namespace K42
open PySem L2 PyProof.Rows
abbrev sUInit : Stmt := inClass (top 26) 0
abbrev sUForm : Stmt := inClass (top 26) 1
def Df.isOnce (d : Df) : Bool := d.k == 1
def onceN (ds : List Df) : Nat := (ds.filter Df.isOnce).length
theorem once_take {ds : List Df} {i : Nat} {d : Df} (h : ds[i]? = some d) : onceN (ds.take (i + 1)) = onceN (ds.take i) + (if d.isOnce = true then 1 else 0) := by
  have hi : i < ds.length := (List.getElem?_eq_some_iff.mp h).1
  have e : ds[i] = d := (List.getElem?_eq_some_iff.mp h).2
  unfold onceN
  rw [List.take_succ_eq_append_getElem hi, e, List.filter_append, List.length_append]
  cases hd : d.isOnce <;> simp [List.filter, hd]
theorem df_no (d : Df) (n : Int) : d.fs ≠ wl n := fun e => by
  have h := wl_get n
  rw [← e] at h
  cases d with
  | told m =>
    have h' : (fTo (.int m)).lookup ("coming" : Str) = some (.int n) := h
    unfold fTo at h'
    rw [lookup_putF, if_neg (by decide +kernel)] at h'
    cases h'
  | once => cases h
  | anew => cases h
  | sum a t p =>
    have h' : (fSu (.int a) (.int t) (.int p)).lookup ("coming" : Str) = some (.int n) := h
    unfold fSu at h'
    rw [lookup_putF, if_neg (by decide +kernel), lookup_putF, if_neg (by decide +kernel), lookup_putF, if_neg (by decide +kernel)] at h'
    cases h'
theorem DAt.now {c : C4} {H : Hp} {p wa CW dw : Addr} {d : Df} {n : Int} (h : DAt c H p d) (hw : H wa = some (.ins CW dw (wl n))) : p ≠ wa := fun z => by
  obtain ⟨dx, h⟩ := h
  rw [z, hw] at h
  injection h with h
  injection h with h1 h2 h3
  exact df_no d n h3.symm
theorem FormAt.sx {c : C5} {CF f p C dx : Addr} {H H' : Hp} {rows : List Rw} {bars : List Str} {fs : List (Str × V)} (h : FormAt c CF H f rows bars) (e : H p = some (.ins C dx fs)) (n1 : fs.lookup ("word" : Str) = none) (n2 : fs.lookup ("row" : Str) = none) (x : SX p H H') : FormAt c CF H' f rows bars := by
  obtain ⟨dxf, fsf, lr, lb, ld, ps, h1, h2, h3, h4, h5, h6⟩ := h
  have nf : f ≠ p := fun z => by
    rw [z, e] at h1
    injection h1 with h1
    injection h1 with a1 a2 a3
    have := h2.row
    rw [← a3, n2] at this
    cases this
  exact ⟨dxf, fsf, lr, lb, ld, ps, x _ _ h1 nf, h2, x _ _ h3 (ne_of h3 e (by intro z; cases z)), pats_sx e n1 x h4, x _ _ h5 (ne_of h5 e (by intro z; cases z)), x _ _ h6 (ne_of h6 e (by intro z; cases z))⟩
def spSet (c : C5) (c4 : C4) (CF CW : Addr) : Sp := fun vs H Q _ => ∃ (f ld wa dw : Addr) (n : Int) (rows : List Rw) (bars : List Str) (ps : List Addr) (ds : List Df), vs = [.ref f, .ref ld, .ref wa] ∧ FormAt c CF H f rows bars ∧ VR rows ∧ H ld = some (.lst (ps.map V.ref)) ∧ Paired (DAt c4 H) ps ds ∧ ds.length = (freeN rows).length ∧ H wa = some (.ins CW dw (wl n)) ∧
  ∀ (D : Addr) (H' : Hp), SX wa H H' → H' wa = some (.ins CW dw (wl (n + (onceN ds : Nat)))) → Q (.ref D) H'
def uF (f wa D : Addr) : List (Str × V) := putF "defaults" (.ref D) (putF "well" (.ref wa) (putF "kept_form" (.ref f) []))
theorem u_kept {f wa D : Addr} : (uF f wa D).lookup ("kept_form" : Str) = some (.ref f) := by
  unfold uF
  rw [lookup_putF, if_neg (by decide +kernel), lookup_putF, if_neg (by decide +kernel), lookup_putF, if_pos rfl]
theorem u_no {f wa D : Addr} {m : Str} (h1 : ¬ m = "kept_form") (h2 : ¬ m = "well") (h3 : ¬ m = "defaults") : (uF f wa D).lookup m = none := by
  unfold uF
  rw [lookup_putF, if_neg h3, lookup_putF, if_neg h2, lookup_putF, if_neg h1]
  rfl
def spUI (c : C5) (c4 : C4) (CF CN CW CU : Addr) : Sp := fun vs H Q E => ∃ (p dx f ld wa dw : Addr) (n : Int) (rows : List Rw) (bars : List Str) (ps : List Addr) (ds : List Df), vs = [.ref p, .ref f, .ref ld, .ref wa] ∧ H p = some (.ins CU dx []) ∧ FormAt c CF H f rows bars ∧ VR rows ∧ H ld = some (.lst (ps.map V.ref)) ∧ Paired (DAt c4 H) ps ds ∧ (∀ a ∈ ps, a ≠ p) ∧ H wa = some (.ins CW dw (wl n)) ∧
  (dueF rows ds = none → ∀ H', (∀ b u, H b = some u → b ≠ p → b ≠ wa → H' b = some u) → H' wa = some (.ins CW dw (wl (n + (onceN ds : Nat)))) → (∃ D, H' p = some (.ins CU dx (uF f wa D))) → Q .non H') ∧
  (∀ j, dueF rows ds = some j → ∀ (d : Addr) (H' : Hp), Same H H' → H' d = some (.xd [("number", .int (j : Nat))]) → E (.ref CN) (some d) H')
def spUF (CU : Addr) : Sp := fun vs H Q _ => ∃ (p dx f wa D : Addr), vs = [.ref p] ∧ H p = some (.ins CU dx (uF f wa D)) ∧ Q (.ref f) H
structure UC (K : PySem.W.Frag) (CU : Addr) : Prop where
  cl : Cls K CU
  n1 : NoAttr K CU "kept_form"
  n2 : NoAttr K CU "well"
  n3 : NoAttr K CU "defaults"
section
variable {P : Program} {w : World} {K : PySem.W.Frag} {mg : Str → Option Value} {base : Heap} {f CF CN CW CU DF : Addr} {fd : FuncData} {c : C5} {m : MA} {c4 : C4}
theorem scSet : FnScope ["form", "defaults", "well", "found", "number", "default"] ["form", "defaults", "well"] (defScope sSettled) := ⟨rfl, rfl, rfl, by decide +kernel, rfl, by decide +kernel, by decide +kernel⟩
theorem ok_set {g1 gD i0 : Addr} {d1 eD d0 : FuncData} (F : Fun K "settled" "settled" sSettled f fd) (T : TxtL mg) (DK : D4 K mg c4 DF) (WC : WellC K mg CW) (cN : Callee P w K mg base 2 "free_numbers" g1 d1 ["form"] (spFN c CF))
    (mD : Meth K CW "draw" gD) (GD : FnOk P w K mg base CX0 1 gD eD ["self"] (spDraw CW)) (bD : Binds K eD ["self"] []) (U : Ctor P w K mg base CX0 1 "Told" c4.c0 i0 d0 ["self", "number"] [] (spD1 c4.c0)) : FnOk P w K mg base CX0 3 f fd ["form", "defaults", "well"] (spSet c c4 CF CW) := by
  refine F.ok scSet (fun vs H Q E h => ?_) (fun cdv A outer s H vs Q E hr h => ?_)
  · obtain ⟨f, ld, wa, dw, n, rows, bars, ps, ds, rfl, _⟩ := h
    rfl
  obtain ⟨f, ld, wa, dw, n, rows, bars, ps, ds, rfl, hF, V1, hld, hp, el2, hwa, q⟩ := h
  have hr1 : Room 1 _ := hr.mono (by decide)
  have hu := hu_of hr
  refine ⟨_, pss_cons (ps_set (i := 3) scSet.nd rfl (Or.inl rfl) pe_dnewK)
    (pss_cons (ps_for PassesOwn.never rfl (pi_zip rfl T.zip (ac (cF cN hr (ac (pv 0) pa_nil)) (ac (pv 1) pa_nil))) (pg_tup rfl (pgs_cons (pg_name (i := 4) scSet.nd rfl (Or.inl rfl)) (pgs_cons (pg_name (i := 5) scSet.nd rfl (Or.inl rfl)) pgs_nil)))
      (pss_one (ps_dput hu (pv 3) (pv 4) (pe_ifExp (pt_val (cB call_isinstC T.isi boot_isinstance (ac (pv 5) (ac (pe_glob (v := .ref c4.c1) rfl DK.m1 rfl) pa_nil)))) (cMk U .nil pass0 hr (ac (pe_meth0 (pv 2) WC.cl mD GD hr1 bD .nil pass0) pa_nil)) (pv 5)) rfl)))
    (pss_one (ps_ret (pv 3)))), ?_⟩
  intro D hD
  have s1 := same_new hD (.dK [])
  have g1 : upd H D (.dK []) D = some (.dK []) := upd_same
  dsimp only [gName]
  generalize upd H D (.dK []) = H1 at s1 g1 ⊢
  refine ⟨_, rfl, f, rows, bars, rfl, hF.same s1, V1, fun l H2 s2 nl el => ?_⟩
  have s12 := s1.trans s2
  have lp : ps.length = ds.length := hp.length
  have lf : (freeN rows).length ≤ 24 := Nat.le_trans (List.length_filter_le _ _) (by rw [List.length_range]; exact V1.l24)
  have hwa2 := s12 _ _ hwa
  have g2 := s2 _ _ g1
  have nDw : D ≠ wa := fun z => by rw [z, hwa] at hD; cases hD
  have nlw : l ≠ wa := ne_of el hwa2 (by intro z; cases z)
  have nlD : l ≠ D := ne_of el g2 (by intro z; cases z)
  have nldw : ld ≠ wa := ne_of hld hwa (by intro z; cases z)
  refine ⟨_, rfl, l, ld, rfl, ⟨_, SqL.of el⟩, ⟨_, SqL.of (s12 _ _ hld)⟩, for_zip (K := K) (a := l) (b := ld) (xs := (freeN rows).map fun n => V.int (n : Nat)) (ys := ps.map V.ref) (fun i σ H' => ∃ v4 v5 kvs, σ = [some (.ref f), some (.ref ld), some (.ref wa), some (.ref D), v4, v5] ∧ SX wa H H' ∧ H' l = some (.lst ((freeN rows).map fun n => V.int (n : Nat))) ∧ H' D = some (.dK kvs) ∧ kvs.length ≤ i ∧ H' wa = some (.ins CW dw (wl (n + (onceN (ds.take i) : Nat)))))
    (by rw [List.length_map, List.length_map]; omega) ⟨_, _, [], rfl, fun b u e _ => s12 _ _ e, el, g2, Nat.zero_le _, by rw [List.take_zero, show n + ((onceN [] : Nat) : Int) = n from Int.add_zero n]; exact hwa2⟩ (fun i σ H' _ ⟨_, _, _, _, sH, e, _⟩ => ⟨SqL.of e, SqL.of (sH _ _ hld nldw)⟩) ?_ ?_⟩
  · rintro i x y p σ H3 hx hy ⟨v4, v5, kvs, rfl, s3, el3, gD3, lk, hw3⟩ hpn
    obtain ⟨j, hj, rfl⟩ := ints_at hx
    obtain ⟨pa, hpa, rfl⟩ := refs_at hy
    obtain ⟨d, hd, hda⟩ := paired_at hp hpa
    have npw := hda.now hwa
    obtain ⟨dx, hdx⟩ := hda
    have hi : i < ds.length := (List.getElem?_eq_some_iff.mp hd).1
    have sp := same_new hpn (.tup [.int (j : Nat), .ref pa])
    refine ⟨p, _, rfl, SqT.of upd_same, rfl, _, _, rfl, _, _, rfl, rfl, ?_⟩
    generalize upd H3 p (.tup [.int (j : Nat), .ref pa]) = H4 at sp ⊢
    have s4 : SX wa H H4 := s3.same sp
    have hd4 := s4 _ _ hdx npw
    have hw4 := sp _ _ hw3
    have el4 := sp _ _ el3
    have gD4 := sp _ _ gD3
    refine ⟨_, rfl, _, _, _, _, rfl, DK.ty _ d.k4 _ _ _ _ hd4, DK.kt _ d.k4 1 (by decide), _, rfl, ?_⟩
    have et := once_take hd
    cases ho : d.isOnce with
    | true =>
      rw [ho, if_pos rfl] at et
      have hk : d.k = 1 := by unfold Df.isOnce at ho; exact beq_iff_eq.mp ho
      refine iteB (by rw [hk]; rfl) ?_
      refine ⟨_, rfl, wa, dw, _, rfl, hw4, wl_no _ nm1, wa, dw, _, rfl, hw4, fun x dx' hx hdx' ne => ⟨x, dx', _, rfl, upd_same, ⟨rfl, ?_⟩⟩⟩
      have sM := same_make (o1 := .ins c4.c0 dx' []) (o2 := .ins c4.c0 dx' (fTo (.int (n + (onceN (ds.take i) : Nat))))) hx hdx'
      have hw5 := sM _ _ (upd_same (H := H4) (a := wa) (o := .ins CW dw (wl (n + (onceN (ds.take i) : Nat) + 1))))
      have gD5 := sM _ _ (show upd H4 wa (.ins CW dw (wl (n + (onceN (ds.take i) : Nat) + 1))) D = _ by rw [upd_ne nDw]; exact gD4)
      have el5 := sM _ _ (show upd H4 wa (.ins CW dw (wl (n + (onceN (ds.take i) : Nat) + 1))) l = _ by rw [upd_ne nlw]; exact el4)
      have s5 : SX wa H _ := (s4.upd (o := .ins CW dw (wl (n + (onceN (ds.take i) : Nat) + 1)))).same sM
      generalize upd (upd (upd (upd H4 wa (.ins CW dw (wl (n + (onceN (ds.take i) : Nat) + 1)))) dx' (.own x)) x (.ins c4.c0 dx' [])) x (.ins c4.c0 dx' (fTo (.int (n + (onceN (ds.take i) : Nat))))) = H5 at hw5 gD5 el5 s5 ⊢
      refine ⟨_, rfl, _, rfl, D, _, rfl, DPut.k (k := Sum.inl (j : Int)) gD5 (small1000 (by omega)), ?_⟩
      refine ⟨_, _, _, rfl, fun b u e nb => ?_, ?_, upd_same, ?_, ?_⟩
      · rw [upd_ne (ne_of_none e hD)]
        exact s5 _ _ e nb
      · rw [upd_ne nlD]
        exact el5
      · have := length_putK kvs (Sum.inl (j : Int)) (V.ref x)
        omega
      · rw [upd_ne nDw.symm, et, hw5]
        congr 3
        omega
    | false =>
      rw [ho, if_neg (by decide), Nat.add_zero] at et
      have hk : ¬ d.k = 1 := fun z => by unfold Df.isOnce at ho; rw [z] at ho; cases ho
      refine iteC (decide_eq_false fun z => hk z.symm) ?_
      refine ⟨_, rfl, _, rfl, _, rfl, D, _, rfl, DPut.k (k := Sum.inl (j : Int)) gD4 (small1000 (by omega)), ?_⟩
      refine ⟨_, _, _, rfl, fun b u e nb => ?_, ?_, upd_same, ?_, ?_⟩
      · rw [upd_ne (ne_of_none e hD)]
        exact s4 _ _ e nb
      · rw [upd_ne nlD]
        exact el4
      · have := length_putK kvs (Sum.inl (j : Int)) (V.ref pa)
        omega
      · rw [upd_ne nDw.symm, et]
        exact hw4
  · rintro σ H3 ⟨v4, v5, kvs, rfl, s3, el3, gD3, lk, hw3⟩
    rw [List.length_map, ← el2, List.take_length] at hw3
    exact ⟨_, rfl, q D H3 s3 hw3⟩
theorem scUInit : FnScope ["self", "form", "defaults", "well"] ["self", "form", "defaults", "well"] (defScope sUInit) := ⟨rfl, rfl, rfl, by decide +kernel, rfl, by decide +kernel, by decide +kernel⟩
theorem ok_uinit {g1 g2 : Addr} {d1 d2 : FuncData} (F : Fun K "__init__" "Function.__init__" sUInit f fd) (UK : UC K CU) (cR : CalleeS P w K mg base 3 "refuse_defaults" g1 d1 ["form", "defaults"] (spRDef c c4 CF CN)) (cS' : Callee P w K mg base 3 "settled" g2 d2 ["form", "defaults", "well"] (spSet c c4 CF CW)) : FnOk P w K mg base (CXs P w) 4 f fd ["self", "form", "defaults", "well"] (spUI c c4 CF CN CW CU) := by
  refine F.okS scUInit (fun vs H Q E h => ?_) (fun cdv A outer s H vs Q E hr h => ?_)
  · obtain ⟨p, dx, f, ld, wa, dw, n, rows, bars, ps, ds, rfl, _⟩ := h
    rfl
  obtain ⟨p, dx, f, ld, wa, dw, n, rows, bars, ps, ds, rfl, hp, hF, V1, hld, hps, hne, hwa, q1, q2⟩ := h
  refine ⟨_, pss_cons (ps_expr (cS cR (passS fun _ _ _ z => z) hr (ac (pv 1) (ac (pv 2) pa_nil))))
    (pss_cons (ps_fld (pv 0) (pv 1) rfl)
    (pss_cons (ps_fld (pv 0) (pv 3) rfl)
    (pss_one (ps_fld (pv 0) (cF cS' hr (ac (pv 1) (ac (pv 2) (ac (pv 3) pa_nil)))) rfl)))), ?_⟩
  refine ⟨_, rfl, _, rfl, f, ld, rows, bars, ps, ds, rfl, hF, V1, hld, hps, fun hd H1 s1 => ?_, fun j hj d H1 s1 hx => q2 j hj d H1 s1 hx⟩
  have hp1 := s1 _ _ hp
  refine ⟨_, rfl, _, rfl, p, CU, dx, _, rfl, hp1, UK.cl, UK.n1, (by show 0 + 1 ≤ 1000; decide), ?_⟩
  refine ⟨_, rfl, _, rfl, p, CU, dx, _, rfl, upd_same, UK.cl, UK.n2, (by show 1 + 1 ≤ 1000; decide), ?_⟩
  rw [upd_upd]
  have npw : wa ≠ p := fun z => by
    rw [z, hp] at hwa
    injection hwa with hwa
    injection hwa with a1 a2 a3
    cases a3
  have x1 : SX p H1 (upd H1 p (.ins CU dx (putF "well" (.ref wa) (putF "kept_form" (.ref f) [])))) := SX.refl.upd
  have hF2 := (hF.same s1).sx hp1 rfl rfl x1
  have hld2 := x1 _ _ (s1 _ _ hld) (ne_of (s1 _ _ hld) hp1 (by intro z; cases z))
  have hwa2 := x1 _ _ (s1 _ _ hwa) npw
  have hps2 : Paired (DAt c4 (upd H1 p (.ins CU dx (putF "well" (.ref wa) (putF "kept_form" (.ref f) []))))) ps ds := by
    have := dats_same s1 hps
    clear hps hld hld2 q1 q2 hd
    induction this with
    | nil => exact .nil
    | cons h t ih =>
      refine .cons ?_ (ih (fun a ha => hne a (List.mem_cons_of_mem _ ha)))
      obtain ⟨dx', z⟩ := h
      exact ⟨dx', x1 _ _ z (hne _ List.mem_cons_self)⟩
  have p2 : upd H1 p (.ins CU dx (putF "well" (.ref wa) (putF "kept_form" (.ref f) []))) p = some (.ins CU dx (putF "well" (.ref wa) (putF "kept_form" (.ref f) []))) := upd_same
  generalize upd H1 p (.ins CU dx (putF "well" (.ref wa) (putF "kept_form" (.ref f) []))) = H2 at x1 hF2 hld2 hwa2 hps2 p2 ⊢
  have ld : ds.length = (freeN rows).length := by
    unfold dueF at hd
    by_cases h1 : ds.length < (freeN rows).length
    · rw [if_pos h1, List.getElem?_eq_getElem h1] at hd
      cases hd
    · rw [if_neg h1] at hd
      by_cases h2 : (freeN rows).length < ds.length
      · rw [if_pos h2] at hd
        cases hd
      · omega
  refine ⟨_, rfl, _, rfl, _, rfl, f, _, wa, dw, n, rows, bars, ps, ds, rfl, hF2, V1, hld2, hps2, ld, hwa2, fun D H3 x3 hw3 => ?_⟩
  have p3 := x3 _ _ p2 npw.symm
  refine ⟨_, rfl, p, CU, dx, _, rfl, p3, UK.cl, UK.n3, (by show 2 + 1 ≤ 1000; decide), ?_⟩
  refine q1 hd _ (fun b u e n1 n2 => ?_) ?_ ⟨D, upd_same⟩
  · rw [upd_ne n1]
    exact x3 _ _ (x1 _ _ (s1 _ _ e) n1) n2
  · rw [upd_ne npw]
    exact hw3
theorem scUForm : FnScope ["self"] ["self"] (defScope sUForm) := ⟨rfl, rfl, rfl, by decide +kernel, rfl, by decide +kernel, by decide +kernel⟩
theorem ok_uform (F : Fun K "form" "Function.form" sUForm f fd) (UK : UC K CU) : FnOk P w K mg base CX0 1 f fd ["self"] (spUF CU) := by
  refine F.ok scUForm (fun vs H Q E h => ?_) (fun cdv A outer s H vs Q E hr h => ?_)
  · obtain ⟨p, dx, f, wa, D, rfl, _⟩ := h
    rfl
  obtain ⟨p, dx, f, wa, D, rfl, hp, q⟩ := h
  exact ⟨_, pss_one (ps_ret (pe_fld (pv 0) rfl)), _, rfl, p, CU, dx, _, _, rfl, hp, UK.cl, UK.n1, u_kept, q⟩
end
end K42

set_option Elab.async false
set_option linter.all false
set_option maxRecDepth 100000
set_option maxHeartbeats 4000000
namespace K42
open PySem L2 PyProof.Rows
def RAt (H : Hp) (u : Addr) (d : Df) : Prop := H u = some (.tup d.row)
theorem rats_same {H H' : Hp} {us : List Addr} {ds : List Df} (s : Same H H') (h : Paired (RAt H) us ds) : Paired (RAt H') us ds := Paired.imp' (fun _ _ z => s _ _ z) h
def spRead (c4 : C4) : Sp := fun vs H Q _ => ∃ (p : Addr) (d : Df), vs = [.ref p] ∧ DAt c4 H p d ∧ ∀ (u : Addr) (H' : Hp), Same H H' → H u = none → H' u = some (.tup d.row) → Q (.ref u) H'
def spDue : Sp := fun vs H Q _ => ∃ (la lt : Addr) (us : List Addr) (rows : List Rw) (ts : List Addr) (ds : List Df), vs = [.ref la, .ref lt] ∧ H la = some (.lst (us.map V.ref)) ∧ Paired (TAt H) us rows ∧ VR rows ∧ H lt = some (.lst (ts.map V.ref)) ∧ Paired (RAt H) ts ds ∧ ∀ H', Same H H' → Q (numV (dueF rows ds)) H'
section
variable {P : Program} {w : World} {K : PySem.W.Frag} {mg : Str → Option Value} {base : Heap} {f CF CN CW CU DF : Addr} {fd : FuncData} {c : C5} {m : MA} {c4 : C4}
theorem scRead : FnScope ["_law_one", "_law_kinds"] ["_law_one"] (defScope sRead) := ⟨rfl, rfl, rfl, by decide +kernel, rfl, by decide +kernel, by decide +kernel⟩
theorem ok_read (F : Fun K "_law_read" "_law_read" sRead f fd) (T : TxtL mg) (DK : D4 K mg c4 DF) : FnOk P w K mg base CX0 1 f fd ["_law_one"] (spRead c4) := by
  refine F.ok scRead (fun vs H Q E h => ?_) (fun cdv A outer s H vs Q E hr h => ?_)
  · obtain ⟨p, d, rfl, _⟩ := h
    rfl
  obtain ⟨p, d, rfl, ⟨dx, hdx⟩, q⟩ := h
  refine ⟨_, pss_cons (ps_set (i := 1) scRead.nd rfl (Or.inl rfl) (pe_lst (ac (cB call_isinstC T.isi boot_isinstance (ac (pv 0) (ac (pe_glob (v := .ref c4.c0) rfl DK.m0 rfl) pa_nil))) (ac (cB call_isinstC T.isi boot_isinstance (ac (pv 0) (ac (pe_glob (v := .ref c4.c1) rfl DK.m1 rfl) pa_nil))) (ac (cB call_isinstC T.isi boot_isinstance (ac (pv 0) (ac (pe_glob (v := .ref c4.c2) rfl DK.m2 rfl) pa_nil))) (ac (cB call_isinstC T.isi boot_isinstance (ac (pv 0) (ac (pe_glob (v := .ref c4.c3) rfl DK.m3 rfl) pa_nil))) pa_nil))))))
    (pss_cons (ps_if (PW.pt (pw_or (pt_cmpR op_ne (pe_bm PySem.F.plainAttrs_list PySem.F.slot_list_count PySem.F.type_list_count mt_countF (pv 1) (ac pe_bl pa_nil)) pe_int (nomark _)) (pw_or1 (pt_not (pt_val (cB call_isinstC T.isi boot_isinstance (ac (pv 0) (ac (pe_glob (v := .ref DF) rfl DK.mD rfl) pa_nil)))))))) (pss_one (ps_ret pe_non)) pss_nil)
    (pss_cons (ps_if (pt_val (pe_ix ix_list (pv 1) pe_int (fun _ _ => rfl))) (pss_one (ps_ret (pe_tup (ac pe_str (ac (pe_fld (pv 0) rfl) pa_nil))))) pss_nil)
    (pss_cons (ps_if (pt_val (pe_ix ix_list (pv 1) pe_int (fun _ _ => rfl))) (pss_one (ps_ret (pe_tup (ac pe_str (ac (pe_fld (pv 0) rfl) (ac (pe_fld (pv 0) rfl) (ac (pe_fld (pv 0) rfl) pa_nil))))))) pss_nil)
    (pss_one (ps_ret (pe_tup (ac (pe_ix ix_list (pe_lst (ac pe_str (ac pe_str pa_nil))) (cTy call_int1 T.int PyProof.Rows.boot_int (ac (pe_ix ix_list (pv 1) pe_int (fun _ _ => rfl)) pa_nil)) (fun _ _ => rfl)) pa_nil))))))), ?_⟩
  have ty := DK.ty _ d.k4 _ _ _ _ hdx
  refine ⟨_, rfl, _, _, _, _, rfl, ty, DK.kt _ d.k4 0 (by decide), _, rfl, _, _, _, _, rfl, ty, DK.kt _ d.k4 1 (by decide), _, rfl, _, _, _, _, rfl, ty, DK.kt _ d.k4 2 (by decide), _, rfl, _, _, _, _, rfl, ty, DK.kt _ d.k4 3 (by decide), (by show 4 ≤ sizeLine; decide), fun l hl => ?_⟩
  have s1 := same_new hl (.lst [.bl (decide (0 = d.k)), .bl (decide (1 = d.k)), .bl (decide (2 = d.k)), .bl (decide (3 = d.k))])
  have g1 : upd H l (.lst [.bl (decide (0 = d.k)), .bl (decide (1 = d.k)), .bl (decide (2 = d.k)), .bl (decide (3 = d.k))]) l = some (.lst [.bl (decide (0 = d.k)), .bl (decide (1 = d.k)), .bl (decide (2 = d.k)), .bl (decide (3 = d.k))]) := upd_same
  dsimp only [gName]
  generalize upd H l (.lst [.bl (decide (0 = d.k)), .bl (decide (1 = d.k)), .bl (decide (2 = d.k)), .bl (decide (3 = d.k))]) = H1 at s1 g1 ⊢
  have hd1 := s1 _ _ hdx
  have ty1 := DK.ty _ d.k4 _ _ _ _ hd1
  have q1 : ∀ (u : Addr) (H' : Hp), Same H1 H' → H1 u = none → H' u = some (.tup d.row) → Q (.ref u) H' := fun u H' s' n e => q u H' (s1.trans s') (s1.free n) e
  have hc : ([V.bl (decide (0 = d.k)), .bl (decide (1 = d.k)), .bl (decide (2 = d.k)), .bl (decide (3 = d.k))].countP fun z => eqV z (.bl true)) = 1 := by cases d <;> rfl
  refine ⟨_, rfl, .inl ⟨rfl, _, SqL.of g1⟩, l, _, .bl true, rfl, rfl, g1, rfl, rfl, rfl, _, rfl, ?_⟩
  rw [hc]
  refine iteC rfl ?_
  refine ⟨_, rfl, _, _, _, _, rfl, ty1, DK.kd _ d.k4, _, rfl, ?_⟩
  refine iteF ?_
  refine ⟨_, rfl, l, _, 0, _, rfl, rfl, SqL.of g1, rfl, _, rfl, ?_⟩
  cases d with
  | told n =>
    refine iteT ?_
    refine ⟨_, rfl, p, c4.c0, dx, _, _, rfl, hd1, DK.cl0, DK.nn, to_num, (by show 2 ≤ sizeLine; decide), fun u hu => ?_⟩
    exact q1 u _ (same_new hu _) hu upd_same
  | once =>
    refine iteF ?_
    refine ⟨_, rfl, l, _, 3, _, rfl, rfl, SqL.of g1, rfl, _, rfl, ?_⟩
    refine iteF ?_
    refine ⟨(by show 2 ≤ sizeLine; decide), fun l2 hl2 => ?_⟩
    have s2 := same_new hl2 (.lst [.str "once", .str "anew"])
    refine ⟨_, rfl, l, _, 2, _, rfl, rfl, SqL.of (s2 _ _ g1), rfl, .inr ⟨_, rfl, l2, _, 0, _, rfl, rfl, SqL.of upd_same, rfl, (by show 1 ≤ sizeLine; decide), fun u hu => ?_⟩⟩
    exact q1 u _ (s2.trans (same_new hu _)) (s2.free hu) upd_same
  | anew =>
    refine iteF ?_
    refine ⟨_, rfl, l, _, 3, _, rfl, rfl, SqL.of g1, rfl, _, rfl, ?_⟩
    refine iteF ?_
    refine ⟨(by show 2 ≤ sizeLine; decide), fun l2 hl2 => ?_⟩
    have s2 := same_new hl2 (.lst [.str "once", .str "anew"])
    refine ⟨_, rfl, l, _, 2, _, rfl, rfl, SqL.of (s2 _ _ g1), rfl, .inr ⟨_, rfl, l2, _, 1, _, rfl, rfl, SqL.of upd_same, rfl, (by show 1 ≤ sizeLine; decide), fun u hu => ?_⟩⟩
    exact q1 u _ (s2.trans (same_new hu _)) (s2.free hu) upd_same
  | sum a t pl =>
    refine iteF ?_
    refine ⟨_, rfl, l, _, 3, _, rfl, rfl, SqL.of g1, rfl, _, rfl, ?_⟩
    refine iteT ?_
    refine ⟨_, rfl, p, c4.c3, dx, _, _, rfl, hd1, DK.cl3, DK.na, su_at, _, rfl, p, c4.c3, dx, _, _, rfl, hd1, DK.cl3, DK.nt, su_times, _, rfl, p, c4.c3, dx, _, _, rfl, hd1, DK.cl3, DK.np, su_plus, (by show 4 ≤ sizeLine; decide), fun u hu => ?_⟩
    exact q1 u _ (same_new hu _) hu upd_same
theorem scDue : FnScope ["_law_specs_here", "_law_told", "_law_numbers", "_law_p", "_law_one"] ["_law_specs_here", "_law_told"] (defScope sDue) := ⟨rfl, rfl, rfl, by decide +kernel, rfl, by decide +kernel, by decide +kernel⟩
theorem ok_due {g1 g2 : Addr} {d1 d2 : FuncData} (F : Fun K "_law_due" "_law_due" sDue f fd) (T : TxtL mg) (cL : Callee P w K mg base 2 "_law_loose" g1 d1 ["_law_specs_here"] spLoose) (cS : Callee P w K mg base 1 "_law_single" g2 d2 ["_law_specs_here", "_law_p"] spSgl) : FnOk P w K mg base CX0 3 f fd ["_law_specs_here", "_law_told"] spDue := by
  refine F.ok scDue (fun vs H Q E h => ?_) (fun cdv A outer s H vs Q E hr h => ?_)
  · obtain ⟨la, lt, us, rows, ts, ds, rfl, _⟩ := h
    rfl
  obtain ⟨la, lt, us, rows, ts, ds, rfl, hla, hu, V1, hlt, ht, q⟩ := h
  have hr1 : Room 1 _ := hr.mono (by decide)
  refine ⟨_, pss_cons (ps_set (i := 2) scDue.nd rfl (Or.inl rfl) (cF cL hr (ac (pv 0) pa_nil)))
    (pss_cons (ps_if (pt_cmpR op_lt (cB call_len_seq T.len PySem.boot_len (ac (pv 1) pa_nil)) (cB call_len_seq T.len PySem.boot_len (ac (pv 2) pa_nil)) (nomark _)) (pss_one (ps_ret (pe_ix ix_list (pv 2) (cB call_len_seq T.len PySem.boot_len (ac (pv 1) pa_nil)) (fun _ _ => rfl)))) pss_nil)
    (pss_cons (ps_if (pt_cmpR op_gt (cB call_len_seq T.len PySem.boot_len (ac (pv 1) pa_nil)) (cB call_len_seq T.len PySem.boot_len (ac (pv 2) pa_nil)) (nomark _)) (pss_one (ps_ret (cB call_len_seq T.len PySem.boot_len (ac (pv 0) pa_nil)))) pss_nil)
    (pss_cons (ps_for PassesOwn.never rfl (pi_zip rfl T.zip (ac (pv 2) (ac (pv 1) pa_nil))) (pg_tup rfl (pgs_cons (pg_name (i := 3) scDue.nd rfl (Or.inl rfl)) (pgs_cons (pg_name (i := 4) scDue.nd rfl (Or.inl rfl)) pgs_nil)))
      (pss_one (ps_if (PW.pt (pw_and (pt_cmpR op_eq (pe_ix ix_tup (pv 4) pe_int (fun _ _ => rfl)) pe_str (nomark _)) (pw_and1 (PW.pt (pw_or (pt_cmpR op_ge (pe_ix ix_tup (pv 4) pe_int (fun _ _ => rfl)) (pv 3) (nomark _)) (pw_or1 (pt_not (pt_val (cF cS hr1 (ac (pv 0) (ac (pe_ix ix_tup (pv 4) pe_int (fun _ _ => rfl)) pa_nil))))))))))) (pss_one (ps_ret (pv 3))) pss_nil)))
    (pss_one (ps_ret pe_non))))), ?_⟩
  have lu : us.length = rows.length := hu.length
  have lp : ts.length = ds.length := ht.length
  refine ⟨_, rfl, la, us, rows, rfl, hla, hu, V1, fun l H1 s1 nl el => ?_⟩
  have lf : (freeN rows).length ≤ 24 := Nat.le_trans (List.length_filter_le _ _) (by rw [List.length_range]; exact V1.l24)
  have hlt1 := s1 _ _ hlt
  refine ⟨_, rfl, lt, _, rfl, .inl (SqL.of hlt1), _, rfl, l, _, rfl, .inl (SqL.of el), _, _, rfl, rfl, _, rfl, ?_⟩
  by_cases h1 : ds.length < (freeN rows).length
  · have h1' : ((ts.map V.ref).length : Int) < (((freeN rows).map fun n => V.int (n : Nat)).length : Int) := by rw [List.length_map, List.length_map]; omega
    refine dT h1' ?_
    have en : (freeN rows)[ds.length]? = some (freeN rows)[ds.length] := List.getElem?_eq_getElem h1
    refine ⟨_, rfl, _, rfl, lt, _, rfl, .inl (SqL.of hlt1), l, _, _, .int ((freeN rows)[ds.length] : Nat), rfl, rfl, SqL.of el, ?_, ?_⟩
    · rw [List.length_map, lp]
      exact atI_nat (by rw [List.getElem?_map, en]; rfl)
    · have := q H1 s1
      unfold dueF at this
      rw [if_pos h1, en] at this
      exact this
  have h1' : ¬ ((ts.map V.ref).length : Int) < (((freeN rows).map fun n => V.int (n : Nat)).length : Int) := by rw [List.length_map, List.length_map]; omega
  refine dF h1' ?_
  refine ⟨_, rfl, lt, _, rfl, .inl (SqL.of hlt1), _, rfl, l, _, rfl, .inl (SqL.of el), _, _, rfl, rfl, _, rfl, ?_⟩
  by_cases h2 : (freeN rows).length < ds.length
  · have h2' : ((ts.map V.ref).length : Int) > (((freeN rows).map fun n => V.int (n : Nat)).length : Int) := by rw [List.length_map, List.length_map]; omega
    refine dT h2' ?_
    refine ⟨_, rfl, la, _, rfl, .inl (SqL.of (s1 _ _ hla)), ?_⟩
    have := q H1 s1
    unfold dueF at this
    rw [if_neg h1, if_pos h2] at this
    rw [List.length_map, lu]
    exact this
  have h2' : ¬ ((ts.map V.ref).length : Int) > (((freeN rows).map fun n => V.int (n : Nat)).length : Int) := by rw [List.length_map, List.length_map]; omega
  refine dF h2' ?_
  have el2 : ds.length = (freeN rows).length := by omega
  have hdue : dueF rows ds = (((freeN rows).zip ds).find? fun p => badL rows p.1 p.2).map (·.1) := by
    unfold dueF
    rw [if_neg h1, if_neg h2]
  refine ⟨_, rfl, _, rfl, l, lt, rfl, ⟨_, SqL.of el⟩, ⟨_, SqL.of hlt1⟩, for_zip (K := K) (a := l) (b := lt) (xs := (freeN rows).map fun n => V.int (n : Nat)) (ys := ts.map V.ref) (fun i σ H' => ∃ v3 v4, σ = [some (.ref la), some (.ref lt), some (.ref l), v3, v4] ∧ Same H1 H' ∧ ∀ j n d, j < i → (freeN rows)[j]? = some n → ds[j]? = some d → badL rows n d = false)
    (by rw [List.length_map, List.length_map]; omega) ⟨_, _, rfl, Same.refl _, fun j _ _ h => absurd h (by omega)⟩ (fun i σ H' _ ⟨_, _, _, sH, _⟩ => ⟨SqL.of (sH _ _ el), SqL.of (sH _ _ hlt1)⟩) ?_ ?_⟩
  · rintro i x y p σ H2 hx hy ⟨v3, v4, rfl, s2, hn⟩ hpn
    obtain ⟨n, hn', rfl⟩ := ints_at hx
    obtain ⟨ta, hta, rfl⟩ := refs_at hy
    obtain ⟨d, hd, hrd⟩ := paired_at ht hta
    have sp := same_new hpn (.tup [.int (n : Nat), .ref ta])
    refine ⟨p, _, rfl, SqT.of upd_same, rfl, _, _, rfl, _, _, rfl, rfl, ?_⟩
    generalize upd H2 p (.tup [.int (n : Nat), .ref ta]) = H3 at sp ⊢
    have s3 := s2.trans sp
    have s13 := s1.trans s3
    have hd3 : H3 ta = some (.tup d.row) := s13 _ _ hrd
    have step : badL rows n d = false → ∀ H4, Same H3 H4 → ∃ v3' v4', ([some (.ref la), some (.ref lt), some (.ref l), some (.int (n : Nat)), some (.ref ta)] : L2.St) = [some (.ref la), some (.ref lt), some (.ref l), v3', v4'] ∧ Same H1 H4 ∧ ∀ j n d, j < i + 1 → (freeN rows)[j]? = some n → ds[j]? = some d → badL rows n d = false := fun hbad H4 s4 => by
      refine ⟨_, _, rfl, s3.trans s4, fun j n' d' hj e1 e2 => ?_⟩
      by_cases e : j = i
      · subst e
        rw [hn'] at e1
        rw [hd] at e2
        cases e1
        cases e2
        exact hbad
      · exact hn j n' d' (by omega) e1 e2
    have stop : badL rows n d = true → ∀ H4, Same H3 H4 → Q (.int (n : Nat)) H4 := fun hbad H4 s4 => by
      have := q H4 (s13.trans s4)
      rw [hdue, zip_find (p := fun p => badL rows p.1 p.2) hn' hd (fun j x' y' hj e1 e2 => hn j x' y' hj e1 e2) hbad] at this
      exact this
    cases d with
    | told _ =>
      refine ⟨_, rfl, ta, _, 0, _, rfl, rfl, SqT.of hd3, rfl, rfl, _, rfl, ?_⟩
      refine dF (by decide +kernel) ?_
      refine iteF ?_
      exact step rfl _ (Same.refl _)
    | once =>
      refine ⟨_, rfl, ta, _, 0, _, rfl, rfl, SqT.of hd3, rfl, rfl, _, rfl, ?_⟩
      refine dF (by decide +kernel) ?_
      refine iteF ?_
      exact step rfl _ (Same.refl _)
    | anew =>
      refine ⟨_, rfl, ta, _, 0, _, rfl, rfl, SqT.of hd3, rfl, rfl, _, rfl, ?_⟩
      refine dF (by decide +kernel) ?_
      refine iteF ?_
      exact step rfl _ (Same.refl _)
    | sum a t pl =>
      refine ⟨_, rfl, ta, _, 0, _, rfl, rfl, SqT.of hd3, rfl, rfl, _, rfl, ?_⟩
      refine dT rfl ?_
      refine ⟨_, rfl, ta, _, 1, _, rfl, rfl, SqT.of hd3, rfl, _, rfl, _, _, rfl, rfl, _, rfl, ?_⟩
      by_cases h3 : (n : Int) ≤ a
      · refine dT h3 ?_
        refine iteT ?_
        exact ⟨_, rfl, stop (by show (decide ((n : Int) ≤ a) || !sglB rows a) = true; rw [decide_eq_true h3]; rfl) _ (Same.refl _)⟩
      refine dF h3 ?_
      refine ⟨_, rfl, _, rfl, ta, _, 1, _, rfl, rfl, SqT.of hd3, rfl, la, a, us, rows, rfl, s13 _ _ hla, tats_same s13 hu, V1, fun H4 s4 => ?_⟩
      refine ⟨_, rfl, ?_⟩
      have eb : badL rows n (.sum a t pl) = !sglB rows a := by
        show (decide ((n : Int) ≤ a) || !sglB rows a) = _
        rw [decide_eq_false h3]
        rfl
      cases hs : sglB rows a with
      | true =>
        refine iteF ?_
        exact step (by rw [eb, hs]; rfl) _ s4
      | false =>
        refine iteT ?_
        exact ⟨_, rfl, stop (by rw [eb, hs]; rfl) _ s4⟩
  · rintro σ H2 ⟨v3, v4, rfl, s2, hn⟩
    rw [List.length_map] at hn
    have := q H2 (s1.trans s2)
    rw [hdue, zip_none (fun j x' y' e1 e2 => hn j x' y' (List.getElem?_eq_some_iff.mp e1).1 e1 e2)] at this
    exact this
end
end K42

set_option Elab.async false
set_option linter.all false
set_option maxRecDepth 100000
set_option maxHeartbeats 4000000
namespace K42
open PySem L2 PyProof.Rows
structure TxtW (mg : Str → Option Value) (oc : Nat → Addr) (CN CE CU : Addr) : Prop where
  isi : mg "isinstance" = none
  ve : mg "ValueError" = none
  nd : mg "NoDefault" = some (.ref CN)
  ce : mg "CallError" = some (.ref CE)
  fu : mg "Function" = some (.ref CU)
  o0 : mg "Again" = some (.ref (oc 0))
  o1 : mg "BadOrder" = some (.ref (oc 1))
  o2 : mg "Barred" = some (.ref (oc 2))
  o3 : mg "Doubled" = some (.ref (oc 3))
  o4 : mg "Lacking" = some (.ref (oc 4))
  o5 : mg "Misfit" = some (.ref (oc 5))
  o6 : mg "NoChange" = some (.ref (oc 6))
  o7 : mg "NoName" = some (.ref (oc 7))
  o8 : mg "NoRow" = some (.ref (oc 8))
  o9 : mg "NoText" = some (.ref (oc 9))
  o10 : mg "Over" = some (.ref (oc 10))
  o11 : mg "Strange" = some (.ref (oc 11))
  o12 : mg "TooMany" = some (.ref (oc 12))
  o13 : mg "Twice" = some (.ref (oc 13))
  o14 : mg "Unknown" = some (.ref (oc 14))
structure SortN (K : PySem.W.Frag) (oc : Nat → Addr) (CN CE : Addr) : Prop where
  ex : ExcCls K CN
  set : XSet K CN
  no : NoAttr K CN "number"
  k1 : PySem.W.kitAny K (.ref CN) ([oc 0, oc 1, oc 2, oc 3, oc 4, oc 5, oc 6, oc 7, oc 8, oc 9, oc 10].map Value.ref) = some false
  k2 : PySem.W.kitAny K (.ref CN) ([oc 11, oc 12, oc 13, oc 14].map Value.ref) = some false
  nd : PySem.W.kitOne K (.ref CN) (.ref CN) = some true
  ve : PySem.W.kitOne K (.ref CN) (.type "ValueError") = some true
  ce : PySem.W.exmOne K (.ref CN) (.ref CE) = some true
abbrev rG (K : PySem.W.Frag) : List V → Hp → VK → Prop := fun xs H Q => ∃ (ea D C : Addr) (b : Bool), xs = [.ref ea, .ref C] ∧ ExcH H ea D ∧ ExcCls K D ∧ PySem.W.kitOne K (.ref D) (.ref C) = some b ∧ Q (.bl b) H
abbrev rGT (K : PySem.W.Frag) : List V → Hp → VK → Prop := fun xs H Q => ∃ (ea D : Addr) (T : String) (b : Bool), xs = [.ref ea, .ty T] ∧ ExcH H ea D ∧ ExcCls K D ∧ PySem.W.kitOne K (.ref D) (.type T) = some b ∧ Q (.bl b) H
abbrev rGs (K : PySem.W.Frag) : List V → Hp → VK → Prop := fun xs H Q => ∃ (ea D tp : Addr) (cs : List Addr) (b : Bool), xs = [.ref ea, .ref tp] ∧ ExcH H ea D ∧ ExcCls K D ∧ H tp = some (.tup (cs.map V.ref)) ∧ PySem.W.kitAny K (.ref D) (cs.map Value.ref) = some b ∧ Q (.bl b) H
def spOther (CN ea : Addr) : Sp := fun vs H Q _ => vs = [.ref ea] ∧ ExcH H ea CN ∧ ∀ H', Same H H' → Q (.bl false) H'
def spMadeU (c : C5) (c4 : C4) (CF CW CU : Addr) : Sp := fun vs H Q _ => ∃ (f ld wa dw : Addr) (n : Int) (rows : List Rw) (bars : List Str) (ps : List Addr) (ds : List Df), vs = [.ref f, .ref ld, .ref wa] ∧ FormAt c CF H f rows bars ∧ VR rows ∧ H ld = some (.lst (ps.map V.ref)) ∧ Paired (DAt c4 H) ps ds ∧ H wa = some (.ins CW dw (wl n)) ∧
  ∀ (vf : V) (t u : Addr) (tv : List V) (nn : Int) (H' : Hp), SX wa H H' → H' wa = some (.ins CW dw (wl nn)) → H' t = some (.tup [vf, .ref u]) → H' u = some (.tup tv) →
    ((dueF rows ds = none ∧ nn = n + (onceN ds : Nat) ∧ ∃ (x D dx : Addr), vf = .ref x ∧ H' x = some (.ins CU dx (uF f wa D))) ∨ ∃ j, dueF rows ds = some j ∧ nn = n ∧ vf = .non ∧ tv = [.int (j : Nat)]) → Q (.ref t) H'
section
variable {P : Program} {w : World} {K : PySem.W.Frag} {mg : Str → Option Value} {base : Heap} {f CF CN CE CW CU DF : Addr} {fd : FuncData} {c : C5} {m : MA} {c4 : C4} {oc : Nat → Addr}
theorem scOther : FnScope ["_law_e"] ["_law_e"] (defScope sOther) := ⟨rfl, rfl, rfl, by decide +kernel, rfl, by decide +kernel, by decide +kernel⟩
theorem ok_other (F : Fun K "_law_other" "_law_other" sOther f fd) (U : TxtW mg oc CN CE CU) (so : SortN K oc CN CE) (ea : Addr) : FnOkH P w K mg base ea 1 f fd ["_law_e"] (spOther CN ea) := by
  refine F.okH scOther (fun vs H Q E h => ?_) (fun cdv A outer s H vs Q hA hr h => ?_)
  · obtain ⟨rfl, _⟩ := h
    rfl
  obtain ⟨rfl, he, q⟩ := h
  refine ⟨_, pss_cons (ps_if (pt_val (cB (r := rGs K) call_isinstGs U.isi boot_isinstance (ac (pv 0) (ac (pe_tup (ac (pe_glob (v := .ref (oc 0)) rfl U.o0 rfl) (ac (pe_glob (v := .ref (oc 1)) rfl U.o1 rfl) (ac (pe_glob (v := .ref (oc 2)) rfl U.o2 rfl) (ac (pe_glob (v := .ref (oc 3)) rfl U.o3 rfl) (ac (pe_glob (v := .ref (oc 4)) rfl U.o4 rfl) (ac (pe_glob (v := .ref (oc 5)) rfl U.o5 rfl) (ac (pe_glob (v := .ref (oc 6)) rfl U.o6 rfl) (ac (pe_glob (v := .ref (oc 7)) rfl U.o7 rfl) (ac (pe_glob (v := .ref (oc 8)) rfl U.o8 rfl) (ac (pe_glob (v := .ref (oc 9)) rfl U.o9 rfl) (ac (pe_glob (v := .ref (oc 10)) rfl U.o10 rfl) pa_nil)))))))))))) pa_nil)))) (pss_one (ps_ret pe_bl)) pss_nil)
    (pss_one (ps_ret (pe_or (cB (r := rGs K) call_isinstGs U.isi boot_isinstance (ac (pv 0) (ac (pe_tup (ac (pe_glob (v := .ref (oc 11)) rfl U.o11 rfl) (ac (pe_glob (v := .ref (oc 12)) rfl U.o12 rfl) (ac (pe_glob (v := .ref (oc 13)) rfl U.o13 rfl) (ac (pe_glob (v := .ref (oc 14)) rfl U.o14 rfl) pa_nil))))) pa_nil))) (pe_one (pe_not (cB (r := rGT K) call_isinstGT U.isi boot_isinstance (ac (pv 0) (ac (pe_bltn (v := .ty "ValueError") rfl U.ve (by decide +kernel : bootBuiltins "ValueError" = some (.type "ValueError")) rfl) pa_nil)))))))), ?_⟩
  refine ⟨_, rfl, (by show 11 ≤ sizeLine; decide), fun tp htp => ?_⟩
  have st := same_new htp (.tup [.ref (oc 0), .ref (oc 1), .ref (oc 2), .ref (oc 3), .ref (oc 4), .ref (oc 5), .ref (oc 6), .ref (oc 7), .ref (oc 8), .ref (oc 9), .ref (oc 10)])
  have gt : upd H tp (.tup [.ref (oc 0), .ref (oc 1), .ref (oc 2), .ref (oc 3), .ref (oc 4), .ref (oc 5), .ref (oc 6), .ref (oc 7), .ref (oc 8), .ref (oc 9), .ref (oc 10)]) tp = some (.tup ([oc 0, oc 1, oc 2, oc 3, oc 4, oc 5, oc 6, oc 7, oc 8, oc 9, oc 10].map V.ref)) := upd_same
  generalize upd H tp (.tup [.ref (oc 0), .ref (oc 1), .ref (oc 2), .ref (oc 3), .ref (oc 4), .ref (oc 5), .ref (oc 6), .ref (oc 7), .ref (oc 8), .ref (oc 9), .ref (oc 10)]) = HT at st gt ⊢
  have he1 := he.same st
  refine ⟨ea, CN, tp, _, false, rfl, he1, so.ex, gt, so.k1, _, rfl, ?_⟩
  refine iteF ?_
  refine ⟨_, rfl, (by show 4 ≤ sizeLine; decide), fun tp2 htp2 => ?_⟩
  have st2 := same_new htp2 (.tup [.ref (oc 11), .ref (oc 12), .ref (oc 13), .ref (oc 14)])
  have gt2 : upd HT tp2 (.tup [.ref (oc 11), .ref (oc 12), .ref (oc 13), .ref (oc 14)]) tp2 = some (.tup ([oc 11, oc 12, oc 13, oc 14].map V.ref)) := upd_same
  generalize upd HT tp2 (.tup [.ref (oc 11), .ref (oc 12), .ref (oc 13), .ref (oc 14)]) = HT2 at st2 gt2 ⊢
  have he2 := he1.same st2
  refine ⟨ea, CN, tp2, _, false, rfl, he2, so.ex, gt2, so.k2, _, rfl, ?_⟩
  refine iteF ?_
  exact ⟨_, rfl, ea, CN, "ValueError", true, rfl, he2, so.ex, so.ve, _, rfl, q _ (st.trans st2)⟩
theorem scLMade : FnScope ["_law_shape", "_law_defaults", "_law_well", "_law_function", "_law_number", "_law_e"] ["_law_shape", "_law_defaults", "_law_well"] (defScope sLMade) := ⟨rfl, rfl, rfl, by decide +kernel, rfl, by decide +kernel, by decide +kernel⟩
theorem ok_lmade {gP g1 : Addr} {eP d1 : FuncData} (F : Fun K "_law_made" "_law_made" sLMade f fd) (U : TxtW mg oc CN CE CU) (so : SortN K oc CN CE) (MP : Mk K CU gP) (GP : FnOk P w K mg base (CXs P w) 4 gP eP ["self", "form", "defaults", "well"] (spUI c c4 CF CN CW CU)) (bP : Binds K eP ["self", "form", "defaults", "well"] [])
    (cO : CalleeH P w K mg base 1 "_law_other" g1 d1 ["_law_e"] (spOther CN)) : FnOk P w K mg base CX0 6 f fd ["_law_shape", "_law_defaults", "_law_well"] (spMadeU c c4 CF CW CU) := by
  refine F.ok scLMade (fun vs H Q E h => ?_) (fun cdv A outer s H vs Q E hr h => ?_)
  · obtain ⟨f, ld, wa, dw, n, rows, bars, ps, ds, rfl, _⟩ := h
    rfl
  obtain ⟨f, ld, wa, dw, n, rows, bars, ps, ds, rfl, hF, V1, hld, hps, hwa, q⟩ := h
  have hr1 : Room 1 _ := hr.mono (by decide)
  refine ⟨_, pss_cons (ps_set (i := 3) scLMade.nd rfl (Or.inl rfl) pe_non)
    (pss_cons (ps_set (i := 4) scLMade.nd rfl (Or.inl rfl) (pe_tup (ac pe_str pa_nil)))
    (pss_cons (ps_tryS rfl rfl
        (ph_asA (i := 5) scLMade.nd rfl rfl rfl U.ce (fun ea => pss_one (ps_if (PW.pt (pw_and (pt_val (cB (r := rG K) call_isinstG U.isi boot_isinstance (ac (pv 5) (ac (pe_glob (v := .ref CN) rfl U.nd rfl) pa_nil)))) (pw_and1 (pt_not (pt_val (cH (ea := ea) cO rfl (hr1.m.mark _) (ac (pv 5) pa_nil)))))))
          (pss_one (ps_set (i := 4) scLMade.nd rfl (Or.inl rfl) (pe_tup (ac (pe_fldCK (K := K) rfl (pv 5) rfl) pa_nil)))) pss_nil)) ph_nil)
      (fun pins σ xe E hp => s1_set (i := 3) scLMade.nd rfl (Or.inl rfl) (p2_make MP GP hr rfl U.fu bP .nil hp (ac (pv 0) (ac (pv 1) (ac (pv 2) pa_nil))))))
    (pss_one (ps_ret (pe_tup (ac (pv 3) (ac (pv 4) pa_nil))))))), ?_⟩
  refine ⟨(by show 1 ≤ sizeLine; decide), fun u0 hu0 => ?_⟩
  have s0 := same_new hu0 (.tup [.str "none"])
  have g0 : upd H u0 (.tup [.str "none"]) u0 = some (.tup [.str "none"]) := upd_same
  dsimp only [gName]
  generalize upd H u0 (.tup [.str "none"]) = H0 at s0 g0 ⊢
  refine ⟨_, rfl, _, rfl, _, rfl, fun x dx hx hdx hne => ?_⟩
  have smk : Same H0 (upd (upd H0 dx (.own x)) x (.ins CU dx [])) := same_make0 hx hdx
  have hx1 : upd (upd H0 dx (.own x)) x (.ins CU dx []) x = some (.ins CU dx []) := upd_same
  generalize upd (upd H0 dx (.own x)) x (.ins CU dx []) = H1 at smk hx1 ⊢
  have s01 := s0.trans smk
  have nx : ∀ b u, H b = some u → b ≠ x := fun b u e => ne_of_none (s0 _ _ e) hx
  refine ⟨x, dx, f, ld, wa, dw, n, rows, bars, ps, ds, rfl, hx1, hF.same s01, V1, s01 _ _ hld, dats_same s01 hps, fun a ha => ?_, s01 _ _ hwa, fun hd H2 sx hw2 hu2 => ?_, fun j hj d H2 s2 hd => ?_⟩
  · obtain ⟨i, hi, e⟩ := List.getElem_of_mem ha
    obtain ⟨d, _, dx', hdx'⟩ := paired_at hps (i := i) (x := a) (by rw [← e]; exact List.getElem?_eq_getElem hi)
    exact nx _ _ hdx'
  · obtain ⟨D, hxU⟩ := hu2
    refine ⟨rfl, ?_⟩
    refine ⟨_, rfl, _, rfl, (by show 2 ≤ sizeLine; decide), fun t ht => ?_⟩
    have s3 := same_new ht (.tup [.ref x, .ref u0])
    have nwu : u0 ≠ wa := fun z => by rw [z, hwa] at hu0; cases hu0
    have nxu : u0 ≠ x := ne_of_none g0 hx
    exact q (.ref x) t u0 _ _ _ (fun b u e nb => s3 _ _ (sx _ _ (s01 _ _ e) (nx _ _ e) nb)) (s3 _ _ hw2) upd_same (s3 _ _ (sx _ _ (smk _ _ g0) nxu nwu)) (.inl ⟨hd, rfl, x, D, dx, rfl, s3 _ _ hxU⟩)
  · refine ⟨CN, rfl, fun tt ea hea => .inl ⟨so.ce, ?_⟩⟩
    have s3 := same_new hea (excC ea CN (some d) tt)
    have e3 : upd H2 ea (excC ea CN (some d) tt) ea = some (excC ea CN (some d) tt) := upd_same
    have hd3 := s3 _ _ hd
    have sA := s01.trans (s2.trans s3)
    generalize upd H2 ea (excC ea CN (some d) tt) = H3 at s3 e3 hd3 sA ⊢
    have he : ExcH H3 ea CN := .inl ⟨_, _, e3⟩
    refine ⟨_, rfl, ea, CN, CN, true, rfl, he, so.ex, so.nd, _, rfl, ?_⟩
    refine iteT ?_
    refine ⟨_, rfl, rfl, he, fun H4 s4 => ⟨_, rfl, ?_⟩⟩
    refine iteT ?_
    refine ⟨_, rfl, ea, CN, tt, d, _, .int (j : Nat), rfl, s4 _ _ e3, s4 _ _ hd3, so.ex, so.set, so.no, rfl, (by show 1 ≤ sizeLine; decide), fun u hu => ?_⟩
    have s5 := same_new hu (.tup [.int (j : Nat)])
    refine ⟨_, rfl, _, rfl, (by show 2 ≤ sizeLine; decide), fun t ht => ?_⟩
    have s6 := same_new ht (.tup [.non, .ref u])
    have sE := sA.trans (s4.trans (s5.trans s6))
    exact q .non t u _ _ _ (fun b' u' e _ => sE _ _ e) (sE _ _ hwa) upd_same (s6 _ _ upd_same) (.inr ⟨j, hj, rfl, rfl, rfl⟩)
end
end K42

set_option Elab.async false
set_option linter.all false
set_option maxRecDepth 100000
set_option maxHeartbeats 4000000
namespace L2
open PySem PySem.Spec PyProof.Rows
def rNeI : R2 := fun x y H Q => ∃ (a b : Addr) (ps : List Addr), x = .ref a ∧ y = .ref b ∧ H a = some (.lst (ps.map V.ref)) ∧ H b = some (.lst (ps.map V.ref)) ∧ Q (.bl false) H
theorem op_neI {X : Cx} (hu : X.A.units < cLine) : OpR X (compareOp .NotEq) rNeI := by
  intro pins s σ H x y v u Q I rx ry h
  obtain ⟨a, b, ps, rfl, rfl, ha, hb, q⟩ := h
  cases rx; cases ry
  obtain ⟨ia, va, pa, _⟩ := I.list (SqL.of ha)
  obtain ⟨ib, vb, pb, _⟩ := I.list (SqL.of hb)
  have ea := vals_refs va
  have eb := vals_refs vb
  subst ea
  subst eb
  have t2 := SeqAt.RcNeAt.lists (A := X.A) (s := s) (e := fun _ => true) pa.isList pb.isList rfl hu (fun j h1 h2 => SeqAt.EqAt.same _)
  rw [all_true] at t2
  exact t2 X.prog X.w X.xe _ ⟨.bl false, H, I, rfl, q⟩
theorem passSF {P : Program} {w : World} {X : Cx} : Passes (CXs P w) X (fun _ _ _ => False) := fun pins σ H1 s1 e s' I q => by
  obtain ⟨_, _, _, _, _, _, _, q⟩ := q
  exact q.elim
theorem lc_mapV {β : Type} {K : PySem.W.Frag} {a : Addr} {xs : List V} {bs : List β} {caps : List (Option Nat)} {g : TG} {tt : TT} {te : TE} {σ : L2.St} {H1 : Hp} {Q : VK} {D : Addr} (R' : Hp → Addr → β → Prop)
    (sR' : ∀ {H H' v r}, R' H v r → Same H H' → R' H' v r) (uR' : ∀ {H v r D ys o}, R' H v r → H D = some (.lst ys) → R' (upd H D o) v r)
    (ha : SqL K H1 a xs) (hl : xs.length = bs.length) (hn : bs.length ≤ 500) (hD : H1 D = none)
    (hs : ∀ (i : Nat) x b H (Qf : VK) (Qs : Hp → Prop), xs[i]? = some x → bs[i]? = some b → Same H1 H → (∀ v H', Same H H' → R' H' v b → Qf (.ref v) H') →
      g x (capS caps σ) H fun σ2 H2 => tt σ2 H2 fun ok H3 => (ok = true → te σ2 H3 Qf) ∧ (ok = false → Qs H3))
    (hd : ∀ vs H, Same H1 H → H D = some (.lst (vs.map V.ref)) → Paired (R' H) vs bs → Q (.ref D) H) : LCr (Itl K a) caps g tt te σ H1 Q D := by
  refine lc_list (K := K) (xs := xs) (fun i ys H' => ∃ vs, ys = vs.map V.ref ∧ Same H1 H' ∧ H' D = some (.lst ys) ∧ Paired (R' H') vs (bs.take i)) ⟨[], rfl, same_new hD _, upd_same, .nil⟩ (fun i ys H' ⟨_, _, h, _⟩ => h.seq ha) ?_ ?_
  · rintro i x ys H' hlt hx ⟨vs, rfl, sH, hDy, fv⟩
    have hi : i < bs.length := by omega
    have hb : bs[i]? = some bs[i] := List.getElem?_eq_getElem hi
    have nl : (vs.map V.ref).length ≤ i := by
      rw [List.length_map, fv.length, List.length_take]
      omega
    refine hs i x _ H' _ _ hx hb sH (fun v H2 s2 r2 => ?_)
    have s3 : Same H1 (upd H2 D (.lst (vs.map V.ref ++ [.ref v]))) := fun b o z => by
      rw [upd_ne (ne_of_none z hD)]
      exact s2 _ _ (sH b o z)
    refine lcN.mk hlt (Nat.le_of_lt (small1000 (by omega))) (s2 _ _ hDy) nl ⟨vs ++ [v], by rw [List.map_append]; rfl, s3, upd_same, ?_⟩
    rw [List.take_succ_eq_append_getElem hi]
    exact Paired.snoc (Paired.imp' (fun w r' z => uR' (sR' z s2) (s2 _ _ hDy)) fv) (uR' r2 (s2 _ _ hDy))
  · rintro ys H ⟨vs, rfl, sH, hDy, fv⟩
    rw [hl, List.take_length] at fv
    exact hd vs H sH hDy fv
end L2
namespace K42
open PySem L2 PyProof.Rows
theorem cut_len {xs : List V} {i j : Nat} : (cutV xs (some (i : Int)) (some (j : Int))).length ≤ j - i := by
  unfold cutV
  rw [HT.sIx_nat, HT.sIx_nat, List.length_take]
  omega
theorem cut_ints (ns : List Int) (lo hi : Option Int) : ∃ ms : List Int, cutV (ns.map V.int) lo hi = ms.map V.int := by
  refine ⟨(ns.drop (HT.sIx ns.length 0 lo)).take (HT.sIx ns.length ns.length hi - HT.sIx ns.length 0 lo), ?_⟩
  unfold cutV
  rw [List.length_map, List.map_take, List.map_drop]
/-! ### what is told -/
def rowD (k : Nat) (z : Str) (b : Bool) : List Dt := match k with
  | 0 => [.str "seat", .str z, .bl b] | 1 => [.str "both", .str z, .bl b] | 2 => [.str "tail", .str z] | 3 => [.str "tag", .str z, .bl b] | _ => [.str "bag", .str z]
section
variable {K : PySem.W.Frag} {ok : Addr → Prop} {H : Hp} {n : Nat}
theorem row_says {k : Nat} {z : Str} {b : Bool} (h : k < 5) : Paired (Says K ok H n) (rowV k (.str z) b) (rowD k z b) := by
  rcases lt5 h with rfl | rfl | rfl | rfl | rfl
  · exact .cons Says.str (.cons Says.str (.cons Says.bl .nil))
  · exact .cons Says.str (.cons Says.str (.cons Says.bl .nil))
  · exact .cons Says.str (.cons Says.str .nil)
  · exact .cons Says.str (.cons Says.str (.cons Says.bl .nil))
  · exact .cons Says.str (.cons Says.str .nil)
def rowsD (rows : List Rw) : List Dt := rows.map fun r => .tup (rowD r.k r.z r.b)
def barsD (bars : List Str) : List Dt := bars.map fun z => .str z
theorem says_rows {us : List Addr} {rows : List Rw} (h : Paired (TAt H) us rows) : (∀ r ∈ rows, r.ok) → Paired (Says K ok H (n + 1)) (us.map V.ref) (rowsD rows) := by
  induction h with
  | nil => intro _; exact .nil
  | cons r t ih => exact fun hok => .cons (Says.tup (SqT.of r) (row_says (hok _ List.mem_cons_self).1)) (ih fun r' h' => hok r' (List.mem_cons_of_mem _ h'))
theorem says_bars : ∀ bars : List Str, Paired (Says K ok H n) (bars.map V.str) (barsD bars)
  | [] => .nil
  | z :: zs => .cons Says.str (says_bars zs)
theorem says_told {t l1 l2 : Addr} {us : List Addr} {rows : List Rw} {bars : List Str} (ht : H t = some (.tup [.ref l1, .ref l2])) (h1 : H l1 = some (.lst (us.map V.ref))) (hu : Paired (TAt H) us rows) (hok : ∀ r ∈ rows, r.ok) (h2 : H l2 = some (.lst (bars.map V.str))) :
    Says K (fun _ => True) H 3 (.ref t) (.tup [.lst (rowsD rows), .lst (barsD bars)]) :=
  Says.tup (SqT.of ht) (.cons (Says.lst True.intro h1 (says_rows hu hok)) (.cons (Says.lst True.intro h2 (says_bars bars)) .nil))
def Df.dt : Df → Dt
  | .told n => .tup [.str "told", .int n] | .once => .tup [.str "once"] | .anew => .tup [.str "anew"] | .sum a t p => .tup [.str "sum", .int a, .int t, .int p]
theorem df_says {u : Addr} {d : Df} (h : RAt H u d) : Says K ok H (n + 1) (.ref u) d.dt := by
  have h' : H u = some (.tup d.row) := h
  cases d with
  | told m => exact Says.tup (SqT.of h') (.cons Says.str (.cons Says.int .nil))
  | once => exact Says.tup (SqT.of h') (.cons Says.str .nil)
  | anew => exact Says.tup (SqT.of h') (.cons Says.str .nil)
  | sum a t p => exact Says.tup (SqT.of h') (.cons Says.str (.cons Says.int (.cons Says.int (.cons Says.int .nil))))
theorem dfs_says {us : List Addr} {ds : List Df} (h : Paired (RAt H) us ds) : Paired (Says K ok H (n + 1)) (us.map V.ref) (ds.map Df.dt) := by
  induction h with
  | nil => exact .nil
  | cons r t ih => exact .cons (df_says r) ih
end
theorem RAt.upd {H : Hp} {v D : Addr} {r : Df} {ys : List V} {o : HO} (h : RAt H v r) (hD : H D = some (.lst ys)) : RAt (upd H D o) v r := by
  show L2.upd H D o v = _
  rw [upd_ne (fun e => by rw [e] at h; rw [RAt, hD] at h; cases h)]
  exact h
theorem DAt.upd {c : C4} {H : Hp} {v D : Addr} {r : Df} {ys : List V} {o : HO} (h : DAt c H v r) (hD : H D = some (.lst ys)) : DAt c (upd H D o) v r := by
  obtain ⟨dx, h⟩ := h
  refine ⟨dx, ?_⟩
  rw [upd_ne (fun e => by rw [e, hD] at h; cases h)]
  exact h
theorem PAt.upd {c : C5} {H : Hp} {v D : Addr} {r : Rw} {ys : List V} {o : HO} (h : PAt c H v r) (hD : H D = some (.lst ys)) : PAt c (upd H D o) v r := by
  obtain ⟨dx, h⟩ := h
  refine ⟨dx, ?_⟩
  rw [upd_ne (fun e => by rw [e, hD] at h; cases h)]
  exact h
theorem tolds_due {rows : List Rw} : dueF rows ((freeN rows).map fun n => Df.told (n : Nat)) = none := by
  unfold dueF
  rw [List.length_map, if_neg (Nat.lt_irrefl _), if_neg (Nat.lt_irrefl _), zip_none (fun j x' y' _ e => ?_)]
  · rfl
  · rw [List.getElem?_map] at e
    cases h : (freeN rows)[j]? with
    | none => rw [h] at e; cases e
    | some v => rw [h] at e; cases e; rfl
theorem tolds_once (ns : List Nat) : onceN (ns.map fun n => Df.told (n : Nat)) = 0 := by
  unfold onceN
  rw [List.length_eq_zero_iff, List.filter_eq_nil_iff]
  intro d hd
  obtain ⟨n, _, rfl⟩ := List.mem_map.mp hd
  exact fun e => Bool.noConfusion (show false = true from e)
def spLawU (K : PySem.W.Frag) : Sp := fun vs H Q _ => ∃ (a : Addr) (ns : List Int), vs = [.ref a] ∧ SqL K H a (ns.map V.int) ∧ ns.length ≤ 63 ∧ ∀ H', Q (.bl true) H'
end K42

set_option Elab.async false
set_option linter.all false
set_option maxRecDepth 100000
set_option maxHeartbeats 4000000
namespace K42
open PySem L2 PyProof.Rows
abbrev rLenK (K : PySem.W.Frag) : List V → Hp → VK → Prop := fun xs H Q => ∃ p ys, xs = [.ref p] ∧ (SqL K H p ys ∨ SqT K H p ys) ∧ Q (.int (ys : List V).length) H
section
variable {P : Program} {w : World} {K : PySem.W.Frag} {mg : Str → Option Value} {base : Heap} {f CF CW CU DF N : Addr} {fd : FuncData} {c : C5} {m : MA} {c4 : C4}
theorem ndKSS : ([Str.ofString "_law_k", Str.ofString "_law_script", Str.ofString "_law_specs_here"] : List Str).Nodup := by decide +kernel
theorem ndKS : ([Str.ofString "_law_k", Str.ofString "_law_script"] : List Str).Nodup := by decide +kernel
theorem ndK1 : ([Str.ofString "_law_k"] : List Str).Nodup := by decide +kernel
theorem scLaw : FnScope ["_law_script", "_law_pool_here", "_law_specs_here", "_law_first", "_law_size", "_law_told", "_law_shut", "_law_shape", "_law_defaults", "_law_kept", "_law_well", "_law_function", "_law_number", "_law_due_here"] ["_law_script"] (defScope sLaw) := ⟨rfl, rfl, rfl, by decide +kernel, rfl, by decide +kernel, by decide +kernel⟩
theorem ok_law {f1 f2 f3 f4 f5 f6 f7 f8 f9 f10 f11 f12 f13 f14 gF gT gW gA gU gUF gTo : Addr} {e1 e2 e3 e4 e5 e6 e7 e8 e9 e10 e11 e12 e13 e14 eF eT eW eA eU eUF eTo : FuncData} {CN : Addr} (F : Fun K "law" "law" sLaw f fd) (T : TxtL mg)
    (cN : Callee P w K mg base 1 "_law_nth" f1 e1 ["_law_script", "_law_k"] (spNthB K)) (cPo : Callee P w K mg base 2 "_law_pool" f2 e2 ["_law_cell"] (spPool K)) (cSp : Callee P w K mg base 1 "_law_specs" f3 e3 ["_law_cells", "_law_pool_here"] (spSpecs K)) (cTh : Callee P w K mg base 1 "_law_thing" f4 e4 ["_law_cell"] spThg)
    (cLo : Callee P w K mg base 2 "_law_loose" f5 e5 ["_law_specs_here"] spLoose) (cDr : Callee P w K mg base 2 "_law_drawn" f6 e6 ["_law_cell", "_law_many"] spDrawn) (cMi : Callee P w K mg base 1 "_law_mix" f7 e7 ["_law_cell", "_law_k"] spMix) (cBa : Callee P w K mg base 1 "_law_bars" f8 e8 ["_law_cells", "_law_pool_here", "_law_specs_here"] (spLBars K))
    (cPf : CalleeE P w K mg base 5 "parameter_of" f9 e9 ["told"] (spPof K c N)) (cDe : Callee P w K mg base 3 "_law_default" f10 e10 ["_law_told"] (spDef K c4)) (cRe : Callee P w K mg base 1 "_law_read" f11 e11 ["_law_one"] (spRead c4)) (cMa : Callee P w K mg base 6 "_law_made" f12 e12 ["_law_shape", "_law_defaults", "_law_well"] (spMadeU c c4 CF CW CU))
    (cDu : Callee P w K mg base 3 "_law_due" f13 e13 ["_law_specs_here", "_law_told"] spDue) (cNu : Callee P w K mg base 1 "_law_is_number" f14 e14 ["_law_found"] spOneI)
    (mCF : mg "Form" = some (.ref CF)) (MF : Mk K CF gF) (GF : FnOk P w K mg base CX0 3 gF eF ["self", "parameters", "bars"] (spFI c CF)) (bF : Binds K eF ["self", "parameters", "bars"] []) (FK : FC K CF) (mT : Meth K CF "told" gT) (GT : FnOk P w K mg base CX0 3 gT eT ["self"] (spFTold c CF)) (bT : Binds K eT ["self"] [])
    (WC : WellC K mg CW) (UW : Ctor P w K mg base CX0 1 "Well" CW gW eW ["self", "first"] [] (spInit CW)) (mA : Meth K CW "ahead" gA) (GA : FnOk P w K mg base CX0 1 gA eA ["self"] (spAhead CW)) (bA : Binds K eA ["self"] [])
    (mCU : mg "Function" = some (.ref CU)) (MU : Mk K CU gU) (GU : FnOk P w K mg base (CXs P w) 4 gU eU ["self", "form", "defaults", "well"] (spUI c c4 CF CN CW CU)) (bU : Binds K eU ["self", "form", "defaults", "well"] []) (UK : UC K CU) (mUF : Meth K CU "form" gUF) (GUF : FnOk P w K mg base CX0 1 gUF eUF ["self"] (spUF CU)) (bUF : Binds K eUF ["self"] [])
    (UT : Ctor P w K mg base CX0 1 "Told" c4.c0 gTo eTo ["self", "number"] [] (spD1 c4.c0)) : FnOk P w K mg base CX0 7 f fd ["_law_script"] (spLawU K) := by
  refine F.ok scLaw (fun vs H Q E h => ?_) (fun cdv A outer s H vs Q E hr h => ?_)
  · obtain ⟨a, ns, rfl, _⟩ := h
    rfl
  obtain ⟨sa, ns, rfl, hS, h63, q⟩ := h
  have hr1 : Room 1 _ := hr.mono (by decide)
  have hr2 : Room 2 _ := hr.mono (by decide)
  have hr3 : Room 3 _ := hr.mono (by decide)
  have hr4 : Room 4 _ := hr.mono (by decide)
  have hr5 : Room 5 _ := hr.mono (by decide)
  have hU := hr.units
  have hU0 : (A.deeper (envOfC "law" (defScope sLaw) s.heap.objs.size f cdv)).units < cLine := by omega
  refine ⟨_, pss_cons (ps_set (i := 1) scLaw.nd rfl (Or.inl rfl) (cF cPo hr2 (ac (cF cN hr1 (ac (pv 0) (ac pe_int pa_nil))) pa_nil)))
    (pss_cons (ps_set (i := 2) scLaw.nd rfl (Or.inr rfl) (cF cSp hr1 (ac (pe_slice sl_list (pv 0) (po_some pe_int) (po_some pe_int)) (ac (pv 1) pa_nil))))
    (pss_cons (ps_set (i := 3) scLaw.nd rfl (Or.inl rfl) (cF cTh hr1 (ac (cF cN hr1 (ac (pv 0) (ac pe_int pa_nil))) pa_nil)))
    (pss_cons (ps_set (i := 4) scLaw.nd rfl (Or.inl rfl) (cB (call_max2 rfl) T.max boot_max (ac pe_int (ac (pe_op op_add (cB call_len_seq T.len PySem.boot_len (ac (cF cLo hr2 (ac (pv 2) pa_nil)) pa_nil)) (pe_ix ix_list (pe_lst (ac pe_int (ac pe_int (ac pe_int (ac pe_int (ac (pe_un un_neg pe_int) (ac pe_int (ac pe_int pa_nil)))))))) (pe_op op_mod (cF cN hr1 (ac (pv 0) (ac pe_int pa_nil))) pe_int) (fun _ _ => rfl))) pa_nil))))
    (pss_cons (ps_lc (i := 5) ["_law_specs_here", "_law_script"] ["_law_k", "_law_script", "_law_specs_here"] [none, some 0, some 2] scLaw.nd rfl (Or.inl rfl) rfl ⟨rfl, rfl, rfl, rfl⟩ (pi_range1 rfl T.range (ac (pv 4) pa_nil)) (gown_name 0) rfl rfl rfl
      (fun pins fp s H C => ⟨pg_name (i := 0) ndKSS rfl (Or.inl rfl) (.inr rfl), pif_nil, cF cDr hr2 (ac (cF cMi hr1 (ac (cF cN hr1 (ac (pv 1) (ac (pe_op op_add pe_int (pe_op op_mod (pv 0) pe_int)) pa_nil))) (ac (pv 0) pa_nil))) (ac (cB (r := rLenK K) call_len_seq T.len PySem.boot_len (ac (pv 2) pa_nil)) pa_nil))⟩))
    (pss_cons (ps_set (i := 6) scLaw.nd rfl (Or.inl rfl) (cF cBa hr1 (ac (pe_lc ["_law_script"] ["_law_k", "_law_script"] [none, some 0] rfl ⟨rfl, rfl, rfl, rfl⟩ (pi_range1 rfl T.range (ac (pe_op op_mod (pe_op op_fdiv (cF cN hr1 (ac (pv 0) (ac pe_int pa_nil))) pe_int) pe_int) pa_nil)) (gown_name 0) rfl rfl rfl
      (fun pins fp s H C => ⟨pg_name (i := 0) ndKS rfl (Or.inl rfl) (.inr rfl), pif_nil, pe_op op_fdiv (cF cN hr1 (ac (pv 1) (ac (pv 0) pa_nil))) pe_int⟩)) (ac (pv 1) (ac (pv 2) pa_nil)))))
    (pss_cons (ps_set (i := 7) scLaw.nd rfl (Or.inl rfl) (pe_make MF GF hr4 rfl mCF bF .nil pass0 (ac (pe_lc [] ["_law_one"] [none] rfl ⟨rfl, rfl, rfl, rfl⟩ (pi_list (pv 2)) (gown_name 0) rfl rfl rfl
      (fun pins fp s H C => ⟨pg_name (i := 0) ndOne rfl (Or.inl rfl) (.inr rfl), pif_nil, cE (E := fun _ _ _ => False) cPf passF hr5 (ac (pv 0) pa_nil)⟩)) (ac (pv 6) pa_nil))))
    (pss_cons (ps_lc (i := 8) [] ["_law_one"] [none] scLaw.nd rfl (Or.inl rfl) rfl ⟨rfl, rfl, rfl, rfl⟩ (pi_list (pv 5)) (gown_name 0) rfl rfl rfl
      (fun pins fp s H C => ⟨pg_name (i := 0) ndOne rfl (Or.inl rfl) (.inr rfl), pif_nil, cF cDe hr3 (ac (pv 0) pa_nil)⟩))
    (pss_cons (ps_if (pt_cmpR (op_neS hU) (pe_lc [] ["_law_one"] [none] rfl ⟨rfl, rfl, rfl, rfl⟩ (pi_list (pv 8)) (gown_name 0) rfl rfl rfl
      (fun pins fp s H C => ⟨pg_name (i := 0) ndOne rfl (Or.inl rfl) (.inr rfl), pif_nil, cF cRe hr1 (ac (pv 0) pa_nil)⟩)) (pv 5) (nomark _)) (pss_one (ps_ret pe_bl)) pss_nil)
    (pss_cons (ps_set (i := 9) scLaw.nd rfl (Or.inl rfl) (cTy call_list_of T.list PyProof.Rows.boot_list (ac (pv 8) pa_nil)))
    (pss_cons (ps_set (i := 10) scLaw.nd rfl (Or.inl rfl) (cMk UW .nil pass0 hr2 (ac (pv 3) pa_nil)))
    (pss_cons (ps_asg (cF cMa hr (ac (pv 7) (ac (pv 8) (ac (pv 10) pa_nil)))) (pg_tup rfl (pgs_cons (pg_name (i := 11) scLaw.nd rfl (Or.inl rfl)) (pgs_cons (pg_name (i := 12) scLaw.nd rfl (Or.inl rfl)) pgs_nil))))
    (pss_cons (ps_set (i := 13) scLaw.nd rfl (Or.inl rfl) (cF cDu hr3 (ac (pv 2) (ac (pv 5) pa_nil))))
    (pss_cons (ps_if (PW.pt (pw_or (pt_cmpR (op_neI hU0) (pv 8) (pv 9) (nomark _)) (pw_or1 (pt_cmpR (op_neS hU) (pe_meth0 (pv 7) FK.cl mT GT hr3 bT .nil pass0) (pe_tup (ac (pv 2) (ac (pv 6) pa_nil))) (nomark _))))) (pss_one (ps_ret pe_bl)) pss_nil)
    (pss_cons (ps_expr (pe_bm0 PySem.F.plainAttrs_list PySem.F.slot_list_clear PySem.F.type_list_clear mt_clear (pv 8)))
    (pss_cons (ps_if (pt_cmp (pc_notN (pv 13)))
      (pss_cons (ps_if (PW.pt (pw_or (pt_cmp (pc_notN (pv 11))) (pw_or (pt_not (pt_val (cF cNu hr1 (ac (pe_ix ix_tup (pv 12) pe_int (fun _ _ => rfl)) pa_nil)))) (pw_or (pt_cmpR (op_neS hU) (pv 12) (pe_tup (ac (pv 13) pa_nil)) (nomark _)) (pw_or1 (pt_cmpR op_ne (pe_meth0 (pv 10) WC.cl mA GA hr1 bA .nil pass0) (pv 3) (nomark _))))))) (pss_one (ps_ret pe_bl)) pss_nil)
      (pss_cons (ps_set (i := 11) scLaw.nd rfl (Or.inl rfl) (pe_make (E := fun _ _ _ => False) MU GU hr5 rfl mCU bU .nil passSF (ac (pv 7) (ac (pe_lc [] ["_law_k"] [none] rfl ⟨rfl, rfl, rfl, rfl⟩ (pi_list (cF cLo hr2 (ac (pv 2) pa_nil))) (gown_name 0) rfl rfl rfl
        (fun pins fp s H C => ⟨pg_name (i := 0) ndK1 rfl (Or.inl rfl) (.inr rfl), pif_nil, cMk UT .nil pass0 hr2 (ac (pv 0) pa_nil)⟩)) (ac (pv 10) pa_nil)))))
      (pss_one (ps_set (i := 5) scLaw.nd rfl (Or.inl rfl) (pe_lst pa_nil))))) pss_nil)
    (pss_cons (ps_if (PW.pt (pw_or (pt_cmp (pc_isN (pv 11))) (pw_or1 (pt_cmpR (op_neS hU) (pe_meth0 (pe_meth0 (pv 11) UK.cl mUF GUF hr1 bUF .nil pass0) FK.cl mT GT hr3 bT .nil pass0) (pe_tup (ac (pv 2) (ac (pv 6) pa_nil))) (nomark _))))) (pss_one (ps_ret pe_bl)) pss_nil)
    (pss_one (ps_ret (pe_cmpR op_eq (pe_meth0 (pv 10) WC.cl mA GA hr1 bA .nil pass0) (pe_op op_add (pv 3) (cB call_len_seq T.len PySem.boot_len (ac (pe_lc [] ["_law_one"] [none] rfl ⟨rfl, rfl, rfl, rfl⟩ (pi_list (pv 5)) (gown_name 0) rfl rfl rfl
      (fun pins fp s H C => ⟨pg_name (i := 0) ndOne rfl (Or.inl rfl) (.inr rfl), pif_one (pt_cmpR op_eq (pe_ix (r := rIxT K) ix_tup (pv 0) pe_int (fun _ _ => rfl)) pe_str (nomark _)), pv 0⟩)) pa_nil))) (nomark _)))))))))))))))))))), ?_⟩
  refine ⟨_, rfl, sa, ns, 0, rfl, hS, fun c0 => ⟨c0, rfl, fun pa zs H1 s1 npa hpa znd znm z0 z12 => ?_⟩⟩
  -- the row
  refine ⟨_, rfl, _, rfl, _, rfl, sa, _, rfl, s1.seq hS, fun p2 hp2 => ?_⟩
  obtain ⟨ms, em⟩ := cut_ints ns (some ((7 : Nat) : Int)) (some ((27 : Nat) : Int))
  have lm := cut_len (xs := ns.map V.int) (i := 7) (j := 27)
  rw [em, List.length_map] at lm
  rw [show cutV (ns.map V.int) (some 7) (some 27) = ms.map V.int from em]
  have s2 := same_new hp2 (.lst (ms.map V.int))
  have g2 : upd H1 p2 (.lst (ms.map V.int)) p2 = some (.lst (ms.map V.int)) := upd_same
  generalize upd H1 p2 (.lst (ms.map V.int)) = H2 at s2 g2 ⊢
  refine ⟨_, rfl, p2, pa, ms, zs, rfl, SqL.of g2, lm, s2 _ _ hpa, z0, znm, fun la us rows H3 s3 nla hla hu V1 => ?_⟩
  have s13 := s1.trans (s2.trans s3)
  have hpa3 := s3 _ _ (s2 _ _ hpa)
  have lu : us.length = rows.length := hu.length
  have l24 := V1.l24
  clear g2 hp2 em lm
  refine ⟨_, rfl, sa, ns, 1, rfl, s13.seq hS, fun c1 => ⟨c1, rfl, fun first => ?_⟩⟩
  -- the size
  refine ⟨_, rfl, la, us, rows, rfl, hla, hu, V1, fun ll H4 s4 nll ell => ?_⟩
  have lf : (freeN rows).length ≤ 24 := Nat.le_trans (List.length_filter_le _ _) (by rw [List.length_range]; exact V1.l24)
  have s14 := s13.trans s4
  refine ⟨ll, _, rfl, .inl (SqL.of ell), ?_⟩
  refine ⟨_, rfl, (by show 7 ≤ sizeLine; decide), fun l5 hl5 => ?_⟩
  have s5 := same_new hl5 (.lst [.int 0, .int 0, .int 0, .int 0, .int (-1), .int 1, .int 2])
  have g5 : upd H4 l5 (.lst [.int 0, .int 0, .int 0, .int 0, .int (-1), .int 1, .int 2]) l5 = some (.lst [.int 0, .int 0, .int 0, .int 0, .int (-1), .int 1, .int 2]) := upd_same
  generalize upd H4 l5 (.lst [.int 0, .int 0, .int 0, .int 0, .int (-1), .int 1, .int 2]) = H5 at s5 g5 ⊢
  have s15 := s14.trans s5
  refine ⟨_, rfl, sa, ns, 2, rfl, s15.seq hS, fun c2 => ?_⟩
  have m0 : 0 ≤ c2 % 7 := Int.emod_nonneg _ (by decide)
  have m1 : c2 % 7 < 7 := Int.emod_lt_of_pos _ (by decide)
  obtain ⟨x, hxm, hx, _⟩ := atI_pos (xs := ([.int 0, .int 0, .int 0, .int 0, .int (-1), .int 1, .int 2] : List V)) m0 m1
  obtain ⟨e, rfl, he0, he1⟩ : ∃ e : Int, x = .int e ∧ -1 ≤ e ∧ e ≤ 2 := by
    simp only [List.mem_cons, List.not_mem_nil, or_false] at hxm
    rcases hxm with rfl | rfl | rfl | rfl | rfl | rfl | rfl
    all_goals exact ⟨_, rfl, by decide, by decide⟩
  refine ⟨_, _, rfl, rfl, (by show (0 : Int) < 7; decide), l5, _, _, .int e, rfl, rfl, SqL.of g5, hx, _, _, rfl, rfl, _, _, rfl, ?_⟩
  rw [List.length_map]
  obtain ⟨size, hsz⟩ : ∃ size : Nat, (if ((freeN rows).length : Int) + e > 0 then ((freeN rows).length : Int) + e else 0) = (size : Int) := by
    split
    · exact ⟨(((freeN rows).length : Int) + e).toNat, by omega⟩
    · exact ⟨0, rfl⟩
  have hsl : size ≤ 26 := by
    split at hsz <;> omega
  rw [hsz]
  have hla5 := (s4.trans s5) _ _ hla
  have hu5 := tats_same (s4.trans s5) hu
  have hpa5 := (s4.trans s5) _ _ hpa3
  clear hla hu hpa3 ell nll g5 hl5 hx hxm hpa
  -- what is told
  refine ⟨_, rfl, (size : Int), rfl, by omega, (by show (size : Int) < _; omega), fun D6 hD6 => ?_⟩
  rw [Int.toNat_natCast]
  refine lc_range (n := size) (fun i ys H' => ∃ (ts : List Addr) (ds : List Df), ys = ts.map V.ref ∧ ts.length = i ∧ Same H5 H' ∧ H' D6 = some (.lst ys) ∧ Paired (RAt H') ts ds) ⟨[], [], rfl, rfl, same_new hD6 _, upd_same, .nil⟩ ?_ ?_
  · rintro i ys H' hi ⟨ts, ds, rfl, hlen, sH, hDy, hp⟩
    refine ⟨fun _ => ?_, fun e => Bool.noConfusion e⟩
    have b0 : (0 : Int) ≤ (0 + (i : Int)) % 4 := Int.emod_nonneg _ (by decide)
    obtain ⟨kk, hkk⟩ := Int.eq_ofNat_of_zero_le (show (0 : Int) ≤ 3 + (0 + (i : Int)) % 4 by omega)
    refine ⟨_, rfl, _, rfl, _, _, rfl, rfl, (by show (0 : Int) < 4; decide), _, _, rfl, rfl, sa, ns, kk, (by show [V.ref sa, V.int (3 + (0 + (i : Int)) % 4)] = _; rw [hkk]), sH.seq (s15.seq hS), fun c3 => ?_⟩
    refine ⟨_, rfl, c3, i, (by rw [Int.zero_add]; rfl), by omega, fun mm _ _ => ?_⟩
    refine ⟨_, rfl, la, _, rfl, .inl (SqL.of (sH _ _ hla5)), mm, rows.length, (by rw [List.length_map, lu]; rfl), l24, fun u d H2 s2' nu eu => ?_⟩
    have nuD : u ≠ D6 := fun z => by rw [z, hDy] at nu; cases nu
    refine lcN.mk hi (le1000 (by omega)) (s2' _ _ hDy) (by rw [List.length_map]; omega) ⟨ts ++ [u], ds ++ [d], by rw [List.map_append]; rfl, by rw [List.length_append]; simp; omega, fun b' u' e => ?_, upd_same, ?_⟩
    · rw [upd_ne (ne_of_none e hD6)]
      exact s2' _ _ (sH _ _ e)
    · refine Paired.snoc (Paired.imp' (fun v r' z => RAt.upd (s2' _ _ z) (s2' _ _ hDy)) hp) (RAt.upd eu (s2' _ _ hDy))
  rintro ys H6 ⟨ts, ds, rfl, hlen, s6, hlt, hts⟩
  have lds : ds.length = size := by rw [← hts.length, hlen]
  have s16 := s15.trans s6
  have hla6 := s6 _ _ hla5
  have hu6 := tats_same s6 hu5
  have hpa6 := s6 _ _ hpa5
  -- the bars
  refine ⟨_, rfl, sa, ns, 0, rfl, s16.seq hS, fun c4' => ?_⟩
  have b0 : (0 : Int) ≤ c4' / 2 % 4 := Int.emod_nonneg _ (by decide)
  have b1 : c4' / 2 % 4 < 4 := Int.emod_lt_of_pos _ (by decide)
  obtain ⟨nb, hnb⟩ := Int.eq_ofNat_of_zero_le b0
  refine ⟨_, _, rfl, rfl, ⟨by decide, by decide⟩, _, _, rfl, rfl, (by show (0 : Int) < 4; decide), (nb : Int), (by show [V.int (c4' / 2 % 4)] = _; rw [hnb]), by omega, (by show (nb : Int) < _; omega), fun D7 hD7 => ?_⟩
  rw [Int.toNat_natCast]
  refine lc_range (n := nb) (fun i ys H' => ∃ (cs : List Int), ys = cs.map V.int ∧ cs.length = i ∧ Same H6 H' ∧ H' D7 = some (.lst ys)) ⟨[], rfl, rfl, same_new hD7 _, upd_same⟩ ?_ ?_
  · rintro i ys H' hi ⟨cs, rfl, hlen', sH, hDy⟩
    refine ⟨fun _ => ?_, fun e => Bool.noConfusion e⟩
    refine ⟨_, rfl, _, rfl, sa, ns, i, (by rw [Int.zero_add]; rfl), sH.seq (s16.seq hS), fun c5 => ?_⟩
    refine ⟨_, _, rfl, rfl, ⟨by decide, by decide⟩, ?_⟩
    refine lcN.mk hi (le1000 (by omega)) hDy (by rw [List.length_map]; omega) ⟨cs ++ [c5 / 5], by rw [List.map_append]; rfl, by rw [List.length_append]; simp; omega, fun b' u' e => ?_, upd_same⟩
    rw [upd_ne (ne_of_none e hD7)]
    exact sH _ _ e
  rintro ys H7 ⟨cs, rfl, lcs, s7, hcs⟩
  refine ⟨_, rfl, _, rfl, D7, pa, la, cs, zs, us, rows, rfl, SqL.of hcs, by omega, s7 _ _ hpa6, z0, znm, s7 _ _ hla6, tats_same s7 hu6, V1, fun lb bars H8 s8 nlb hlb VB => ?_⟩
  have s68 := s7.trans s8
  have s18 := s16.trans s68
  have hla8 := s68 _ _ hla6
  have hu8 := tats_same s68 hu6
  have hlt8 := s68 _ _ hlt
  have hts8 := rats_same s68 hts
  clear hcs hD7 hnb b0 b1 hla6 hu6 hlt hts hla5 hu5 hpa5 hpa6 lcs nlb
  -- the form
  refine ⟨_, rfl, la, rfl, ⟨_, SqL.of hla8⟩, fun D9 hD9 => ?_⟩
  have l60 := VB.l60
  refine lc_mapV (K := K) (bs := rows) (PAt c) PAt.same PAt.upd (SqL.of hla8) (by rw [List.length_map, lu]) (by omega) hD9 (fun i x r H' Qf Qs hx hr' sH qf => ?_) fun ps H9 s9 e9 p9 => ?_
  · obtain ⟨u, hu', rfl⟩ := refs_at hx
    obtain ⟨r2, hr2', tr⟩ := paired_at hu8 hu'
    rw [hr'] at hr2'
    cases hr2'
    have rk := V1.ok r (List.mem_of_getElem? hr')
    exact ⟨fun _ => ⟨_, rfl, u, r.k, .str r.z, r.b, rfl, rk.1, sH _ _ tr, .inl ⟨r.z, rfl, nameB_ok rk.2⟩, fun _ o dx H5 s5 ho => qf o H5 s5 ⟨dx, ho⟩, fun e => absurd (show nameB r.z = false from e) (by rw [rk.2]; decide)⟩, fun e => Bool.noConfusion e⟩
  refine ⟨_, rfl, fun f9 dx9 hx9 hdx9 hne9 => ?_⟩
  have smk : Same H9 (upd (upd H9 dx9 (.own f9)) f9 (.ins CF dx9 [])) := same_make0 hx9 hdx9
  have hx1 : upd (upd H9 dx9 (.own f9)) f9 (.ins CF dx9 []) f9 = some (.ins CF dx9 []) := upd_same
  generalize upd (upd H9 dx9 (.own f9)) f9 (.ins CF dx9 []) = H10 at smk hx1 ⊢
  have s810 := s9.trans smk
  refine ⟨f9, D9, dx9, .ref lb, ps, rows, bars, rfl, hx1, smk _ _ e9, pats_same smk p9, .inr ⟨lb, rfl, s810 _ _ hlb⟩, VB, fun H11 sx F11 L11 => ⟨rfl, ?_⟩⟩
  have s811 : Same H8 H11 := fun b' u e => sx b' u (s810 _ _ e) (ne_of_none (s9 _ _ e) hx9)
  have hF11 := F11.at
  have hla11 := s811 _ _ hla8
  have hu11 := tats_same s811 hu8
  have hlt11 := s811 _ _ hlt8
  have hts11 := rats_same s811 hts8
  have hlb11 := s811 _ _ hlb
  clear hlb hla8 hu8 hlt8 hts8 F11 L11 hx1 smk sx e9 p9 hD9
  -- the defaults
  refine ⟨_, rfl, D6, rfl, ⟨_, SqL.of hlt11⟩, fun D12 hD12 => ?_⟩
  refine lc_mapV (K := K) (bs := ds) (DAt c4) (fun ⟨dx, z⟩ s => ⟨dx, s _ _ z⟩) DAt.upd (SqL.of hlt11) (by rw [List.length_map, hlen, lds]) (by omega) hD12 (fun i x d H' Qf Qs hx hd' sH qf => ?_) fun as H12 s12 e12 p12 => ?_
  · obtain ⟨u, hu', rfl⟩ := refs_at hx
    obtain ⟨d2, hd2', tr⟩ := paired_at hts11 hu'
    rw [hd'] at hd2'
    cases hd2'
    exact ⟨fun _ => ⟨_, rfl, u, d, rfl, sH _ _ tr, fun x dx H5 s5 _ ho => qf x H5 s5 ⟨dx, ho⟩⟩, fun e => Bool.noConfusion e⟩
  have hF12 := hF11.same s12
  have hlt12 := s12 _ _ hlt11
  have hts12 := rats_same s12 hts11
  -- read
  refine ⟨_, rfl, D12, rfl, ⟨_, SqL.of e12⟩, fun D13 hD13 => ?_⟩
  have las : as.length = ds.length := p12.length
  refine lc_mapV (K := K) (bs := ds) RAt (fun z s => s _ _ z) RAt.upd (SqL.of e12) (by rw [List.length_map, las]) (by omega) hD13 (fun i x d H' Qf Qs hx hd' sH qf => ?_) fun rs H13 s13' e13 p13 => ?_
  · obtain ⟨u, hu', rfl⟩ := refs_at hx
    obtain ⟨d2, hd2', dx2, tr⟩ := paired_at p12 hu'
    rw [hd'] at hd2'
    cases hd2'
    exact ⟨fun _ => ⟨_, rfl, u, d, rfl, ⟨dx2, sH _ _ tr⟩, fun x H5 s5 _ ho => qf x H5 s5 ho⟩, fun e => Bool.noConfusion e⟩
  refine ⟨_, rfl, D13, D6, 2, .lst (ds.map Df.dt), fun _ => True, fun _ => True, rfl, rfl, by decide, .lst True.intro e13 (dfs_says p13), .lst True.intro (s13' _ _ hlt12) (dfs_says (rats_same s13' hts12)), _, rfl, ?_⟩
  refine iteF ?_
  have s1113 := s12.trans s13'
  have e12' := s13' _ _ e12
  have p12' := dats_same s13' p12
  clear hF12 hlt12 hts12 e12 p12 e13 p13
  -- kept, well
  refine ⟨_, rfl, D12, _, rfl, .inl (SqL.of e12'), fun lk hlk => ?_⟩
  have nDk : D12 ≠ lk := ne_of_none e12' hlk
  have s14' := same_new hlk (.lst (as.map V.ref))
  have g14 : upd H13 lk (.lst (as.map V.ref)) lk = some (.lst (as.map V.ref)) := upd_same
  dsimp only [gName]
  generalize upd H13 lk (.lst (as.map V.ref)) = H14 at s14' g14 ⊢
  have s1114 := s1113.trans s14'
  refine ⟨_, rfl, fun wa dw hwa hdw hnw => ⟨wa, dw, first, rfl, upd_same, ⟨rfl, ?_⟩⟩⟩
  have sW := same_make (o1 := .ins CW dw []) (o2 := .ins CW dw (wl first)) hwa hdw
  have hw15 : upd (upd (upd H14 dw (.own wa)) wa (.ins CW dw [])) wa (.ins CW dw (wl first)) wa = some (.ins CW dw (wl first)) := upd_same
  dsimp only [gName]
  generalize upd (upd (upd H14 dw (.own wa)) wa (.ins CW dw [])) wa (.ins CW dw (wl first)) = H15 at sW hw15 ⊢
  have s1115 := s1114.trans sW
  have s1315 := s14'.trans sW
  have e15 := s1315 _ _ e12'
  have p15 := dats_same s1315 p12'
  have gk15 := sW _ _ g14
  have nw11 : ∀ b u, H11 b = some u → b ≠ wa := fun b u e => ne_of_none (s1114 _ _ e) hwa
  have nd11 : ∀ b u, H11 b = some u → b ≠ D12 := fun b u e => ne_of_none e hD12
  have ndw : D12 ≠ wa := ne_of_none (s14' _ _ e12') hwa
  have nkw : lk ≠ wa := ne_of_none g14 hwa
  clear e12' p12' g14 hlk hwa hdw hnw
  -- made
  refine ⟨_, rfl, _, rfl, _, rfl, f9, D12, wa, dw, first, rows, bars, as, ds, rfl, hF11.same s1115, V1, e15, p15, hw15, fun vf t u tv nn H16 sx hw16 ht16 hu16 hcase => ?_⟩
  have s1116 : Same H11 H16 := fun b u e => sx _ _ (s1115 _ _ e) (nw11 _ _ e)
  refine ⟨t, _, rfl, SqT.of ht16, rfl, _, _, rfl, _, _, rfl, rfl, ?_⟩
  refine ⟨_, rfl, _, rfl, la, D6, us, rows, ts, ds, rfl, s1116 _ _ hla11, tats_same s1116 hu11, V1, s1116 _ _ hlt11, rats_same s1116 hts11, fun H17 s17 => ?_⟩
  have s1117 := s1116.trans s17
  have e17 := s17 _ _ (sx _ _ e15 ndw)
  have gk17 := s17 _ _ (sx _ _ gk15 nkw)
  refine ⟨_, rfl, _, rfl, D12, lk, as, rfl, rfl, e17, gk17, _, rfl, ?_⟩
  refine iteF ?_
  have hF17 := hF11.same s1117
  obtain ⟨dxf, fs, lr', lb', ld', ps', h1, h2, h3, h4, h5, h6⟩ := id hF17
  refine ⟨_, rfl, f9, dxf, fs, rfl, h1, h2.no _ (by decide +kernel), f9, rows, bars, rfl, V1.ok, by omega, hF17, fun t2 l1 l2 us' H18 s18 _ _ _ k1 k2 pu k3 => ?_⟩
  refine ⟨_, rfl, _, rfl, (by show 2 ≤ sizeLine; decide), fun t3 ht3 => ?_⟩
  have s19 := same_new ht3 (.tup [.ref la, .ref lb])
  have g19 : upd H18 t3 (.tup [.ref la, .ref lb]) t3 = some (.tup [.ref la, .ref lb]) := upd_same
  generalize upd H18 t3 (.tup [.ref la, .ref lb]) = H19 at s19 g19 ⊢
  have s1719 := s18.trans s19
  have s1119 := s1117.trans s1719
  refine ⟨t2, t3, 2, _, fun _ => True, fun _ => True, rfl, rfl, by decide, says_told (s19 _ _ k1) (s19 _ _ k2) (tats_same s19 pu) V1.ok (s19 _ _ k3), says_told g19 (s1119 _ _ hla11) (tats_same s1119 hu11) V1.ok (s1119 _ _ hlb11), _, rfl, ?_⟩
  refine iteF ?_
  -- cleared
  have e19 := s1719 _ _ e17
  refine ⟨_, rfl, .inl ⟨rfl, _, SqL.of e19⟩, D12, _, rfl, rfl, e19, ?_⟩
  have s1120 : Same H11 (upd H19 D12 (.lst [])) := fun b u e => by rw [upd_ne (nd11 _ _ e)]; exact s1119 _ _ e
  have hw20 : upd H19 D12 (.lst []) wa = some (.ins CW dw (wl nn)) := by rw [upd_ne ndw.symm]; exact s1719 _ _ (s17 _ _ hw16)
  have hu20 : upd H19 D12 (.lst []) u = some (.tup tv) := by
    have hu19 := s1719 _ _ (s17 _ _ hu16)
    rw [upd_ne (ne_of hu19 e19 (by intro z; cases z))]
    exact hu19
  have hx20 : ∀ (x D dx : Addr), H16 x = some (.ins CU dx (uF f9 wa D)) → upd H19 D12 (.lst []) x = some (.ins CU dx (uF f9 wa D)) := fun x D dx h => by
    have hx19 := s1719 _ _ (s17 _ _ h)
    rw [upd_ne (ne_of hx19 e19 (by intro z; cases z))]
    exact hx19
  dsimp only [gName]
  generalize upd H19 D12 (.lst []) = H20 at s1120 hw20 hu20 hx20 ⊢
  clear hw16 hu16 ht16 e17 gk17 e19 h1 h2 h3 h4 h5 h6 k1 k2 pu k3 g19 e15 gk15 p15 hw15
  refine seq_via (fun σ' H' => ∃ (lt' : Addr) (ts' : List Addr) (ds' : List Df) (x D dx : Addr) (v12 v13 : Option V), σ' = [some (.ref sa), some (.ref pa), some (.ref la), some (.int first), some (.int (size : Nat)), some (.ref lt'), some (.ref lb), some (.ref f9), some (.ref D12), some (.ref lk), some (.ref wa), some (.ref x), v12, v13] ∧ Same H11 H' ∧ H' lt' = some (.lst (ts'.map V.ref)) ∧ Paired (RAt H') ts' ds' ∧ ds'.length ≤ 500 ∧ H' wa = some (.ins CW dw (wl (first + (onceN ds' : Nat)))) ∧ H' x = some (.ins CU dx (uF f9 wa D))) ?_ (fun key => ?_)
  rotate_left
  · refine ⟨_, rfl, _, rfl, ?_⟩
    rcases hcase with ⟨hd, rfl, x, D, dx, rfl, hx⟩ | ⟨j, hj, rfl, rfl, rfl⟩
    · rw [hd]
      refine iteC (by rfl) ?_
      exact key _ _ ⟨D6, ts, ds, x, D, dx, _, _, rfl, s1120, s1120 _ _ hlt11, rats_same s1120 hts11, by omega, hw20, hx20 x D dx hx⟩
    · rw [hj]
      refine iteB (by rfl) ?_
      refine ⟨_, rfl, _, rfl, ?_⟩
      refine iteC (by rfl) ?_
      refine ⟨_, rfl, u, _, 0, .int (j : Nat), rfl, rfl, SqT.of hu20, rfl, (j : Int), rfl, _, rfl, ?_⟩
      refine iteF ?_
      refine ⟨_, rfl, _, rfl, (by show 1 ≤ sizeLine; decide), fun t4 ht4 => ?_⟩
      have s21 := same_new ht4 (.tup [.int (j : Nat)])
      have g21 : upd H20 t4 (.tup [.int (j : Nat)]) t4 = some (.tup [.int (j : Nat)]) := upd_same
      show rSame K false _ _ (upd H20 t4 (.tup [.int (j : Nat)])) _
      generalize upd H20 t4 (.tup [.int (j : Nat)]) = H21 at s21 g21 ⊢
      refine ⟨u, t4, 0, .tup [.int (j : Nat)], fun _ => True, fun _ => True, rfl, rfl, by decide, .tup (SqT.of (s21 _ _ hu20)) (.cons .int .nil), .tup (SqT.of g21) (.cons .int .nil), _, rfl, ?_⟩
      refine iteF ?_
      have hw21 := s21 _ _ hw20
      have s1121 := s1120.trans s21
      refine ⟨_, rfl, wa, dw, _, rfl, hw21, wl_no _ nm2, wa, dw, _, rfl, hw21, _, rfl, rfl, _, rfl, ?_⟩
      refine iteC (by rw [decide_eq_true rfl]; rfl) ?_
      -- made anew
      refine ⟨_, rfl, _, rfl, la, us, rows, rfl, s1121 _ _ hla11, tats_same s1121 hu11, V1, fun ll H22 s22 nll ell => ?_⟩
      refine ⟨ll, rfl, ⟨_, SqL.of ell⟩, fun D23 hD23 => ?_⟩
      refine lc_mapV (K := K) (bs := (freeN rows).map fun n => Df.told (n : Nat)) (DAt c4) (fun ⟨dx, z⟩ s => ⟨dx, s _ _ z⟩) DAt.upd (SqL.of ell) (by rw [List.length_map, List.length_map]) (by rw [List.length_map]; omega) hD23 (fun i x d H' Qf Qs hx hd' sH qf => ?_) fun as2 H23 s23 e23 p23 => ?_
      · obtain ⟨n, hn, rfl⟩ := ints_at hx
        rw [List.getElem?_map, hn] at hd'
        cases hd'
        exact ⟨fun _ => ⟨_, rfl, fun x dx hx hdx ne => ⟨x, dx, _, rfl, upd_same, ⟨rfl, qf x _ (same_make hx hdx) ⟨dx, upd_same⟩⟩⟩⟩, fun e => Bool.noConfusion e⟩
      have s2123 := s22.trans s23
      have s1123 := s1121.trans s2123
      refine ⟨_, rfl, fun x dx hx hdx hne => ?_⟩
      have smk : Same H23 (upd (upd H23 dx (.own x)) x (.ins CU dx [])) := same_make0 hx hdx
      have hx1 : upd (upd H23 dx (.own x)) x (.ins CU dx []) x = some (.ins CU dx []) := upd_same
      generalize upd (upd H23 dx (.own x)) x (.ins CU dx []) = H24 at smk hx1 ⊢
      have s1124 := s1123.trans smk
      have hw23 := s2123 _ _ hw21
      refine ⟨x, dx, f9, D23, wa, dw, _, rows, bars, as2, _, rfl, hx1, hF11.same s1124, V1, smk _ _ e23, dats_same smk p23, fun a ha => ?_, smk _ _ hw23, fun _ H25 hsx hw25 ⟨D, hx25⟩ => ⟨rfl, ?_⟩, fun j' hj' => ?_⟩
      · obtain ⟨i, hi, e⟩ := List.getElem_of_mem ha
        obtain ⟨d, _, dx', hdx'⟩ := paired_at p23 (i := i) (x := a) (by rw [← e]; exact List.getElem?_eq_getElem hi)
        exact ne_of_none hdx' hx
      · rw [tolds_once] at hw25
        have s1125 : Same H11 H25 := fun b u e => hsx _ _ (s1124 _ _ e) (ne_of_none (s1123 _ _ e) hx) (nw11 _ _ e)
        refine ⟨(by show 0 ≤ sizeLine; decide), fun l6 hl6 => ?_⟩
        have s26 := same_new hl6 (.lst [])
        exact key _ _ ⟨l6, [], [], x, D, dx, _, _, rfl, s1125.trans s26, upd_same, .nil, Nat.zero_le _, s26 _ _ hw25, s26 _ _ hx25⟩
      · rw [tolds_due] at hj'
        cases hj'
  rintro σ21 H21 ⟨lt', ts', ds', x, D, dx, v12, v13, rfl, s1121, hlt', hts', lds', hw21, hx21⟩
  clear hcase hx20 hu20 hw20
  refine ⟨_, rfl, _, rfl, ?_⟩
  refine iteC (by rfl) ?_
  have hF21 := hF11.same s1121
  obtain ⟨dxf', fs', lr'', lb'', ld'', ps'', h1, h2, h3, h4, h5, h6⟩ := id hF21
  refine ⟨_, rfl, x, dx, _, rfl, hx21, u_no (by decide +kernel) (by decide +kernel) (by decide +kernel), x, dx, f9, wa, D, rfl, hx21, f9, dxf', fs', rfl, h1, h2.no _ (by decide +kernel), f9, rows, bars, rfl, V1.ok, by omega, hF21, fun t2 l1 l2 us' H22 s22 _ _ _ k1 k2 pu k3 => ?_⟩
  refine ⟨_, rfl, _, rfl, (by show 2 ≤ sizeLine; decide), fun t3 ht3 => ?_⟩
  have s23 := same_new ht3 (.tup [.ref la, .ref lb])
  have g23 : upd H22 t3 (.tup [.ref la, .ref lb]) t3 = some (.tup [.ref la, .ref lb]) := upd_same
  generalize upd H22 t3 (.tup [.ref la, .ref lb]) = H23 at s23 g23 ⊢
  have s2123 := s22.trans s23
  have s1123 := s1121.trans s2123
  refine ⟨t2, t3, 2, _, fun _ => True, fun _ => True, rfl, rfl, by decide, says_told (s23 _ _ k1) (s23 _ _ k2) (tats_same s23 pu) V1.ok (s23 _ _ k3), says_told g23 (s1123 _ _ hla11) (tats_same s1123 hu11) V1.ok (s1123 _ _ hlb11), _, rfl, ?_⟩
  refine iteF ?_
  have hw23 := s2123 _ _ hw21
  refine ⟨_, rfl, wa, dw, _, rfl, hw23, wl_no _ nm2, wa, dw, _, rfl, hw23, _, rfl, _, rfl, lt', rfl, ⟨_, SqL.of (s2123 _ _ hlt')⟩, fun D24 hD24 => ?_⟩
  have hts23 := rats_same s2123 hts'
  refine lc_zip (K := K) RAt Df.isOnce (fun v _ => .ref v) hD24 (s2123 _ _ hlt') hts23 (by omega) (fun i v d H' Nn S hv hd' tr sH n1 s1' => ?_) (fun H24 s24 hD25 => ?_)
  · have tr' : H' v = some (.tup d.row) := sH _ _ tr
    cases d with
    | told _ =>
      refine ⟨_, rfl, v, _, 0, _, rfl, rfl, SqT.of tr', rfl, rfl, _, rfl, ?_⟩
      exact ⟨fun e => absurd (of_decide_eq_true e) (by decide +kernel), fun _ => s1' _ (Same.refl _) rfl⟩
    | once =>
      refine ⟨_, rfl, v, _, 0, _, rfl, rfl, SqT.of tr', rfl, rfl, _, rfl, ?_⟩
      exact ⟨fun _ => ⟨_, rfl, n1 _ (Same.refl _) rfl⟩, fun e => absurd rfl (of_decide_eq_false e)⟩
    | anew =>
      refine ⟨_, rfl, v, _, 0, _, rfl, rfl, SqT.of tr', rfl, rfl, _, rfl, ?_⟩
      exact ⟨fun e => absurd (of_decide_eq_true e) (by decide +kernel), fun _ => s1' _ (Same.refl _) rfl⟩
    | sum _ _ _ =>
      refine ⟨_, rfl, v, _, 0, _, rfl, rfl, SqT.of tr', rfl, rfl, _, rfl, ?_⟩
      exact ⟨fun e => absurd (of_decide_eq_true e) (by decide +kernel), fun _ => s1' _ (Same.refl _) rfl⟩
  refine ⟨D24, _, rfl, .inl (SqL.of hD25), _, _, rfl, rfl, rfl, ?_⟩
  have el : (((ts'.zip ds').filter fun p => p.2.isOnce).map fun p => V.ref p.1).length = onceN ds' := by
    rw [List.length_map]
    have hl : ts'.length = ds'.length := hts'.length
    clear hts' hts23 hlt' hD25 hw21 hw23 lds'
    induction ds' generalizing ts' with
    | nil => cases ts' <;> rfl
    | cons d ds ih =>
      cases ts' with
      | nil => cases hl
      | cons v vs =>
        have := ih vs (by simpa using hl)
        unfold onceN at this ⊢
        rw [List.zip_cons_cons, List.filter_cons, List.filter_cons]
        cases hd : d.isOnce
        · simpa [hd] using this
        · simp [hd, this]
  rw [el, decide_eq_true rfl]
  exact q _
end
end K42

set_option Elab.async false
def PySem.W.Fast.tw7762449034742405314 : Unit := ()
def PySem.W.Fast.tw5996612794522975136 : Unit := ()
def PySem.W.Fast.tw6626115975757092952 : Unit := ()
def PySem.W.Fast.tw6863622608209804294 : Unit := ()
def PySem.W.Fast.tw6889394647276522129 : Unit := ()
def PySem.W.Fast.tw10907407229533000223 : Unit := ()
def PySem.W.Fast.tw9711392688598402932 : Unit := ()
def PySem.W.Fast.tw18223719178587622929 : Unit := ()
def PySem.W.Fast.tw15874670147662542815 : Unit := ()
def PySem.W.Fast.tw6156640133522766063 : Unit := ()
def PySem.W.Fast.tw5563020122033006912 : Unit := ()
def PySem.W.Fast.tw18424786462627023708 : Unit := ()
def PySem.W.Fast.tw11470561241250907510 : Unit := ()
def PySem.W.Fast.tw10771750567411600580 : Unit := ()
def PySem.W.Fast.tw5476683708516595750 : Unit := ()
def PySem.W.Fast.tw8975888449951763889 : Unit := ()
def PySem.W.Fast.tw12964178136347926412 : Unit := ()
def PySem.W.Fast.tw8924511567474149264 : Unit := ()
def PySem.W.Fast.tw8135284796795092348 : Unit := ()
def PySem.W.Fast.tw8609963258896580723 : Unit := ()
def PySem.W.Fast.tw13847660719120372385 : Unit := ()
def PySem.W.Fast.tw8856103652424781554 : Unit := ()
def PySem.W.Fast.tw15795373252232165707 : Unit := ()
def PySem.W.Fast.tw5959327832341014191 : Unit := ()
def PySem.W.Fast.tw2163183659795332633 : Unit := ()
def PySem.W.Fast.tw5430500303395734701 : Unit := ()
def PySem.W.Fast.tw5387523592394312496 : Unit := ()
def PySem.W.Fast.tw4482589630808429444 : Unit := ()
def PySem.W.Fast.tw17512216480603578962 : Unit := ()
def PySem.W.Fast.tw1612983247915817535 : Unit := ()
def PySem.W.Fast.tw17637414516150930024 : Unit := ()
def PySem.W.Fast.tw16636473438253463509 : Unit := ()
def PySem.W.Fast.tw15856218359405289975 : Unit := ()
def PySem.W.Fast.tw6895718866456953401 : Unit := ()
def PySem.W.Fast.tw7445377601373132410 : Unit := ()
def PySem.W.Fast.tw17038607985558927931 : Unit := ()
def PySem.W.Fast.tw8006466947097040601 : Unit := ()
def PySem.W.Fast.tw8244372244790518091 : Unit := ()
def PySem.W.Fast.tw4324818801783493504 : Unit := ()
def PySem.W.Fast.tw1811830396443844882 : Unit := ()
def PySem.W.Fast.tw11465485037722518876 : Unit := ()
def PySem.W.Fast.tw13371811921533417394 : Unit := ()
def PySem.W.Fast.tw16018638986815019228 : Unit := ()
def PySem.W.Fast.tw16304100393744736713 : Unit := ()
def PySem.W.Fast.tw3321100903859467767 : Unit := ()
def PySem.W.Fast.tw930386609009715954 : Unit := ()
def PySem.W.Fast.tw17362720170022114649 : Unit := ()
def PySem.W.Fast.tw10498157167766342447 : Unit := ()
def PySem.W.Fast.tw3990966585600282690 : Unit := ()
def PySem.W.Fast.tw6857352632747294744 : Unit := ()
def PySem.W.Fast.tw10157046176738727706 : Unit := ()
def PySem.W.Fast.tw16057188847297549489 : Unit := ()
def PySem.W.Fast.tw14048936780641767913 : Unit := ()
set_option linter.all false
set_option maxRecDepth 100000
set_option maxHeartbeats 4000000
namespace K42
open PySem L2 PyProof.Rows
theorem own_in {K : PySem.W.Frag} {h : Heap} {mg : Str → Option Value} {x : Str} {C : Addr} {bm : List Value} {nid : String} (X : K.In h) (G : h.Ns mainGlobals mg) (e : PySem.W.nsIn K mainGlobals x = some (some (.ref C))) (q : PySem.W.excIn K C bm nid = true) : OwnCls x C bm nid mg h := by
  have b : mg x = some (.ref C) := PySem.W.mg_of X G e
  refine ⟨b, ?_⟩
  simp only [PySem.W.excIn] at q
  split at q
  case h_2 => cases q
  rename_i dd cd sl ho
  obtain ⟨nm, bs, mro, ns, qn, hd, sn, sub, ab, col, del⟩ := cd
  obtain ⟨l⟩ := sl
  dsimp only at q
  split at q
  case h_2 => cases q
  rename_i C' m k0 k1 k2 k3 n k5
  simp only [Bool.and_eq_true, beq_iff_eq, Bool.not_eq_true'] at q
  obtain ⟨⟨⟨⟨⟨rfl, rfl⟩, rfl⟩, ht⟩, hok⟩, hni⟩ := q
  exact ⟨m, ns, nm, qn, bs, hd, sn, sub, ab, col, dd, k0, k1, k2, k3, k5, _, X _ _ ho, .of_isNs (PySem.W.isNs_of_in X hok), PySem.W.nsMap_none_of_in X hok hni, PySem.W.tail_of_in X ht⟩
theorem ktab_of {w : World} {K : PySem.W.Frag} {Gr : Addr} {es : Array DictEntry} {n : Nat} {t0 t1 t2 t3 t4 : Tok} (hl : K.lookup Gr = some ⟨.type "dict", none, .dict es n, #[]⟩) (hk : PySem.W.KeysLit w.params es.toList) (h0 : PySem.W.nsIn K Gr "seat" = some (some (.int 0 t0))) (h1 : PySem.W.nsIn K Gr "both" = some (some (.int 0 t1))) (h2 : PySem.W.nsIn K Gr "tail" = some (some (.int 1 t2)))
    (h3 : PySem.W.nsIn K Gr "tag" = some (some (.int 2 t3))) (h4 : PySem.W.nsIn K Gr "bag" = some (some (.int 3 t4))) : KTab w K Gr grpV := by
  refine ⟨⟨es, n, hl, hk⟩, fun x v h => ?_⟩
  unfold grpV at h
  by_cases e0 : x = "seat"
  · subst e0; rw [List.lookup_cons_self] at h; cases h; exact ⟨_, h0, _, rfl⟩
  rw [List.lookup_cons, beq_eq_false_iff_ne.mpr e0] at h
  by_cases e1 : x = "both"
  · subst e1; rw [List.lookup_cons_self] at h; cases h; exact ⟨_, h1, _, rfl⟩
  rw [List.lookup_cons, beq_eq_false_iff_ne.mpr e1] at h
  by_cases e2 : x = "tail"
  · subst e2; rw [List.lookup_cons_self] at h; cases h; exact ⟨_, h2, _, rfl⟩
  rw [List.lookup_cons, beq_eq_false_iff_ne.mpr e2] at h
  by_cases e3 : x = "tag"
  · subst e3; rw [List.lookup_cons_self] at h; cases h; exact ⟨_, h3, _, rfl⟩
  rw [List.lookup_cons, beq_eq_false_iff_ne.mpr e3] at h
  by_cases e4 : x = "bag"
  · subst e4; rw [List.lookup_cons_self] at h; cases h; exact ⟨_, h4, _, rfl⟩
  rw [List.lookup_cons, beq_eq_false_iff_ne.mpr e4] at h
  cases h
theorem all_mk {l : PySem.W.OpenLaw} {w : World} {K : PySem.W.Frag} {h : Heap} {mg : Str → Option Value} {fa D C0 C1 C2 C3 C4 FM Q0 Q1 Q2 Q3 FU WE f1 f2 f3 f4 f5 f6 f7 f8 f9 f10 f11 f12 f13 f14 f15 f16 f17 f18 f19 f20 f21 f22 f23 f24 f25 f26 f27 f28 f29 f30 f31 f32 f33 f34 f35 f36 f37 f38 f39 f40 f41 f42 f43 f44 f45 f46 f47 f48 f49 f50 T8 T9 T11 T13 T23 : Addr} (X : K.In h) (G : h.Ns mainGlobals mg) (hfa : mg "law" = some (.ref fa))
    {od1 an1 od2 an2 od3 an3 od4 an4 od5 an5 od6 an6 od7 an7 od8 an8 od9 an9 od10 an10 od11 an11 od12 an12 od13 an13 od14 an14 od15 an15 od16 an16 od17 an17 od18 an18 od19 an19 od20 an20 od21 an21 od22 an22 od23 an23 od24 an24 od25 an25 od26 an26 od27 an27 od28 an28 od29 an29 od30 an30 od31 an31 od32 an32 od33 an33 od34 an34 od35 an35 od36 an36 od37 an37 od38 an38 od39 an39 od40 an40 od41 an41 od42 an42 od43 an43 od44 an44 od45 an45 od46 an46 od47 an47 od48 an48 od49 an49 od50 an50 odT8 odT9 odT11 odT13 odT23 : Option Addr} {sl1 sl2 sl3 sl4 sl5 sl6 sl7 sl8 sl9 sl10 sl11 sl12 sl13 sl14 sl15 sl16 sl17 sl18 sl19 sl20 sl21 sl22 sl23 sl24 sl25 sl26 sl27 sl28 sl29 sl30 sl31 sl32 sl33 sl34 sl35 sl36 sl37 sl38 sl39 sl40 sl41 sl42 sl43 sl44 sl45 sl46 sl47 sl48 sl49 sl50 slT8 slT9 slT11 slT13 slT23 : Array (Option Value)} {oc1 kV1 dc1 pm1 cd1 ct1 oc2 kV2 dc2 pm2 cd2 ct2 oc3 kV3 dc3 pm3 cd3 ct3 oc4 kV4 dc4 pm4 cd4 ct4 oc5 kV5 dc5 pm5 cd5 ct5 oc6 kV6 dc6 pm6 cd6 ct6 oc7 kV7 dc7 pm7 cd7 ct7 oc8 kV8 dc8 pm8 cd8 ct8 oc9 kV9 dc9 pm9 cd9 ct9 oc10 kV10 dc10 pm10 cd10 ct10 oc11 kV11 dc11 pm11 cd11 ct11 oc12 kV12 dc12 pm12 cd12 ct12 oc13 kV13 dc13 pm13 cd13 ct13 oc14 kV14 dc14 pm14 cd14 ct14 oc15 kV15 dc15 pm15 cd15 ct15 oc16 kV16 dc16 pm16 cd16 ct16 oc17 kV17 dc17 pm17 cd17 ct17 oc18 kV18 dc18 pm18 cd18 ct18 oc19 kV19 dc19 pm19 cd19 ct19 oc20 kV20 dc20 pm20 cd20 ct20 oc21 kV21 dc21 pm21 cd21 ct21 oc22 kV22 dc22 pm22 cd22 ct22 oc23 kV23 dc23 pm23 cd23 ct23 oc24 kV24 dc24 pm24 cd24 ct24 oc25 kV25 dc25 pm25 cd25 ct25 oc26 kV26 dc26 pm26 cd26 ct26 oc27 kV27 dc27 pm27 cd27 ct27 oc28 kV28 dc28 pm28 cd28 ct28 oc29 kV29 dc29 pm29 cd29 ct29 oc30 kV30 dc30 pm30 cd30 ct30 oc31 kV31 dc31 pm31 cd31 ct31 oc32 kV32 dc32 pm32 cd32 ct32 oc33 kV33 dc33 pm33 cd33 ct33 oc34 kV34 dc34 pm34 cd34 ct34 oc35 kV35 dc35 pm35 cd35 ct35 oc36 kV36 dc36 pm36 cd36 ct36 oc37 kV37 dc37 pm37 cd37 ct37 oc38 kV38 dc38 pm38 cd38 ct38 oc39 kV39 dc39 pm39 cd39 ct39 oc40 kV40 dc40 pm40 cd40 ct40 oc41 kV41 dc41 pm41 cd41 ct41 oc42 kV42 dc42 pm42 cd42 ct42 oc43 kV43 dc43 pm43 cd43 ct43 oc44 kV44 dc44 pm44 cd44 ct44 oc45 kV45 dc45 pm45 cd45 ct45 oc46 kV46 dc46 pm46 cd46 ct46 oc47 kV47 dc47 pm47 cd47 ct47 oc48 kV48 dc48 pm48 cd48 ct48 oc49 kV49 dc49 pm49 cd49 ct49 oc50 kV50 dc50 pm50 cd50 ct50 ocT8 ocT9 ocT11 ocT13 ocT23 : Value}
    {nT8 nT9 nT11 nT13 nT23 : Nat}
    {CE ND DF O0 O1 O2 O3 O4 O5 O6 O7 O8 O9 O10 O11 O12 O13 O14 tP tB tO sg Gr : Addr} {tL tN tk1 tMP tMB ktP0 ktP1 ktB0 ktB1 ktO0 ktO1 ktO2 ksg0 ksg1 kG0 kG1 kG2 kG3 kG4 : Tok} {odtP odtB odtO odsg : Option Addr} {ntP ntB ntO nsg nG : Nat} {sltP sltB sltO slsg : Array (Option Value)} {esG : Array DictEntry}
    (aD : PySem.W.nsIn K mainGlobals "Parameter" = some (some (.ref D))) (pgD : PySem.W.plainGet K D Str.empty = true) (hdD : PySem.W.hasDictIn K D = true) (poD : PySem.W.plainOver K D = true) (saD : PySem.W.findIn K (.ref D) "__setattr__" = some (some (.builtin "object.__setattr__"))) (mkD : PySem.W.makesIn K D = true) (kcD : PySem.W.keepIn K (.ref D) = true)
    (aC0 : PySem.W.nsIn K mainGlobals "Seat" = some (some (.ref C0))) (pgC0 : PySem.W.plainGet K C0 Str.empty = true) (hdC0 : PySem.W.hasDictIn K C0 = true) (poC0 : PySem.W.plainOver K C0 = true) (saC0 : PySem.W.findIn K (.ref C0) "__setattr__" = some (some (.builtin "object.__setattr__"))) (mkC0 : PySem.W.makesIn K C0 = true) (kcC0 : PySem.W.keepIn K (.ref C0) = true)
    (nC0_word : PySem.W.findIn K (.ref C0) "word" = some none)
    (nC0_name : PySem.W.findIn K (.ref C0) "name" = some none)
    (nC0_may_lack : PySem.W.findIn K (.ref C0) "may_lack" = some none)
    (aC1 : PySem.W.nsIn K mainGlobals "Both" = some (some (.ref C1))) (pgC1 : PySem.W.plainGet K C1 Str.empty = true) (hdC1 : PySem.W.hasDictIn K C1 = true) (poC1 : PySem.W.plainOver K C1 = true) (saC1 : PySem.W.findIn K (.ref C1) "__setattr__" = some (some (.builtin "object.__setattr__"))) (mkC1 : PySem.W.makesIn K C1 = true) (kcC1 : PySem.W.keepIn K (.ref C1) = true)
    (nC1_word : PySem.W.findIn K (.ref C1) "word" = some none)
    (nC1_name : PySem.W.findIn K (.ref C1) "name" = some none)
    (nC1_may_lack : PySem.W.findIn K (.ref C1) "may_lack" = some none)
    (aC2 : PySem.W.nsIn K mainGlobals "Tail" = some (some (.ref C2))) (pgC2 : PySem.W.plainGet K C2 Str.empty = true) (hdC2 : PySem.W.hasDictIn K C2 = true) (poC2 : PySem.W.plainOver K C2 = true) (saC2 : PySem.W.findIn K (.ref C2) "__setattr__" = some (some (.builtin "object.__setattr__"))) (mkC2 : PySem.W.makesIn K C2 = true) (kcC2 : PySem.W.keepIn K (.ref C2) = true)
    (nC2_word : PySem.W.findIn K (.ref C2) "word" = some none)
    (nC2_name : PySem.W.findIn K (.ref C2) "name" = some none)
    (nC2_may_lack : PySem.W.findIn K (.ref C2) "may_lack" = some none)
    (aC3 : PySem.W.nsIn K mainGlobals "Tag" = some (some (.ref C3))) (pgC3 : PySem.W.plainGet K C3 Str.empty = true) (hdC3 : PySem.W.hasDictIn K C3 = true) (poC3 : PySem.W.plainOver K C3 = true) (saC3 : PySem.W.findIn K (.ref C3) "__setattr__" = some (some (.builtin "object.__setattr__"))) (mkC3 : PySem.W.makesIn K C3 = true) (kcC3 : PySem.W.keepIn K (.ref C3) = true)
    (nC3_word : PySem.W.findIn K (.ref C3) "word" = some none)
    (nC3_name : PySem.W.findIn K (.ref C3) "name" = some none)
    (nC3_may_lack : PySem.W.findIn K (.ref C3) "may_lack" = some none)
    (aC4 : PySem.W.nsIn K mainGlobals "Bag" = some (some (.ref C4))) (pgC4 : PySem.W.plainGet K C4 Str.empty = true) (hdC4 : PySem.W.hasDictIn K C4 = true) (poC4 : PySem.W.plainOver K C4 = true) (saC4 : PySem.W.findIn K (.ref C4) "__setattr__" = some (some (.builtin "object.__setattr__"))) (mkC4 : PySem.W.makesIn K C4 = true) (kcC4 : PySem.W.keepIn K (.ref C4) = true)
    (nC4_word : PySem.W.findIn K (.ref C4) "word" = some none)
    (nC4_name : PySem.W.findIn K (.ref C4) "name" = some none)
    (nC4_may_lack : PySem.W.findIn K (.ref C4) "may_lack" = some none)
    (aFM : PySem.W.nsIn K mainGlobals "Form" = some (some (.ref FM))) (pgFM : PySem.W.plainGet K FM Str.empty = true) (hdFM : PySem.W.hasDictIn K FM = true) (poFM : PySem.W.plainOver K FM = true) (saFM : PySem.W.findIn K (.ref FM) "__setattr__" = some (some (.builtin "object.__setattr__"))) (mkFM : PySem.W.makesIn K FM = true) (kcFM : PySem.W.keepIn K (.ref FM) = true)
    (nFM_row : PySem.W.findIn K (.ref FM) "row" = some none)
    (nFM_bar_names : PySem.W.findIn K (.ref FM) "bar_names" = some none)
    (nFM_place_count : PySem.W.findIn K (.ref FM) "place_count" = some none)
    (nFM_tail_number : PySem.W.findIn K (.ref FM) "tail_number" = some none)
    (nFM_bag_number : PySem.W.findIn K (.ref FM) "bag_number" = some none)
    (nFM_doors : PySem.W.findIn K (.ref FM) "doors" = some none)
    (aQ0 : PySem.W.nsIn K mainGlobals "Told" = some (some (.ref Q0))) (pgQ0 : PySem.W.plainGet K Q0 Str.empty = true) (hdQ0 : PySem.W.hasDictIn K Q0 = true) (poQ0 : PySem.W.plainOver K Q0 = true) (saQ0 : PySem.W.findIn K (.ref Q0) "__setattr__" = some (some (.builtin "object.__setattr__"))) (mkQ0 : PySem.W.makesIn K Q0 = true) (kcQ0 : PySem.W.keepIn K (.ref Q0) = true)
    (nQ0_number : PySem.W.findIn K (.ref Q0) "number" = some none)
    (aQ1 : PySem.W.nsIn K mainGlobals "Once" = some (some (.ref Q1))) (pgQ1 : PySem.W.plainGet K Q1 Str.empty = true) (hdQ1 : PySem.W.hasDictIn K Q1 = true) (poQ1 : PySem.W.plainOver K Q1 = true) (saQ1 : PySem.W.findIn K (.ref Q1) "__setattr__" = some (some (.builtin "object.__setattr__"))) (mkQ1 : PySem.W.makesIn K Q1 = true) (kcQ1 : PySem.W.keepIn K (.ref Q1) = true)
    (aQ2 : PySem.W.nsIn K mainGlobals "Anew" = some (some (.ref Q2))) (pgQ2 : PySem.W.plainGet K Q2 Str.empty = true) (hdQ2 : PySem.W.hasDictIn K Q2 = true) (poQ2 : PySem.W.plainOver K Q2 = true) (saQ2 : PySem.W.findIn K (.ref Q2) "__setattr__" = some (some (.builtin "object.__setattr__"))) (mkQ2 : PySem.W.makesIn K Q2 = true) (kcQ2 : PySem.W.keepIn K (.ref Q2) = true)
    (aQ3 : PySem.W.nsIn K mainGlobals "Sum" = some (some (.ref Q3))) (pgQ3 : PySem.W.plainGet K Q3 Str.empty = true) (hdQ3 : PySem.W.hasDictIn K Q3 = true) (poQ3 : PySem.W.plainOver K Q3 = true) (saQ3 : PySem.W.findIn K (.ref Q3) "__setattr__" = some (some (.builtin "object.__setattr__"))) (mkQ3 : PySem.W.makesIn K Q3 = true) (kcQ3 : PySem.W.keepIn K (.ref Q3) = true)
    (nQ3_at : PySem.W.findIn K (.ref Q3) "at" = some none)
    (nQ3_times : PySem.W.findIn K (.ref Q3) "times" = some none)
    (nQ3_plus : PySem.W.findIn K (.ref Q3) "plus" = some none)
    (aFU : PySem.W.nsIn K mainGlobals "Function" = some (some (.ref FU))) (pgFU : PySem.W.plainGet K FU Str.empty = true) (hdFU : PySem.W.hasDictIn K FU = true) (poFU : PySem.W.plainOver K FU = true) (saFU : PySem.W.findIn K (.ref FU) "__setattr__" = some (some (.builtin "object.__setattr__"))) (mkFU : PySem.W.makesIn K FU = true) (kcFU : PySem.W.keepIn K (.ref FU) = true)
    (nFU_kept_form : PySem.W.findIn K (.ref FU) "kept_form" = some none)
    (nFU_well : PySem.W.findIn K (.ref FU) "well" = some none)
    (nFU_defaults : PySem.W.findIn K (.ref FU) "defaults" = some none)
    (aWE : PySem.W.nsIn K mainGlobals "Well" = some (some (.ref WE))) (pgWE : PySem.W.plainGet K WE Str.empty = true) (hdWE : PySem.W.hasDictIn K WE = true) (poWE : PySem.W.plainOver K WE = true) (saWE : PySem.W.findIn K (.ref WE) "__setattr__" = some (some (.builtin "object.__setattr__"))) (mkWE : PySem.W.makesIn K WE = true) (kcWE : PySem.W.keepIn K (.ref WE) = true)
    (nWE_coming : PySem.W.findIn K (.ref WE) "coming" = some none)
    (a1 : PySem.W.nsIn K mainGlobals "is_name" = some (some (.ref f1)))
    (l1 : K.lookup f1 = some ⟨oc1, od1, .func (PySem.W.fnOf "is_name" "is_name" (defArgs sIs) (defBody sIs) (defScope sIs) .none kV1 dc1 pm1 an1 cd1 ct1), sl1⟩) (c1 : PySem.W.codeIn K cd1 "is_name" = true) (k1 : PySem.W.keepIn K (.ref f1) = true)
    (a2 : PySem.W.findIn K (.ref D) "__init__" = some (some (.ref f2))) (i2 : PySem.W.isFn K (.ref f2) = true)
    (l2 : K.lookup f2 = some ⟨oc2, od2, .func (PySem.W.fnOf "__init__" "Parameter.__init__" (defArgs sPInit) (defBody sPInit) (defScope sPInit) .none kV2 dc2 pm2 an2 cd2 ct2), sl2⟩) (c2 : PySem.W.codeIn K cd2 "Parameter.__init__" = true) (k2 : PySem.W.keepIn K (.ref f2) = true)
    (a3 : PySem.W.findIn K (.ref D) "free" = some (some (.ref f3))) (i3 : PySem.W.isFn K (.ref f3) = true)
    (l3 : K.lookup f3 = some ⟨oc3, od3, .func (PySem.W.fnOf "free" "Parameter.free" (defArgs sFree) (defBody sFree) (defScope sFree) .none kV3 dc3 pm3 an3 cd3 ct3), sl3⟩) (c3 : PySem.W.codeIn K cd3 "Parameter.free" = true) (k3 : PySem.W.keepIn K (.ref f3) = true)
    (a4 : PySem.W.findIn K (.ref D) "by_place" = some (some (.ref f4))) (i4 : PySem.W.isFn K (.ref f4) = true)
    (l4 : K.lookup f4 = some ⟨oc4, od4, .func (PySem.W.fnOf "by_place" "Parameter.by_place" (defArgs sByPlace) (defBody sByPlace) (defScope sByPlace) .none kV4 dc4 pm4 an4 cd4 ct4), sl4⟩) (c4 : PySem.W.codeIn K cd4 "Parameter.by_place" = true) (k4 : PySem.W.keepIn K (.ref f4) = true)
    (a5 : PySem.W.findIn K (.ref D) "by_name" = some (some (.ref f5))) (i5 : PySem.W.isFn K (.ref f5) = true)
    (l5 : K.lookup f5 = some ⟨oc5, od5, .func (PySem.W.fnOf "by_name" "Parameter.by_name" (defArgs sByName) (defBody sByName) (defScope sByName) .none kV5 dc5 pm5 an5 cd5 ct5), sl5⟩) (c5 : PySem.W.codeIn K cd5 "Parameter.by_name" = true) (k5 : PySem.W.keepIn K (.ref f5) = true)
    (a6 : PySem.W.findIn K (.ref D) "takes_one" = some (some (.ref f6))) (i6 : PySem.W.isFn K (.ref f6) = true)
    (l6 : K.lookup f6 = some ⟨oc6, od6, .func (PySem.W.fnOf "takes_one" "Parameter.takes_one" (defArgs sTakes) (defBody sTakes) (defScope sTakes) .none kV6 dc6 pm6 an6 cd6 ct6), sl6⟩) (c6 : PySem.W.codeIn K cd6 "Parameter.takes_one" = true) (k6 : PySem.W.keepIn K (.ref f6) = true)
    (a7 : PySem.W.findIn K (.ref D) "told" = some (some (.ref f7))) (i7 : PySem.W.isFn K (.ref f7) = true)
    (l7 : K.lookup f7 = some ⟨oc7, od7, .func (PySem.W.fnOf "told" "Parameter.told" (defArgs sTold) (defBody sTold) (defScope sTold) .none kV7 dc7 pm7 an7 cd7 ct7), sl7⟩) (c7 : PySem.W.codeIn K cd7 "Parameter.told" = true) (k7 : PySem.W.keepIn K (.ref f7) = true)
    (a8 : PySem.W.findIn K (.ref C0) "__init__" = some (some (.ref f8))) (i8 : PySem.W.isFn K (.ref f8) = true)
    (l8 : K.lookup f8 = some ⟨oc8, od8, .func (PySem.W.fnOf "__init__" "Seat.__init__" (defArgs sSeat) (defBody sSeat) (defScope sSeat) (.ref T8) kV8 dc8 pm8 an8 cd8 ct8), sl8⟩) (c8 : PySem.W.codeIn K cd8 "Seat.__init__" = true) (k8 : PySem.W.keepIn K (.ref f8) = true)
    (t8 : K.lookup T8 = some ⟨ocT8, odT8, .seq #[Value.bool false] nT8, slT8⟩)
    (a9 : PySem.W.findIn K (.ref C1) "__init__" = some (some (.ref f9))) (i9 : PySem.W.isFn K (.ref f9) = true)
    (l9 : K.lookup f9 = some ⟨oc9, od9, .func (PySem.W.fnOf "__init__" "Both.__init__" (defArgs sBoth) (defBody sBoth) (defScope sBoth) (.ref T9) kV9 dc9 pm9 an9 cd9 ct9), sl9⟩) (c9 : PySem.W.codeIn K cd9 "Both.__init__" = true) (k9 : PySem.W.keepIn K (.ref f9) = true)
    (t9 : K.lookup T9 = some ⟨ocT9, odT9, .seq #[Value.bool false] nT9, slT9⟩)
    (a10 : PySem.W.findIn K (.ref C2) "__init__" = some (some (.ref f10))) (i10 : PySem.W.isFn K (.ref f10) = true)
    (l10 : K.lookup f10 = some ⟨oc10, od10, .func (PySem.W.fnOf "__init__" "Tail.__init__" (defArgs sTail) (defBody sTail) (defScope sTail) .none kV10 dc10 pm10 an10 cd10 ct10), sl10⟩) (c10 : PySem.W.codeIn K cd10 "Tail.__init__" = true) (k10 : PySem.W.keepIn K (.ref f10) = true)
    (a11 : PySem.W.findIn K (.ref C3) "__init__" = some (some (.ref f11))) (i11 : PySem.W.isFn K (.ref f11) = true)
    (l11 : K.lookup f11 = some ⟨oc11, od11, .func (PySem.W.fnOf "__init__" "Tag.__init__" (defArgs sTag) (defBody sTag) (defScope sTag) (.ref T11) kV11 dc11 pm11 an11 cd11 ct11), sl11⟩) (c11 : PySem.W.codeIn K cd11 "Tag.__init__" = true) (k11 : PySem.W.keepIn K (.ref f11) = true)
    (t11 : K.lookup T11 = some ⟨ocT11, odT11, .seq #[Value.bool false] nT11, slT11⟩)
    (a12 : PySem.W.findIn K (.ref C4) "__init__" = some (some (.ref f12))) (i12 : PySem.W.isFn K (.ref f12) = true)
    (l12 : K.lookup f12 = some ⟨oc12, od12, .func (PySem.W.fnOf "__init__" "Bag.__init__" (defArgs sBag) (defBody sBag) (defScope sBag) .none kV12 dc12 pm12 an12 cd12 ct12), sl12⟩) (c12 : PySem.W.codeIn K cd12 "Bag.__init__" = true) (k12 : PySem.W.keepIn K (.ref f12) = true)
    (a13 : PySem.W.findIn K (.ref FM) "__init__" = some (some (.ref f13))) (i13 : PySem.W.isFn K (.ref f13) = true)
    (l13 : K.lookup f13 = some ⟨oc13, od13, .func (PySem.W.fnOf "__init__" "Form.__init__" (defArgs sFInit) (defBody sFInit) (defScope sFInit) (.ref T13) kV13 dc13 pm13 an13 cd13 ct13), sl13⟩) (c13 : PySem.W.codeIn K cd13 "Form.__init__" = true) (k13 : PySem.W.keepIn K (.ref f13) = true)
    (t13 : K.lookup T13 = some ⟨ocT13, odT13, .seq #[Value.none] nT13, slT13⟩)
    (a14 : PySem.W.findIn K (.ref FM) "keep" = some (some (.ref f14))) (i14 : PySem.W.isFn K (.ref f14) = true)
    (l14 : K.lookup f14 = some ⟨oc14, od14, .func (PySem.W.fnOf "keep" "Form.keep" (defArgs sKeep) (defBody sKeep) (defScope sKeep) .none kV14 dc14 pm14 an14 cd14 ct14), sl14⟩) (c14 : PySem.W.codeIn K cd14 "Form.keep" = true) (k14 : PySem.W.keepIn K (.ref f14) = true)
    (a15 : PySem.W.findIn K (.ref FM) "parameters" = some (some (.ref f15))) (i15 : PySem.W.isFn K (.ref f15) = true)
    (l15 : K.lookup f15 = some ⟨oc15, od15, .func (PySem.W.fnOf "parameters" "Form.parameters" (defArgs sFPars) (defBody sFPars) (defScope sFPars) .none kV15 dc15 pm15 an15 cd15 ct15), sl15⟩) (c15 : PySem.W.codeIn K cd15 "Form.parameters" = true) (k15 : PySem.W.keepIn K (.ref f15) = true)
    (a16 : PySem.W.findIn K (.ref FM) "tail" = some (some (.ref f16))) (i16 : PySem.W.isFn K (.ref f16) = true)
    (l16 : K.lookup f16 = some ⟨oc16, od16, .func (PySem.W.fnOf "tail" "Form.tail" (defArgs sFTail) (defBody sFTail) (defScope sFTail) .none kV16 dc16 pm16 an16 cd16 ct16), sl16⟩) (c16 : PySem.W.codeIn K cd16 "Form.tail" = true) (k16 : PySem.W.keepIn K (.ref f16) = true)
    (a17 : PySem.W.findIn K (.ref FM) "told" = some (some (.ref f17))) (i17 : PySem.W.isFn K (.ref f17) = true)
    (l17 : K.lookup f17 = some ⟨oc17, od17, .func (PySem.W.fnOf "told" "Form.told" (defArgs sFTold) (defBody sFTold) (defScope sFTold) .none kV17 dc17 pm17 an17 cd17 ct17), sl17⟩) (c17 : PySem.W.codeIn K cd17 "Form.told" = true) (k17 : PySem.W.keepIn K (.ref f17) = true)
    (a18 : PySem.W.findIn K (.ref Q0) "__init__" = some (some (.ref f18))) (i18 : PySem.W.isFn K (.ref f18) = true)
    (l18 : K.lookup f18 = some ⟨oc18, od18, .func (PySem.W.fnOf "__init__" "Told.__init__" (defArgs sDTold) (defBody sDTold) (defScope sDTold) .none kV18 dc18 pm18 an18 cd18 ct18), sl18⟩) (c18 : PySem.W.codeIn K cd18 "Told.__init__" = true) (k18 : PySem.W.keepIn K (.ref f18) = true)
    (a19 : PySem.W.findIn K (.ref Q3) "__init__" = some (some (.ref f19))) (i19 : PySem.W.isFn K (.ref f19) = true)
    (l19 : K.lookup f19 = some ⟨oc19, od19, .func (PySem.W.fnOf "__init__" "Sum.__init__" (defArgs sDSum) (defBody sDSum) (defScope sDSum) .none kV19 dc19 pm19 an19 cd19 ct19), sl19⟩) (c19 : PySem.W.codeIn K cd19 "Sum.__init__" = true) (k19 : PySem.W.keepIn K (.ref f19) = true)
    (a20 : PySem.W.findIn K (.ref ND) "__init__" = some (some (.ref f20))) (i20 : PySem.W.isFn K (.ref f20) = true)
    (l20 : K.lookup f20 = some ⟨oc20, od20, .func (PySem.W.fnOf "__init__" "NoDefault.__init__" (defArgs sXNoDef) (defBody sXNoDef) (defScope sXNoDef) .none kV20 dc20 pm20 an20 cd20 ct20), sl20⟩) (c20 : PySem.W.codeIn K cd20 "NoDefault.__init__" = true) (k20 : PySem.W.keepIn K (.ref f20) = true)
    (a21 : PySem.W.findIn K (.ref FU) "__init__" = some (some (.ref f21))) (i21 : PySem.W.isFn K (.ref f21) = true)
    (l21 : K.lookup f21 = some ⟨oc21, od21, .func (PySem.W.fnOf "__init__" "Function.__init__" (defArgs sUInit) (defBody sUInit) (defScope sUInit) .none kV21 dc21 pm21 an21 cd21 ct21), sl21⟩) (c21 : PySem.W.codeIn K cd21 "Function.__init__" = true) (k21 : PySem.W.keepIn K (.ref f21) = true)
    (a22 : PySem.W.findIn K (.ref FU) "form" = some (some (.ref f22))) (i22 : PySem.W.isFn K (.ref f22) = true)
    (l22 : K.lookup f22 = some ⟨oc22, od22, .func (PySem.W.fnOf "form" "Function.form" (defArgs sUForm) (defBody sUForm) (defScope sUForm) .none kV22 dc22 pm22 an22 cd22 ct22), sl22⟩) (c22 : PySem.W.codeIn K cd22 "Function.form" = true) (k22 : PySem.W.keepIn K (.ref f22) = true)
    (a23 : PySem.W.findIn K (.ref WE) "__init__" = some (some (.ref f23))) (i23 : PySem.W.isFn K (.ref f23) = true)
    (l23 : K.lookup f23 = some ⟨oc23, od23, .func (PySem.W.fnOf "__init__" "Well.__init__" (defArgs sWInit) (defBody sWInit) (defScope sWInit) (.ref T23) kV23 dc23 pm23 an23 cd23 ct23), sl23⟩) (c23 : PySem.W.codeIn K cd23 "Well.__init__" = true) (k23 : PySem.W.keepIn K (.ref f23) = true)
    (t23 : K.lookup T23 = some ⟨ocT23, odT23, .seq #[Value.int 1 tk1] nT23, slT23⟩)
    (a24 : PySem.W.findIn K (.ref WE) "draw" = some (some (.ref f24))) (i24 : PySem.W.isFn K (.ref f24) = true)
    (l24 : K.lookup f24 = some ⟨oc24, od24, .func (PySem.W.fnOf "draw" "Well.draw" (defArgs sWDraw) (defBody sWDraw) (defScope sWDraw) .none kV24 dc24 pm24 an24 cd24 ct24), sl24⟩) (c24 : PySem.W.codeIn K cd24 "Well.draw" = true) (k24 : PySem.W.keepIn K (.ref f24) = true)
    (a25 : PySem.W.findIn K (.ref WE) "ahead" = some (some (.ref f25))) (i25 : PySem.W.isFn K (.ref f25) = true)
    (l25 : K.lookup f25 = some ⟨oc25, od25, .func (PySem.W.fnOf "ahead" "Well.ahead" (defArgs sWAhead) (defBody sWAhead) (defScope sWAhead) .none kV25 dc25 pm25 an25 cd25 ct25), sl25⟩) (c25 : PySem.W.codeIn K cd25 "Well.ahead" = true) (k25 : PySem.W.keepIn K (.ref f25) = true)
    (a26 : PySem.W.nsIn K mainGlobals "parameter_of" = some (some (.ref f26)))
    (l26 : K.lookup f26 = some ⟨oc26, od26, .func (PySem.W.fnOf "parameter_of" "parameter_of" (defArgs sPof) (defBody sPof) (defScope sPof) .none kV26 dc26 pm26 an26 cd26 ct26), sl26⟩) (c26 : PySem.W.codeIn K cd26 "parameter_of" = true) (k26 : PySem.W.keepIn K (.ref f26) = true)
    (a27 : PySem.W.nsIn K mainGlobals "refuse_too_many" = some (some (.ref f27)))
    (l27 : K.lookup f27 = some ⟨oc27, od27, .func (PySem.W.fnOf "refuse_too_many" "refuse_too_many" (defArgs sRMany) (defBody sRMany) (defScope sRMany) .none kV27 dc27 pm27 an27 cd27 ct27), sl27⟩) (c27 : PySem.W.codeIn K cd27 "refuse_too_many" = true) (k27 : PySem.W.keepIn K (.ref f27) = true)
    (a28 : PySem.W.nsIn K mainGlobals "refuse_bad_order" = some (some (.ref f28)))
    (l28 : K.lookup f28 = some ⟨oc28, od28, .func (PySem.W.fnOf "refuse_bad_order" "refuse_bad_order" (defArgs sROrder) (defBody sROrder) (defScope sROrder) .none kV28 dc28 pm28 an28 cd28 ct28), sl28⟩) (c28 : PySem.W.codeIn K cd28 "refuse_bad_order" = true) (k28 : PySem.W.keepIn K (.ref f28) = true)
    (a29 : PySem.W.nsIn K mainGlobals "refuse_bars_without_name" = some (some (.ref f29)))
    (l29 : K.lookup f29 = some ⟨oc29, od29, .func (PySem.W.fnOf "refuse_bars_without_name" "refuse_bars_without_name" (defArgs sRBars) (defBody sRBars) (defScope sRBars) .none kV29 dc29 pm29 an29 cd29 ct29), sl29⟩) (c29 : PySem.W.codeIn K cd29 "refuse_bars_without_name" = true) (k29 : PySem.W.keepIn K (.ref f29) = true)
    (a30 : PySem.W.nsIn K mainGlobals "refuse_twice" = some (some (.ref f30)))
    (l30 : K.lookup f30 = some ⟨oc30, od30, .func (PySem.W.fnOf "refuse_twice" "refuse_twice" (defArgs sRTwice) (defBody sRTwice) (defScope sRTwice) .none kV30 dc30 pm30 an30 cd30 ct30), sl30⟩) (c30 : PySem.W.codeIn K cd30 "refuse_twice" = true) (k30 : PySem.W.keepIn K (.ref f30) = true)
    (a31 : PySem.W.nsIn K mainGlobals "number_of_word" = some (some (.ref f31)))
    (l31 : K.lookup f31 = some ⟨oc31, od31, .func (PySem.W.fnOf "number_of_word" "number_of_word" (defArgs sNumW) (defBody sNumW) (defScope sNumW) .none kV31 dc31 pm31 an31 cd31 ct31), sl31⟩) (c31 : PySem.W.codeIn K cd31 "number_of_word" = true) (k31 : PySem.W.keepIn K (.ref f31) = true)
    (a32 : PySem.W.nsIn K mainGlobals "free_numbers" = some (some (.ref f32)))
    (l32 : K.lookup f32 = some ⟨oc32, od32, .func (PySem.W.fnOf "free_numbers" "free_numbers" (defArgs sFreeN) (defBody sFreeN) (defScope sFreeN) .none kV32 dc32 pm32 an32 cd32 ct32), sl32⟩) (c32 : PySem.W.codeIn K cd32 "free_numbers" = true) (k32 : PySem.W.keepIn K (.ref f32) = true)
    (a33 : PySem.W.nsIn K mainGlobals "refuse_defaults" = some (some (.ref f33)))
    (l33 : K.lookup f33 = some ⟨oc33, od33, .func (PySem.W.fnOf "refuse_defaults" "refuse_defaults" (defArgs sRDef) (defBody sRDef) (defScope sRDef) .none kV33 dc33 pm33 an33 cd33 ct33), sl33⟩) (c33 : PySem.W.codeIn K cd33 "refuse_defaults" = true) (k33 : PySem.W.keepIn K (.ref f33) = true)
    (a34 : PySem.W.nsIn K mainGlobals "settled" = some (some (.ref f34)))
    (l34 : K.lookup f34 = some ⟨oc34, od34, .func (PySem.W.fnOf "settled" "settled" (defArgs sSettled) (defBody sSettled) (defScope sSettled) .none kV34 dc34 pm34 an34 cd34 ct34), sl34⟩) (c34 : PySem.W.codeIn K cd34 "settled" = true) (k34 : PySem.W.keepIn K (.ref f34) = true)
    (a35 : PySem.W.nsIn K mainGlobals "_law_nth" = some (some (.ref f35)))
    (l35 : K.lookup f35 = some ⟨oc35, od35, .func (PySem.W.fnOf "_law_nth" "_law_nth" (defArgs sNth) (defBody sNth) (defScope sNth) .none kV35 dc35 pm35 an35 cd35 ct35), sl35⟩) (c35 : PySem.W.codeIn K cd35 "_law_nth" = true) (k35 : PySem.W.keepIn K (.ref f35) = true)
    (a36 : PySem.W.nsIn K mainGlobals "_law_is_number" = some (some (.ref f36)))
    (l36 : K.lookup f36 = some ⟨oc36, od36, .func (PySem.W.fnOf "_law_is_number" "_law_is_number" (defArgs sNum) (defBody sNum) (defScope sNum) .none kV36 dc36 pm36 an36 cd36 ct36), sl36⟩) (c36 : PySem.W.codeIn K cd36 "_law_is_number" = true) (k36 : PySem.W.keepIn K (.ref f36) = true)
    (a37 : PySem.W.nsIn K mainGlobals "_law_mix" = some (some (.ref f37)))
    (l37 : K.lookup f37 = some ⟨oc37, od37, .func (PySem.W.fnOf "_law_mix" "_law_mix" (defArgs sMix) (defBody sMix) (defScope sMix) .none kV37 dc37 pm37 an37 cd37 ct37), sl37⟩) (c37 : PySem.W.codeIn K cd37 "_law_mix" = true) (k37 : PySem.W.keepIn K (.ref f37) = true)
    (a38 : PySem.W.nsIn K mainGlobals "_law_pool" = some (some (.ref f38)))
    (l38 : K.lookup f38 = some ⟨oc38, od38, .func (PySem.W.fnOf "_law_pool" "_law_pool" (defArgs sPool) (defBody sPool) (defScope sPool) .none kV38 dc38 pm38 an38 cd38 ct38), sl38⟩) (c38 : PySem.W.codeIn K cd38 "_law_pool" = true) (k38 : PySem.W.keepIn K (.ref f38) = true)
    (a39 : PySem.W.nsIn K mainGlobals "_law_specs" = some (some (.ref f39)))
    (l39 : K.lookup f39 = some ⟨oc39, od39, .func (PySem.W.fnOf "_law_specs" "_law_specs" (defArgs sSpecs) (defBody sSpecs) (defScope sSpecs) .none kV39 dc39 pm39 an39 cd39 ct39), sl39⟩) (c39 : PySem.W.codeIn K cd39 "_law_specs" = true) (k39 : PySem.W.keepIn K (.ref f39) = true)
    (a40 : PySem.W.nsIn K mainGlobals "_law_bars" = some (some (.ref f40)))
    (l40 : K.lookup f40 = some ⟨oc40, od40, .func (PySem.W.fnOf "_law_bars" "_law_bars" (defArgs sBars) (defBody sBars) (defScope sBars) .none kV40 dc40 pm40 an40 cd40 ct40), sl40⟩) (c40 : PySem.W.codeIn K cd40 "_law_bars" = true) (k40 : PySem.W.keepIn K (.ref f40) = true)
    (a41 : PySem.W.nsIn K mainGlobals "_law_thing" = some (some (.ref f41)))
    (l41 : K.lookup f41 = some ⟨oc41, od41, .func (PySem.W.fnOf "_law_thing" "_law_thing" (defArgs sThing) (defBody sThing) (defScope sThing) .none kV41 dc41 pm41 an41 cd41 ct41), sl41⟩) (c41 : PySem.W.codeIn K cd41 "_law_thing" = true) (k41 : PySem.W.keepIn K (.ref f41) = true)
    (a42 : PySem.W.nsIn K mainGlobals "_law_single" = some (some (.ref f42)))
    (l42 : K.lookup f42 = some ⟨oc42, od42, .func (PySem.W.fnOf "_law_single" "_law_single" (defArgs sSingle) (defBody sSingle) (defScope sSingle) .none kV42 dc42 pm42 an42 cd42 ct42), sl42⟩) (c42 : PySem.W.codeIn K cd42 "_law_single" = true) (k42 : PySem.W.keepIn K (.ref f42) = true)
    (a43 : PySem.W.nsIn K mainGlobals "_law_loose" = some (some (.ref f43)))
    (l43 : K.lookup f43 = some ⟨oc43, od43, .func (PySem.W.fnOf "_law_loose" "_law_loose" (defArgs sLoose) (defBody sLoose) (defScope sLoose) .none kV43 dc43 pm43 an43 cd43 ct43), sl43⟩) (c43 : PySem.W.codeIn K cd43 "_law_loose" = true) (k43 : PySem.W.keepIn K (.ref f43) = true)
    (a44 : PySem.W.nsIn K mainGlobals "_law_default" = some (some (.ref f44)))
    (l44 : K.lookup f44 = some ⟨oc44, od44, .func (PySem.W.fnOf "_law_default" "_law_default" (defArgs sDefault) (defBody sDefault) (defScope sDefault) .none kV44 dc44 pm44 an44 cd44 ct44), sl44⟩) (c44 : PySem.W.codeIn K cd44 "_law_default" = true) (k44 : PySem.W.keepIn K (.ref f44) = true)
    (a45 : PySem.W.nsIn K mainGlobals "_law_drawn" = some (some (.ref f45)))
    (l45 : K.lookup f45 = some ⟨oc45, od45, .func (PySem.W.fnOf "_law_drawn" "_law_drawn" (defArgs sDrawn) (defBody sDrawn) (defScope sDrawn) .none kV45 dc45 pm45 an45 cd45 ct45), sl45⟩) (c45 : PySem.W.codeIn K cd45 "_law_drawn" = true) (k45 : PySem.W.keepIn K (.ref f45) = true)
    (a46 : PySem.W.nsIn K mainGlobals "_law_read" = some (some (.ref f46)))
    (l46 : K.lookup f46 = some ⟨oc46, od46, .func (PySem.W.fnOf "_law_read" "_law_read" (defArgs sRead) (defBody sRead) (defScope sRead) .none kV46 dc46 pm46 an46 cd46 ct46), sl46⟩) (c46 : PySem.W.codeIn K cd46 "_law_read" = true) (k46 : PySem.W.keepIn K (.ref f46) = true)
    (a47 : PySem.W.nsIn K mainGlobals "_law_due" = some (some (.ref f47)))
    (l47 : K.lookup f47 = some ⟨oc47, od47, .func (PySem.W.fnOf "_law_due" "_law_due" (defArgs sDue) (defBody sDue) (defScope sDue) .none kV47 dc47 pm47 an47 cd47 ct47), sl47⟩) (c47 : PySem.W.codeIn K cd47 "_law_due" = true) (k47 : PySem.W.keepIn K (.ref f47) = true)
    (a48 : PySem.W.nsIn K mainGlobals "_law_other" = some (some (.ref f48)))
    (l48 : K.lookup f48 = some ⟨oc48, od48, .func (PySem.W.fnOf "_law_other" "_law_other" (defArgs sOther) (defBody sOther) (defScope sOther) .none kV48 dc48 pm48 an48 cd48 ct48), sl48⟩) (c48 : PySem.W.codeIn K cd48 "_law_other" = true) (k48 : PySem.W.keepIn K (.ref f48) = true)
    (a49 : PySem.W.nsIn K mainGlobals "_law_made" = some (some (.ref f49)))
    (l49 : K.lookup f49 = some ⟨oc49, od49, .func (PySem.W.fnOf "_law_made" "_law_made" (defArgs sLMade) (defBody sLMade) (defScope sLMade) .none kV49 dc49 pm49 an49 cd49 ct49), sl49⟩) (c49 : PySem.W.codeIn K cd49 "_law_made" = true) (k49 : PySem.W.keepIn K (.ref f49) = true)
    (a50 : PySem.W.nsIn K mainGlobals "law" = some (some (.ref f50)))
    (l50 : K.lookup f50 = some ⟨oc50, od50, .func (PySem.W.fnOf "law" "law" (defArgs sLaw) (defBody sLaw) (defScope sLaw) .none kV50 dc50 pm50 an50 cd50 ct50), sl50⟩) (c50 : PySem.W.codeIn K cd50 "law" = true) (k50 : PySem.W.keepIn K (.ref f50) = true)
    (zisinstance : PySem.W.nsIn K mainGlobals "isinstance" = some none)
    (zstr : PySem.W.nsIn K mainGlobals "str" = some none)
    (zbool : PySem.W.nsIn K mainGlobals "bool" = some none)
    (zlen : PySem.W.nsIn K mainGlobals "len" = some none)
    (zall : PySem.W.nsIn K mainGlobals "all" = some none)
    (zrange : PySem.W.nsIn K mainGlobals "range" = some none)
    (zlist : PySem.W.nsIn K mainGlobals "list" = some none)
    (zenumerate : PySem.W.nsIn K mainGlobals "enumerate" = some none)
    (zset : PySem.W.nsIn K mainGlobals "set" = some none)
    (ztuple : PySem.W.nsIn K mainGlobals "tuple" = some none)
    (zValueError : PySem.W.nsIn K mainGlobals "ValueError" = some none)
    (zint : PySem.W.nsIn K mainGlobals "int" = some none)
    (zzip : PySem.W.nsIn K mainGlobals "zip" = some none)
    (zmax : PySem.W.nsIn K mainGlobals "max" = some none)
    (gL : PySem.W.nsIn K mainGlobals "LETTERS" = some (some (.str letters tL)))
    (gN : PySem.W.nsIn K mainGlobals "LONGEST" = some (some (.int 8 tN)))
    (gMP : PySem.W.nsIn K mainGlobals "MOST_PARAMETERS" = some (some (.int 24 tMP)))
    (gMB : PySem.W.nsIn K mainGlobals "MOST_BARS" = some (some (.int 60 tMB)))
    (ytP : PySem.W.nsIn K mainGlobals "BY_PLACE" = some (some (.ref tP)))
    (utP : K.lookup tP = some ⟨.type "tuple", odtP, .seq #[.str "seat" ktP0, .str "both" ktP1] ntP, sltP⟩)
    (ytB : PySem.W.nsIn K mainGlobals "BY_NAME" = some (some (.ref tB)))
    (utB : K.lookup tB = some ⟨.type "tuple", odtB, .seq #[.str "both" ktB0, .str "tag" ktB1] ntB, sltB⟩)
    (ytO : PySem.W.nsIn K mainGlobals "OF_ONE_THING" = some (some (.ref tO)))
    (utO : K.lookup tO = some ⟨.type "tuple", odtO, .seq #[.str "seat" ktO0, .str "both" ktO1, .str "tag" ktO2] ntO, sltO⟩)
    (ysg : PySem.W.nsIn K mainGlobals "SINGLE_GROUPS" = some (some (.ref sg)))
    (usg : K.lookup sg = some ⟨.type "tuple", odsg, .seq #[.int 1 ksg0, .int 3 ksg1] nsg, slsg⟩)
    (yGr : PySem.W.nsIn K mainGlobals "GROUPS" = some (some (.ref Gr)))
    (lGr : K.lookup Gr = some ⟨.type "dict", none, .dict esG nG, #[]⟩)
    (kGr : PySem.W.KeysLit w.params esG.toList)
    (eG0 : PySem.W.nsIn K Gr "seat" = some (some (.int 0 kG0)))
    (eG1 : PySem.W.nsIn K Gr "both" = some (some (.int 0 kG1)))
    (eG2 : PySem.W.nsIn K Gr "tail" = some (some (.int 1 kG2)))
    (eG3 : PySem.W.nsIn K Gr "tag" = some (some (.int 2 kG3)))
    (eG4 : PySem.W.nsIn K Gr "bag" = some (some (.int 3 kG4)))
    (dga : PySem.W.specialIn K (.ref D) "__getattribute__" = some (some (.builtin "type.__getattribute__")))
    (drd : PySem.W.readsIn K D (.type "type") = true)
    (dfc : PySem.W.findCls K (.ref D) (.type "type") "__init__" = some (.val (.ref f2)))
    (h0_3 : PySem.W.findIn K (.ref C0) "free" = some (some (.ref f3)))
    (h0_4 : PySem.W.findIn K (.ref C0) "by_place" = some (some (.ref f4)))
    (h0_5 : PySem.W.findIn K (.ref C0) "by_name" = some (some (.ref f5)))
    (h0_6 : PySem.W.findIn K (.ref C0) "takes_one" = some (some (.ref f6)))
    (h0_7 : PySem.W.findIn K (.ref C0) "told" = some (some (.ref f7)))
    (h1_3 : PySem.W.findIn K (.ref C1) "free" = some (some (.ref f3)))
    (h1_4 : PySem.W.findIn K (.ref C1) "by_place" = some (some (.ref f4)))
    (h1_5 : PySem.W.findIn K (.ref C1) "by_name" = some (some (.ref f5)))
    (h1_6 : PySem.W.findIn K (.ref C1) "takes_one" = some (some (.ref f6)))
    (h1_7 : PySem.W.findIn K (.ref C1) "told" = some (some (.ref f7)))
    (h2_3 : PySem.W.findIn K (.ref C2) "free" = some (some (.ref f3)))
    (h2_4 : PySem.W.findIn K (.ref C2) "by_place" = some (some (.ref f4)))
    (h2_5 : PySem.W.findIn K (.ref C2) "by_name" = some (some (.ref f5)))
    (h2_6 : PySem.W.findIn K (.ref C2) "takes_one" = some (some (.ref f6)))
    (h2_7 : PySem.W.findIn K (.ref C2) "told" = some (some (.ref f7)))
    (h3_3 : PySem.W.findIn K (.ref C3) "free" = some (some (.ref f3)))
    (h3_4 : PySem.W.findIn K (.ref C3) "by_place" = some (some (.ref f4)))
    (h3_5 : PySem.W.findIn K (.ref C3) "by_name" = some (some (.ref f5)))
    (h3_6 : PySem.W.findIn K (.ref C3) "takes_one" = some (some (.ref f6)))
    (h3_7 : PySem.W.findIn K (.ref C3) "told" = some (some (.ref f7)))
    (h4_3 : PySem.W.findIn K (.ref C4) "free" = some (some (.ref f3)))
    (h4_4 : PySem.W.findIn K (.ref C4) "by_place" = some (some (.ref f4)))
    (h4_5 : PySem.W.findIn K (.ref C4) "by_name" = some (some (.ref f5)))
    (h4_6 : PySem.W.findIn K (.ref C4) "takes_one" = some (some (.ref f6)))
    (h4_7 : PySem.W.findIn K (.ref C4) "told" = some (some (.ref f7)))
    (yCE : PySem.W.nsIn K mainGlobals "CallError" = some (some (.ref CE)))
    (yND : PySem.W.nsIn K mainGlobals "NoDefault" = some (some (.ref ND)))
    (yDF : PySem.W.nsIn K mainGlobals "Default" = some (some (.ref DF)))
    (xgt : PySem.W.specialIn K (.builtin "object.__class__") "__get__" = some (some (.builtin "getset_descriptor.__get__")))
    (xtk : PySem.W.takesIn K (.builtin "object.__class__") = some true)
    (yO0 : PySem.W.nsIn K mainGlobals "Again" = some (some (.ref O0)))
    (yO1 : PySem.W.nsIn K mainGlobals "BadOrder" = some (some (.ref O1)))
    (yO2 : PySem.W.nsIn K mainGlobals "Barred" = some (some (.ref O2)))
    (yO3 : PySem.W.nsIn K mainGlobals "Doubled" = some (some (.ref O3)))
    (yO4 : PySem.W.nsIn K mainGlobals "Lacking" = some (some (.ref O4)))
    (yO5 : PySem.W.nsIn K mainGlobals "Misfit" = some (some (.ref O5)))
    (yO6 : PySem.W.nsIn K mainGlobals "NoChange" = some (some (.ref O6)))
    (yO7 : PySem.W.nsIn K mainGlobals "NoName" = some (some (.ref O7)))
    (yO8 : PySem.W.nsIn K mainGlobals "NoRow" = some (some (.ref O8)))
    (yO9 : PySem.W.nsIn K mainGlobals "NoText" = some (some (.ref O9)))
    (yO10 : PySem.W.nsIn K mainGlobals "Over" = some (some (.ref O10)))
    (yO11 : PySem.W.nsIn K mainGlobals "Strange" = some (some (.ref O11)))
    (yO12 : PySem.W.nsIn K mainGlobals "TooMany" = some (some (.ref O12)))
    (yO13 : PySem.W.nsIn K mainGlobals "Twice" = some (some (.ref O13)))
    (yO14 : PySem.W.nsIn K mainGlobals "Unknown" = some (some (.ref O14)))
    (xo : PySem.W.excIn K O7 [.type "ValueError", .type "Exception", .type "BaseException", .type "object"] "ValueError.__new__" = true)
    (ec : (PySem.W.clsIn K ND).isSome = true)
    (ea : PySem.W.findIn K (.ref ND) "__getattribute__" = some (some (.builtin "BaseException.__getattribute__")))
    (en : PySem.W.findIn K (.ref ND) "__getattr__" = some none)
    (el : PySem.W.findIn K (.ref ND) "__class__" = some (some (.builtin "object.__class__")))
    (eb : PySem.W.mroIn K ND (.type "BaseException") = some true)
    (eo : PySem.W.mroIn K ND (.type "object") = some true)
    (xm : L2.xmIn K ND = true)
    (ek : PySem.W.keepIn K (.ref ND) = true)
    (kn : PySem.W.kitOne K (.ref ND) (.ref ND) = some true)
    (kv : PySem.W.kitOne K (.ref ND) (.type "ValueError") = some true)
    (ka : PySem.W.kitAny K (.ref ND) [.ref O0, .ref O1, .ref O2, .ref O3, .ref O4, .ref O5, .ref O6, .ref O7, .ref O8, .ref O9, .ref O10] = some false)
    (kb : PySem.W.kitAny K (.ref ND) [.ref O11, .ref O12, .ref O13, .ref O14] = some false)
    (em : PySem.W.exmOne K (.ref ND) (.ref CE) = some true)
    (ei : PySem.W.findIn K (.ref ND) "__init__" = some (some (.ref f20)))
    (es : PySem.W.specialIn K (.ref ND) "__call__" = some (some (.builtin "type.__call__")))
    (et : PySem.W.instIn K (.ref ND) (.type "type") = some true)
    (xt : L2.xtIn K ND = true)
    (ef : PySem.W.findIn K (.ref ND) "__setattr__" = some (some (.builtin "object.__setattr__")))
    (eq : PySem.W.findIn K (.ref ND) "number" = some none)
    (qc0 : PySem.W.findIn K (.ref Q0) "__class__" = some (some (.builtin "object.__class__")))
    (qm0 : PySem.W.mroIn K Q0 (.type "object") = some true)
    (q0_0 : PySem.W.kitOne K (.ref Q0) (.ref Q0) = some true)
    (q0_1 : PySem.W.kitOne K (.ref Q0) (.ref Q1) = some false)
    (q0_2 : PySem.W.kitOne K (.ref Q0) (.ref Q2) = some false)
    (q0_3 : PySem.W.kitOne K (.ref Q0) (.ref Q3) = some false)
    (qd0 : PySem.W.kitOne K (.ref Q0) (.ref DF) = some true)
    (qc1 : PySem.W.findIn K (.ref Q1) "__class__" = some (some (.builtin "object.__class__")))
    (qm1 : PySem.W.mroIn K Q1 (.type "object") = some true)
    (q1_0 : PySem.W.kitOne K (.ref Q1) (.ref Q0) = some false)
    (q1_1 : PySem.W.kitOne K (.ref Q1) (.ref Q1) = some true)
    (q1_2 : PySem.W.kitOne K (.ref Q1) (.ref Q2) = some false)
    (q1_3 : PySem.W.kitOne K (.ref Q1) (.ref Q3) = some false)
    (qd1 : PySem.W.kitOne K (.ref Q1) (.ref DF) = some true)
    (qc2 : PySem.W.findIn K (.ref Q2) "__class__" = some (some (.builtin "object.__class__")))
    (qm2 : PySem.W.mroIn K Q2 (.type "object") = some true)
    (q2_0 : PySem.W.kitOne K (.ref Q2) (.ref Q0) = some false)
    (q2_1 : PySem.W.kitOne K (.ref Q2) (.ref Q1) = some false)
    (q2_2 : PySem.W.kitOne K (.ref Q2) (.ref Q2) = some true)
    (q2_3 : PySem.W.kitOne K (.ref Q2) (.ref Q3) = some false)
    (qd2 : PySem.W.kitOne K (.ref Q2) (.ref DF) = some true)
    (qc3 : PySem.W.findIn K (.ref Q3) "__class__" = some (some (.builtin "object.__class__")))
    (qm3 : PySem.W.mroIn K Q3 (.type "object") = some true)
    (q3_0 : PySem.W.kitOne K (.ref Q3) (.ref Q0) = some false)
    (q3_1 : PySem.W.kitOne K (.ref Q3) (.ref Q1) = some false)
    (q3_2 : PySem.W.kitOne K (.ref Q3) (.ref Q2) = some false)
    (q3_3 : PySem.W.kitOne K (.ref Q3) (.ref Q3) = some true)
    (qd3 : PySem.W.kitOne K (.ref Q3) (.ref DF) = some true)
    (qi1 : PySem.W.findIn K (.ref Q1) "__init__" = some (some (.builtin "object.__init__")))
    (qi2 : PySem.W.findIn K (.ref Q2) "__init__" = some (some (.builtin "object.__init__")))
    : ∃ fd : FuncData, (∀ (s : Shared) (v : Value), BindsTo s fd ⟨[v], []⟩ [("_law_script", v)]) ∧ ∀ base : Heap, K.In base → base.Ns mainGlobals mg → FnOk l.prog w K mg base CX0 7 fa fd ["_law_script"] (spLawU K) := by
  have e := hfa.symm.trans (PySem.W.mg_of X G a50)
  cases e
  have F1 := fun_mk (st := sIs) l1 c1 k1
  have b1 := F1.binds (ps := ["thing"]) fun _ _ _ _ _ _ us hl => match us, hl with | [_], _ => rfl
  have F2 := fun_mk (st := sPInit) l2 c2 k2
  have b2 := F2.binds (ps := ["self", "word", "name", "may_lack"]) fun _ _ _ _ _ _ us hl => match us, hl with | [_, _, _, _], _ => rfl
  have F3 := fun_mk (st := sFree) l3 c3 k3
  have b3 := F3.binds (ps := ["self"]) fun _ _ _ _ _ _ us hl => match us, hl with | [_], _ => rfl
  have F4 := fun_mk (st := sByPlace) l4 c4 k4
  have b4 := F4.binds (ps := ["self"]) fun _ _ _ _ _ _ us hl => match us, hl with | [_], _ => rfl
  have F5 := fun_mk (st := sByName) l5 c5 k5
  have b5 := F5.binds (ps := ["self"]) fun _ _ _ _ _ _ us hl => match us, hl with | [_], _ => rfl
  have F6 := fun_mk (st := sTakes) l6 c6 k6
  have b6 := F6.binds (ps := ["self"]) fun _ _ _ _ _ _ us hl => match us, hl with | [_], _ => rfl
  have F7 := fun_mk (st := sTold) l7 c7 k7
  have b7 := F7.binds (ps := ["self"]) fun _ _ _ _ _ _ us hl => match us, hl with | [_], _ => rfl
  have F8 := funD_mk (st := sSeat) (items := [Value.bool false]) l8 c8 k8 t8 rfl
  have F9 := funD_mk (st := sBoth) (items := [Value.bool false]) l9 c9 k9 t9 rfl
  have F10 := fun_mk (st := sTail) l10 c10 k10
  have b10 := F10.binds (ps := ["self", "name"]) fun _ _ _ _ _ _ us hl => match us, hl with | [_, _], _ => rfl
  have F11 := funD_mk (st := sTag) (items := [Value.bool false]) l11 c11 k11 t11 rfl
  have F12 := fun_mk (st := sBag) l12 c12 k12
  have b12 := F12.binds (ps := ["self", "name"]) fun _ _ _ _ _ _ us hl => match us, hl with | [_, _], _ => rfl
  have F13 := funD_mk (st := sFInit) (items := [Value.none]) l13 c13 k13 t13 rfl
  have F14 := fun_mk (st := sKeep) l14 c14 k14
  have b14 := F14.binds (ps := ["self", "parameters", "bars"]) fun _ _ _ _ _ _ us hl => match us, hl with | [_, _, _], _ => rfl
  have F15 := fun_mk (st := sFPars) l15 c15 k15
  have b15 := F15.binds (ps := ["self"]) fun _ _ _ _ _ _ us hl => match us, hl with | [_], _ => rfl
  have F16 := fun_mk (st := sFTail) l16 c16 k16
  have b16 := F16.binds (ps := ["self"]) fun _ _ _ _ _ _ us hl => match us, hl with | [_], _ => rfl
  have F17 := fun_mk (st := sFTold) l17 c17 k17
  have b17 := F17.binds (ps := ["self"]) fun _ _ _ _ _ _ us hl => match us, hl with | [_], _ => rfl
  have F18 := fun_mk (st := sDTold) l18 c18 k18
  have b18 := F18.binds (ps := ["self", "number"]) fun _ _ _ _ _ _ us hl => match us, hl with | [_, _], _ => rfl
  have F19 := fun_mk (st := sDSum) l19 c19 k19
  have b19 := F19.binds (ps := ["self", "at", "times", "plus"]) fun _ _ _ _ _ _ us hl => match us, hl with | [_, _, _, _], _ => rfl
  have F20 := fun_mk (st := sXNoDef) l20 c20 k20
  have b20 := F20.binds (ps := ["self", "number"]) fun _ _ _ _ _ _ us hl => match us, hl with | [_, _], _ => rfl
  have F21 := fun_mk (st := sUInit) l21 c21 k21
  have b21 := F21.binds (ps := ["self", "form", "defaults", "well"]) fun _ _ _ _ _ _ us hl => match us, hl with | [_, _, _, _], _ => rfl
  have F22 := fun_mk (st := sUForm) l22 c22 k22
  have b22 := F22.binds (ps := ["self"]) fun _ _ _ _ _ _ us hl => match us, hl with | [_], _ => rfl
  have F23 := funD_mk (st := sWInit) (items := [Value.int 1 tk1]) l23 c23 k23 t23 rfl
  have F24 := fun_mk (st := sWDraw) l24 c24 k24
  have b24 := F24.binds (ps := ["self"]) fun _ _ _ _ _ _ us hl => match us, hl with | [_], _ => rfl
  have F25 := fun_mk (st := sWAhead) l25 c25 k25
  have b25 := F25.binds (ps := ["self"]) fun _ _ _ _ _ _ us hl => match us, hl with | [_], _ => rfl
  have F26 := fun_mk (st := sPof) l26 c26 k26
  have b26 := F26.binds (ps := ["told"]) fun _ _ _ _ _ _ us hl => match us, hl with | [_], _ => rfl
  have F27 := fun_mk (st := sRMany) l27 c27 k27
  have b27 := F27.binds (ps := ["parameters", "bars"]) fun _ _ _ _ _ _ us hl => match us, hl with | [_, _], _ => rfl
  have F28 := fun_mk (st := sROrder) l28 c28 k28
  have b28 := F28.binds (ps := ["parameters"]) fun _ _ _ _ _ _ us hl => match us, hl with | [_], _ => rfl
  have F29 := fun_mk (st := sRBars) l29 c29 k29
  have b29 := F29.binds (ps := ["bars"]) fun _ _ _ _ _ _ us hl => match us, hl with | [_], _ => rfl
  have F30 := fun_mk (st := sRTwice) l30 c30 k30
  have b30 := F30.binds (ps := ["parameters", "bars"]) fun _ _ _ _ _ _ us hl => match us, hl with | [_, _], _ => rfl
  have F31 := fun_mk (st := sNumW) l31 c31 k31
  have b31 := F31.binds (ps := ["parameters", "word"]) fun _ _ _ _ _ _ us hl => match us, hl with | [_, _], _ => rfl
  have F32 := fun_mk (st := sFreeN) l32 c32 k32
  have b32 := F32.binds (ps := ["form"]) fun _ _ _ _ _ _ us hl => match us, hl with | [_], _ => rfl
  have F33 := fun_mk (st := sRDef) l33 c33 k33
  have b33 := F33.binds (ps := ["form", "defaults"]) fun _ _ _ _ _ _ us hl => match us, hl with | [_, _], _ => rfl
  have F34 := fun_mk (st := sSettled) l34 c34 k34
  have b34 := F34.binds (ps := ["form", "defaults", "well"]) fun _ _ _ _ _ _ us hl => match us, hl with | [_, _, _], _ => rfl
  have F35 := fun_mk (st := sNth) l35 c35 k35
  have b35 := F35.binds (ps := ["_law_script", "_law_k"]) fun _ _ _ _ _ _ us hl => match us, hl with | [_, _], _ => rfl
  have F36 := fun_mk (st := sNum) l36 c36 k36
  have b36 := F36.binds (ps := ["_law_found"]) fun _ _ _ _ _ _ us hl => match us, hl with | [_], _ => rfl
  have F37 := fun_mk (st := sMix) l37 c37 k37
  have b37 := F37.binds (ps := ["_law_cell", "_law_k"]) fun _ _ _ _ _ _ us hl => match us, hl with | [_, _], _ => rfl
  have F38 := fun_mk (st := sPool) l38 c38 k38
  have b38 := F38.binds (ps := ["_law_cell"]) fun _ _ _ _ _ _ us hl => match us, hl with | [_], _ => rfl
  have F39 := fun_mk (st := sSpecs) l39 c39 k39
  have b39 := F39.binds (ps := ["_law_cells", "_law_pool_here"]) fun _ _ _ _ _ _ us hl => match us, hl with | [_, _], _ => rfl
  have F40 := fun_mk (st := sBars) l40 c40 k40
  have b40 := F40.binds (ps := ["_law_cells", "_law_pool_here", "_law_specs_here"]) fun _ _ _ _ _ _ us hl => match us, hl with | [_, _, _], _ => rfl
  have F41 := fun_mk (st := sThing) l41 c41 k41
  have b41 := F41.binds (ps := ["_law_cell"]) fun _ _ _ _ _ _ us hl => match us, hl with | [_], _ => rfl
  have F42 := fun_mk (st := sSingle) l42 c42 k42
  have b42 := F42.binds (ps := ["_law_specs_here", "_law_p"]) fun _ _ _ _ _ _ us hl => match us, hl with | [_, _], _ => rfl
  have F43 := fun_mk (st := sLoose) l43 c43 k43
  have b43 := F43.binds (ps := ["_law_specs_here"]) fun _ _ _ _ _ _ us hl => match us, hl with | [_], _ => rfl
  have F44 := fun_mk (st := sDefault) l44 c44 k44
  have b44 := F44.binds (ps := ["_law_told"]) fun _ _ _ _ _ _ us hl => match us, hl with | [_], _ => rfl
  have F45 := fun_mk (st := sDrawn) l45 c45 k45
  have b45 := F45.binds (ps := ["_law_cell", "_law_many"]) fun _ _ _ _ _ _ us hl => match us, hl with | [_, _], _ => rfl
  have F46 := fun_mk (st := sRead) l46 c46 k46
  have b46 := F46.binds (ps := ["_law_one"]) fun _ _ _ _ _ _ us hl => match us, hl with | [_], _ => rfl
  have F47 := fun_mk (st := sDue) l47 c47 k47
  have b47 := F47.binds (ps := ["_law_specs_here", "_law_told"]) fun _ _ _ _ _ _ us hl => match us, hl with | [_, _], _ => rfl
  have F48 := fun_mk (st := sOther) l48 c48 k48
  have b48 := F48.binds (ps := ["_law_e"]) fun _ _ _ _ _ _ us hl => match us, hl with | [_], _ => rfl
  have F49 := fun_mk (st := sLMade) l49 c49 k49
  have b49 := F49.binds (ps := ["_law_shape", "_law_defaults", "_law_well"]) fun _ _ _ _ _ _ us hl => match us, hl with | [_, _, _], _ => rfl
  have F50 := fun_mk (st := sLaw) l50 c50 k50
  have no : ∀ {x : Str}, PySem.W.nsIn K mainGlobals x = some none → mg x = none := fun z => PySem.W.mg_none_of X G z
  have T : Txt1 K mg := ⟨no zisinstance, no zstr, no zbool, no zlen, no zall, no zrange, ⟨tL, PySem.W.mg_of X G gL⟩, ⟨tN, PySem.W.mg_of X G gN⟩, kt_NoneType_str K, kt_int_str K, kt_bool_str K, kt_list_str K, kt_tuple_str K, kt_dict_str K, kt_str_str K, kt_bool_bool K⟩
  have Wd : Wds K mg tP tB tO := ⟨PySem.W.mg_of X G ytP, PySem.W.mg_of X G ytB, PySem.W.mg_of X G ytO, fun H => .inr ⟨_, _, _, utP, rfl, rfl, (by show 2 ≤ sizeLine; decide), .cons ⟨_, rfl⟩ (.cons ⟨_, rfl⟩ (.nil))⟩, fun H => .inr ⟨_, _, _, utB, rfl, rfl, (by show 2 ≤ sizeLine; decide), .cons ⟨_, rfl⟩ (.cons ⟨_, rfl⟩ (.nil))⟩, fun H => .inr ⟨_, _, _, utO, rfl, rfl, (by show 3 ≤ sizeLine; decide), .cons ⟨_, rfl⟩ (.cons ⟨_, rfl⟩ (.cons ⟨_, rfl⟩ (.nil)))⟩⟩
  have TF : TxtF w K mg Gr sg := ⟨no zlen, no zenumerate, no zlist, no zset, ⟨tMP, PySem.W.mg_of X G gMP⟩, ⟨tMB, PySem.W.mg_of X G gMB⟩, PySem.W.mg_of X G yGr, ktab_of lGr kGr eG0 eG1 eG2 eG3 eG4, PySem.W.mg_of X G ysg, fun H => .inr ⟨_, _, _, usg, rfl, rfl, (by show 2 ≤ sizeLine; decide), .cons ⟨_, rfl⟩ (.cons ⟨_, rfl⟩ .nil)⟩⟩
  have pc0 : PC K ⟨f3, f4, f5, f6, f7⟩ C0 := ⟨⟨pgC0, hdC0, poC0, saC0⟩, nC0_word, nC0_name, nC0_may_lack, ⟨h0_3, i3, k3⟩, ⟨h0_4, i4, k4⟩, ⟨h0_5, i5, k5⟩, ⟨h0_6, i6, k6⟩, ⟨h0_7, i7, k7⟩⟩
  have pc1 : PC K ⟨f3, f4, f5, f6, f7⟩ C1 := ⟨⟨pgC1, hdC1, poC1, saC1⟩, nC1_word, nC1_name, nC1_may_lack, ⟨h1_3, i3, k3⟩, ⟨h1_4, i4, k4⟩, ⟨h1_5, i5, k5⟩, ⟨h1_6, i6, k6⟩, ⟨h1_7, i7, k7⟩⟩
  have pc2 : PC K ⟨f3, f4, f5, f6, f7⟩ C2 := ⟨⟨pgC2, hdC2, poC2, saC2⟩, nC2_word, nC2_name, nC2_may_lack, ⟨h2_3, i3, k3⟩, ⟨h2_4, i4, k4⟩, ⟨h2_5, i5, k5⟩, ⟨h2_6, i6, k6⟩, ⟨h2_7, i7, k7⟩⟩
  have pc3 : PC K ⟨f3, f4, f5, f6, f7⟩ C3 := ⟨⟨pgC3, hdC3, poC3, saC3⟩, nC3_word, nC3_name, nC3_may_lack, ⟨h3_3, i3, k3⟩, ⟨h3_4, i4, k4⟩, ⟨h3_5, i5, k5⟩, ⟨h3_6, i6, k6⟩, ⟨h3_7, i7, k7⟩⟩
  have pc4 : PC K ⟨f3, f4, f5, f6, f7⟩ C4 := ⟨⟨pgC4, hdC4, poC4, saC4⟩, nC4_word, nC4_name, nC4_may_lack, ⟨h4_3, i3, k3⟩, ⟨h4_4, i4, k4⟩, ⟨h4_5, i5, k5⟩, ⟨h4_6, i6, k6⟩, ⟨h4_7, i7, k7⟩⟩
  have PP : Pcs K ⟨f3, f4, f5, f6, f7⟩ ⟨C0, C1, C2, C3, C4⟩ := fun k hk => by
    rcases lt5 hk with rfl | rfl | rfl | rfl | rfl
    · exact pc0
    · exact pc1
    · exact pc2
    · exact pc3
    · exact pc4
  have FK : FC K FM := ⟨⟨pgFM, hdFM, poFM, saFM⟩, nFM_row, nFM_bar_names, nFM_place_count, nFM_tail_number, nFM_bag_number, nFM_doors⟩
  let oc : Nat → Addr := fun j => match j with | 0 => O0 | 1 => O1 | 2 => O2 | 3 => O3 | 4 => O4 | 5 => O5 | 6 => O6 | 7 => O7 | 8 => O8 | 9 => O9 | 10 => O10 | 11 => O11 | 12 => O12 | 13 => O13 | _ => O14
  have ex : ExcCls K ND := ⟨ec, ea, en, el, xgt, xtk, eb, eo⟩
  have so : SortN K oc ND CE := ⟨ex, ⟨xt, ef, eo⟩, eq, ka, kb, kn, kv, em⟩
  have UW : TxtW mg oc ND CE FU := ⟨no zisinstance, no zValueError, PySem.W.mg_of X G yND, PySem.W.mg_of X G yCE, PySem.W.mg_of X G aFU, PySem.W.mg_of X G yO0, PySem.W.mg_of X G yO1, PySem.W.mg_of X G yO2, PySem.W.mg_of X G yO3, PySem.W.mg_of X G yO4, PySem.W.mg_of X G yO5, PySem.W.mg_of X G yO6, PySem.W.mg_of X G yO7, PySem.W.mg_of X G yO8, PySem.W.mg_of X G yO9, PySem.W.mg_of X G yO10, PySem.W.mg_of X G yO11, PySem.W.mg_of X G yO12, PySem.W.mg_of X G yO13, PySem.W.mg_of X G yO14⟩
  have UL : TxtL mg := ⟨no zisinstance, no zint, no zlen, no zrange, no zlist, no zzip, no zmax⟩
  have DK : D4 K mg ⟨Q0, Q1, Q2, Q3⟩ DF := ⟨fun k hk H p dx fs e => match k, hk, e with | 0, _, e => TyOf.ins (C := Q0) e ⟨pgQ0, hdQ0, poQ0, saQ0⟩ qc0 xgt xtk qm0 | 1, _, e => TyOf.ins (C := Q1) e ⟨pgQ1, hdQ1, poQ1, saQ1⟩ qc1 xgt xtk qm1 | 2, _, e => TyOf.ins (C := Q2) e ⟨pgQ2, hdQ2, poQ2, saQ2⟩ qc2 xgt xtk qm2 | 3, _, e => TyOf.ins (C := Q3) e ⟨pgQ3, hdQ3, poQ3, saQ3⟩ qc3 xgt xtk qm3 | k + 4, h, _ => absurd h (by omega), fun k hk l hl => match k, hk, l, hl with | 0, _, 0, _ => q0_0 | 0, _, 1, _ => q0_1 | 0, _, 2, _ => q0_2 | 0, _, 3, _ => q0_3 | 1, _, 0, _ => q1_0 | 1, _, 1, _ => q1_1 | 1, _, 2, _ => q1_2 | 1, _, 3, _ => q1_3 | 2, _, 0, _ => q2_0 | 2, _, 1, _ => q2_1 | 2, _, 2, _ => q2_2 | 2, _, 3, _ => q2_3 | 3, _, 0, _ => q3_0 | 3, _, 1, _ => q3_1 | 3, _, 2, _ => q3_2 | 3, _, 3, _ => q3_3 | k + 4, h, _, _ => absurd h (by omega) | _, _, l + 4, h => absurd h (by omega), fun k hk => match k, hk with | 0, _ => qd0 | 1, _ => qd1 | 2, _ => qd2 | 3, _ => qd3 | k + 4, h => absurd h (by omega), ⟨pgQ0, hdQ0, poQ0, saQ0⟩, ⟨pgQ3, hdQ3, poQ3, saQ3⟩, nQ0_number, nQ3_at, nQ3_times, nQ3_plus, PySem.W.mg_of X G aQ0, PySem.W.mg_of X G aQ1, PySem.W.mg_of X G aQ2, PySem.W.mg_of X G aQ3, PySem.W.mg_of X G yDF⟩
  have WC : WellC K mg WE := ⟨⟨pgWE, hdWE, poWE, saWE⟩, nWE_coming, PySem.W.mg_of X G aWE⟩
  have UK : K42.UC K FU := ⟨⟨pgFU, hdFU, poFU, saFU⟩, nFU_kept_form, nFU_well, nFU_defaults⟩
  have b23 : Binds K _ ["self", "first"] [] := fun s us KX hl => match us, hl with | [u, v], _ => F23.bindsTo (fun _ _ _ _ _ _ _ => ⟨_, rfl, rfl⟩) KX
  have b8_0 : Binds K _ ["self", "name", "free"] [] := fun s us KX hl => match us, hl with | [u, v, x], _ => F8.bindsTo (fun _ _ _ _ _ _ _ => ⟨_, rfl, rfl⟩) KX
  have b8_1 : Binds K _ ["self", "name", "free"] [.bool false] := fun s us KX hl => match us, (show us.length = 2 by simpa using hl) with | [u, v], _ => F8.bindsTo (fun _ _ _ _ _ _ _ => ⟨_, rfl, rfl⟩) KX
  have b8_2 : KBinds K _ ["self", "name", "free"] ["free"] g21 g21 := ⟨fun s us ws KX hl => match us, ws, hl with | [u, v], [x], _ => F8.bindsTo (fun _ _ _ _ _ _ _ => ⟨_, rfl, rfl⟩) KX, fun r z => g21_rel r z⟩
  have b9_0 : Binds K _ ["self", "name", "free"] [] := fun s us KX hl => match us, hl with | [u, v, x], _ => F9.bindsTo (fun _ _ _ _ _ _ _ => ⟨_, rfl, rfl⟩) KX
  have b9_1 : Binds K _ ["self", "name", "free"] [.bool false] := fun s us KX hl => match us, (show us.length = 2 by simpa using hl) with | [u, v], _ => F9.bindsTo (fun _ _ _ _ _ _ _ => ⟨_, rfl, rfl⟩) KX
  have b9_2 : KBinds K _ ["self", "name", "free"] ["free"] g21 g21 := ⟨fun s us ws KX hl => match us, ws, hl with | [u, v], [x], _ => F9.bindsTo (fun _ _ _ _ _ _ _ => ⟨_, rfl, rfl⟩) KX, fun r z => g21_rel r z⟩
  have b11_0 : Binds K _ ["self", "name", "free"] [] := fun s us KX hl => match us, hl with | [u, v, x], _ => F11.bindsTo (fun _ _ _ _ _ _ _ => ⟨_, rfl, rfl⟩) KX
  have b11_1 : Binds K _ ["self", "name", "free"] [.bool false] := fun s us KX hl => match us, (show us.length = 2 by simpa using hl) with | [u, v], _ => F11.bindsTo (fun _ _ _ _ _ _ _ => ⟨_, rfl, rfl⟩) KX
  have b11_2 : KBinds K _ ["self", "name", "free"] ["free"] g21 g21 := ⟨fun s us ws KX hl => match us, ws, hl with | [u, v], [x], _ => F11.bindsTo (fun _ _ _ _ _ _ _ => ⟨_, rfl, rfl⟩) KX, fun r z => g21_rel r z⟩
  have b13_0 : Binds K _ ["self", "parameters", "bars"] [] := fun s us KX hl => match us, hl with | [u, v, x], _ => F13.bindsTo (fun _ _ _ _ _ _ _ => ⟨_, rfl, rfl⟩) KX
  have b13_1 : Binds K _ ["self", "parameters", "bars"] [.none] := fun s us KX hl => match us, (show us.length = 2 by simpa using hl) with | [u, v], _ => F13.bindsTo (fun _ _ _ _ _ _ _ => ⟨_, rfl, rfl⟩) KX
  have b13_2 : KBinds K _ ["self", "parameters", "bars"] ["bars"] g21 g21 := ⟨fun s us ws KX hl => match us, ws, hl with | [u, v], [x], _ => F13.bindsTo (fun _ _ _ _ _ _ _ => ⟨_, rfl, rfl⟩) KX, fun r z => g21_rel r z⟩
  refine ⟨PySem.W.fnOf "law" "law" (defArgs sLaw) (defBody sLaw) (defScope sLaw) .none kV50 dc50 pm50 an50 cd50 ct50, fun s v => .of_eq rfl, fun base KB GB => ?_⟩
  have cI : Callee l.prog w K mg base 1 "is_name" f1 _ ["thing"] (spIs K) := ⟨ok_is F1 T , PySem.W.mg_of X G a1, k1, b1⟩
  have GP : FnOk l.prog w K mg base (CXe l.prog w) 2 f2 _ ["self", "word", "name", "may_lack"] (spP K ⟨f3, f4, f5, f6, f7⟩ O7) := ok_pinit F2 (own_in KB GB yO7 xo) cI
  have CB : ClsFn K D "__init__" f2 := ⟨dga, drd, dfc, k2⟩
  have mD := PySem.W.mg_of X G aD
  have UCt : Ctors l.prog w K mg base ⟨C0, C1, C2, C3, C4⟩ O7 f8 f9 f10 f11 f12 _ _ _ _ _ := ⟨⟨⟨mkC0, a8, i8, kcC0⟩, ok_seat F8 pc0 CB mD GP b2, PySem.W.mg_of X G aC0, b8_0⟩, ⟨⟨mkC0, a8, i8, kcC0⟩, ok_seat F8 pc0 CB mD GP b2, PySem.W.mg_of X G aC0, b8_1⟩, b8_2, ⟨⟨mkC1, a9, i9, kcC1⟩, ok_both F9 pc1 CB mD GP b2, PySem.W.mg_of X G aC1, b9_0⟩, ⟨⟨mkC1, a9, i9, kcC1⟩, ok_both F9 pc1 CB mD GP b2, PySem.W.mg_of X G aC1, b9_1⟩, b9_2, ⟨⟨mkC2, a10, i10, kcC2⟩, ok_tail F10 pc2 CB mD GP b2, PySem.W.mg_of X G aC2, b10⟩, ⟨⟨mkC3, a11, i11, kcC3⟩, ok_tag F11 pc3 CB mD GP b2, PySem.W.mg_of X G aC3, b11_0⟩, ⟨⟨mkC3, a11, i11, kcC3⟩, ok_tag F11 pc3 CB mD GP b2, PySem.W.mg_of X G aC3, b11_1⟩, b11_2, ⟨⟨mkC4, a12, i12, kcC4⟩, ok_bag F12 pc4 CB mD GP b2, PySem.W.mg_of X G aC4, b12⟩⟩
  have GF : FnOk l.prog w K mg base CX0 1 f3 _ ["self"] (spFree K ⟨f3, f4, f5, f6, f7⟩) := ok_free F3
  have GQ : FnOk l.prog w K mg base CX0 1 f4 _ ["self"] (spIn K ⟨f3, f4, f5, f6, f7⟩ bpL) := ok_by_place F4 Wd
  have GN : FnOk l.prog w K mg base CX0 1 f5 _ ["self"] (spIn K ⟨f3, f4, f5, f6, f7⟩ bnL) := ok_by_name F5 Wd
  have cM1 : Callee l.prog w K mg base 1 "refuse_too_many" f27 _ ["parameters", "bars"] (spMany K) := ⟨ok_many F27 TF , PySem.W.mg_of X G a27, k27, b27⟩
  have cM2 : Callee l.prog w K mg base 1 "refuse_bad_order" f28 _ ["parameters"] (spOrd ⟨C0, C1, C2, C3, C4⟩) := ⟨ok_order F28 TF PP , PySem.W.mg_of X G a28, k28, b28⟩
  have cM3 : Callee l.prog w K mg base 2 "refuse_bars_without_name" f29 _ ["bars"] spRB := ⟨ok_rbars F29 cI , PySem.W.mg_of X G a29, k29, b29⟩
  have cM4 : Callee l.prog w K mg base 2 "refuse_twice" f30 _ ["parameters", "bars"] (spTw ⟨C0, C1, C2, C3, C4⟩) := ⟨ok_twice F30 TF PP GN b5 , PySem.W.mg_of X G a30, k30, b30⟩
  have cW : Callee l.prog w K mg base 1 "number_of_word" f31 _ ["parameters", "word"] (spNW ⟨C0, C1, C2, C3, C4⟩) := ⟨ok_numw F31 TF PP , PySem.W.mg_of X G a31, k31, b31⟩
  have GK : FnOk l.prog w K mg base CX0 2 f14 _ ["self", "parameters", "bars"] (spKeep ⟨C0, C1, C2, C3, C4⟩ FM) := ok_keep F14 TF PP FK cW GQ b4 GN b5
  have GI : FnOk l.prog w K mg base CX0 3 f13 _ ["self", "parameters", "bars"] (spFI ⟨C0, C1, C2, C3, C4⟩ FM) := ok_finit F13 FK ⟨a14, i14, k14⟩ cM1 cM2 cM3 cM4 GK b14
  have kF0 : Ctor l.prog w K mg base CX0 3 "Form" FM f13 _ ["self", "parameters", "bars"] [] (spFI ⟨C0, C1, C2, C3, C4⟩ FM) := ⟨⟨mkFM, a13, i13, kcFM⟩, GI, PySem.W.mg_of X G aFM, b13_0⟩
  have kF1 : Ctor l.prog w K mg base CX0 3 "Form" FM f13 _ ["self", "parameters", "bars"] [.none] (spFI ⟨C0, C1, C2, C3, C4⟩ FM) := ⟨⟨mkFM, a13, i13, kcFM⟩, GI, PySem.W.mg_of X G aFM, b13_1⟩
  have mpa : Meth K FM "parameters" f15 := ⟨a15, i15, k15⟩
  have Gpa : FnOk l.prog w K mg base CX0 1 f15 _ ["self"] (spPars ⟨C0, C1, C2, C3, C4⟩ FM) := ok_fpars F15 TF FK
  have mta : Meth K FM "tail" f16 := ⟨a16, i16, k16⟩
  have Gta : FnOk l.prog w K mg base CX0 1 f16 _ ["self"] (spWord ⟨C0, C1, C2, C3, C4⟩ FM 2) := ok_ftail F16 FK
  have GTk : FnOk l.prog w K mg base CX0 1 f6 _ ["self"] (spIn K ⟨f3, f4, f5, f6, f7⟩ otL) := ok_takes_one F6 Wd
  have cFn : Callee l.prog w K mg base 2 "free_numbers" f32 _ ["form"] (spFN ⟨C0, C1, C2, C3, C4⟩ FM) := ⟨ok_fn F32 (no zenumerate) PP FK mpa Gpa b15 GTk b6 GF b3 , PySem.W.mg_of X G a32, k32, b32⟩
  have x0 : XCls l.prog w K mg base "NoDefault" ND f20 _ "number" "number" := ⟨⟨xm, ei, i20, es, et, ek⟩, ⟨xt, ef, eo⟩, eq, ex, PySem.W.mg_of X G yND, ok_xnd F20, b20⟩
  have cRd : CalleeS l.prog w K mg base 3 "refuse_defaults" f33 _ ["form", "defaults"] (spRDef ⟨C0, C1, C2, C3, C4⟩ ⟨Q0, Q1, Q2, Q3⟩ FM ND) := ⟨ok_rdef F33 UL FK DK cFn mpa Gpa b15 mta Gta b16 x0 , PySem.W.mg_of X G a33, k33, b33⟩
  have kT : Ctor l.prog w K mg base CX0 1 "Told" Q0 f18 _ ["self", "number"] [] (spD1 Q0) := ⟨⟨mkQ0, a18, i18, kcQ0⟩, ok_dTold F18 ⟨pgQ0, hdQ0, poQ0, saQ0⟩ nQ0_number, PySem.W.mg_of X G aQ0, b18⟩
  have kS : Ctor l.prog w K mg base CX0 1 "Sum" Q3 f19 _ ["self", "at", "times", "plus"] [] (spD3 Q3) := ⟨⟨mkQ3, a19, i19, kcQ3⟩, ok_dSum F19 ⟨pgQ3, hdQ3, poQ3, saQ3⟩ nQ3_at nQ3_times nQ3_plus, PySem.W.mg_of X G aQ3, b19⟩
  have k4 : Ctors4 l.prog w K mg base ⟨Q0, Q1, Q2, Q3⟩ f18 f19 _ _ := ⟨kT, kS, ⟨mkQ1, qi1, kcQ1⟩, ⟨mkQ2, qi2, kcQ2⟩, PySem.W.mg_of X G aQ1, PySem.W.mg_of X G aQ2⟩
  have GD : FnOk l.prog w K mg base CX0 1 f24 _ ["self"] (spDraw WE) := ok_wdraw F24 WC
  have GA : FnOk l.prog w K mg base CX0 1 f25 _ ["self"] (spAhead WE) := ok_wahead F25 WC
  have kW : Ctor l.prog w K mg base CX0 1 "Well" WE f23 _ ["self", "first"] [] (spInit WE) := ⟨⟨mkWE, a23, i23, kcWE⟩, ok_winit F23 WC, PySem.W.mg_of X G aWE, b23⟩
  have cSe : Callee l.prog w K mg base 3 "settled" f34 _ ["form", "defaults", "well"] (spSet ⟨C0, C1, C2, C3, C4⟩ ⟨Q0, Q1, Q2, Q3⟩ FM WE) := ⟨ok_set F34 UL DK WC cFn ⟨a24, i24, k24⟩ GD b24 kT , PySem.W.mg_of X G a34, k34, b34⟩
  have GU : FnOk l.prog w K mg base (CXs l.prog w) 4 f21 _ ["self", "form", "defaults", "well"] (spUI ⟨C0, C1, C2, C3, C4⟩ ⟨Q0, Q1, Q2, Q3⟩ FM ND WE FU) := ok_uinit F21 UK cRd cSe
  have GUF : FnOk l.prog w K mg base CX0 1 f22 _ ["self"] (spUF FU) := ok_uform F22 UK
  have GO : FnOk l.prog w K mg base CX0 2 f7 _ ["self"] (spTold K ⟨f3, f4, f5, f6, f7⟩) := ok_told F7 GTk b6
  have GFT : FnOk l.prog w K mg base CX0 3 f17 _ ["self"] (spFTold ⟨C0, C1, C2, C3, C4⟩ FM) := ok_ftold F17 TF FK PP GO b7
  have mFT : Meth K FM "told" f17 := ⟨a17, i17, k17⟩
  have cPo : CalleeE l.prog w K mg base 5 "parameter_of" f26 _ ["told"] (spPof K ⟨C0, C1, C2, C3, C4⟩ O7) := ⟨ok_pof F26 UCt , PySem.W.mg_of X G a26, k26, b26⟩
  have cN : Callee l.prog w K mg base 1 "_law_nth" f35 _ ["_law_script", "_law_k"] (spNthB K) := ⟨ok_nth F35 UL , PySem.W.mg_of X G a35, k35, b35⟩
  have cNu : Callee l.prog w K mg base 1 "_law_is_number" f36 _ ["_law_found"] spOneI := ⟨ok_num F36 UL , PySem.W.mg_of X G a36, k36, b36⟩
  have cMx : Callee l.prog w K mg base 1 "_law_mix" f37 _ ["_law_cell", "_law_k"] spMix := ⟨ok_mix F37 , PySem.W.mg_of X G a37, k37, b37⟩
  have cPl : Callee l.prog w K mg base 2 "_law_pool" f38 _ ["_law_cell"] (spPool K) := ⟨ok_pool F38 UL cMx , PySem.W.mg_of X G a38, k38, b38⟩
  have cSp : Callee l.prog w K mg base 1 "_law_specs" f39 _ ["_law_cells", "_law_pool_here"] (spSpecs K) := ⟨ok_specs F39 UL , PySem.W.mg_of X G a39, k39, b39⟩
  have cBr : Callee l.prog w K mg base 1 "_law_bars" f40 _ ["_law_cells", "_law_pool_here", "_law_specs_here"] (spLBars K) := ⟨ok_lbars F40 UL , PySem.W.mg_of X G a40, k40, b40⟩
  have cTh : Callee l.prog w K mg base 1 "_law_thing" f41 _ ["_law_cell"] spThg := ⟨ok_thg F41 , PySem.W.mg_of X G a41, k41, b41⟩
  have cSg : Callee l.prog w K mg base 1 "_law_single" f42 _ ["_law_specs_here", "_law_p"] spSgl := ⟨ok_sgl F42 UL , PySem.W.mg_of X G a42, k42, b42⟩
  have cLo : Callee l.prog w K mg base 2 "_law_loose" f43 _ ["_law_specs_here"] spLoose := ⟨ok_loose F43 UL cSg , PySem.W.mg_of X G a43, k43, b43⟩
  have cDf : Callee l.prog w K mg base 3 "_law_default" f44 _ ["_law_told"] (spDef K ⟨Q0, Q1, Q2, Q3⟩) := ⟨ok_def F44 k4 , PySem.W.mg_of X G a44, k44, b44⟩
  have cDr : Callee l.prog w K mg base 2 "_law_drawn" f45 _ ["_law_cell", "_law_many"] spDrawn := ⟨ok_drawn F45 cMx cTh , PySem.W.mg_of X G a45, k45, b45⟩
  have cRe : Callee l.prog w K mg base 1 "_law_read" f46 _ ["_law_one"] (spRead ⟨Q0, Q1, Q2, Q3⟩) := ⟨ok_read F46 UL DK , PySem.W.mg_of X G a46, k46, b46⟩
  have cDu : Callee l.prog w K mg base 3 "_law_due" f47 _ ["_law_specs_here", "_law_told"] spDue := ⟨ok_due F47 UL cLo cSg , PySem.W.mg_of X G a47, k47, b47⟩
  have cOt : CalleeH l.prog w K mg base 1 "_law_other" f48 _ ["_law_e"] (spOther ND) := ⟨fun ea => ok_other F48 UW so ea , PySem.W.mg_of X G a48, k48, b48⟩
  have cMd : Callee l.prog w K mg base 6 "_law_made" f49 _ ["_law_shape", "_law_defaults", "_law_well"] (spMadeU ⟨C0, C1, C2, C3, C4⟩ ⟨Q0, Q1, Q2, Q3⟩ FM WE FU) := ⟨ok_lmade F49 UW so ⟨mkFU, a21, i21, kcFU⟩ GU b21 cOt , PySem.W.mg_of X G a49, k49, b49⟩
  exact ok_law F50 UL cN cPl cSp cTh cLo cDr cMx cBr cPo cDf cRe cMd cDu cNu (PySem.W.mg_of X G aFM) ⟨mkFM, a13, i13, kcFM⟩ GI b13_0 FK mFT GFT b17 WC kW ⟨a25, i25, k25⟩ GA b25 (PySem.W.mg_of X G aFU) ⟨mkFU, a21, i21, kcFU⟩ GU b21 UK ⟨a22, i22, k22⟩ GUF b22 kT
theorem walk {l : PySem.W.OpenLaw} {q : Program} {loose : List Str} {XP : (Str → Option Value) → Heap → Prop} {YP : World → Heap → Prop} {d : DefRec} {K : Params → PySem.W.Frag} (hn : l.most = some 63) (hdf : d.params.defaults = [])
    (hY : ∀ (w : World) (h : Heap), YP w h → (K w.params).In h)
    (F : ∀ (w : World) (mg : Str → Option Value) (fa : Addr) (h : Heap), (K w.params).In h → h.Ns mainGlobals mg → mg d.name = some (.ref fa) →
      ∃ fd : FuncData, (∀ (s : Shared) (u : Value), BindsTo s fd ⟨[u], []⟩ [("_law_script", u)]) ∧ ∀ base : Heap, (K w.params).In base → base.Ns mainGlobals mg → FnOk l.prog w (K w.params) mg base CX0 7 fa fd ["_law_script"] (spLawU (K w.params))) :
    PySem.W.WalkO q loose XP YP l.row.toRowW d [] (fun f vs => PySem.call f vs) :=
  L2.walk_of (n := 63) (k := 7) (x := "_law_script") (CX := fun _ => CX0) (sp := fun w => spLawU (K w.params)) hn (by decide) hdf ⟨rfl, by decide, by decide⟩ hY F (fun _ _ a ns hl _ hS => ⟨a, ns, rfl, hS, hl, fun _ => rfl⟩) fun _ _ _ _ _ z => z
end K42
open PySem PySem.W PyProof.Rows
set_option maxRecDepth 100000 in
set_option maxHeartbeats 0 in
theorem PySem.Challenge.cw_callbinds_k42_defaults_refused_holds : PySem.Challenge.rw_callbinds_k42_defaults_refused.Holds := by
  w_on; o_law; k_head; (case hw => w_witness2)
  k_fill
  refine K42.walk (l := PySem.Challenge.rw_callbinds_k42_defaults_refused) rfl rfl (fun w h Y => PySem.W.kIn_of Y) ?F
  case F =>
    intro w mg fa h KX G hmg
    refine' K42.all_mk KX G hmg ?aD ?pgD ?hdD ?poD ?saD ?mkD ?kcD ?aC0 ?pgC0 ?hdC0 ?poC0 ?saC0 ?mkC0 ?kcC0 ?nC0_word ?nC0_name ?nC0_may_lack ?aC1 ?pgC1 ?hdC1 ?poC1 ?saC1 ?mkC1 ?kcC1 ?nC1_word ?nC1_name ?nC1_may_lack ?aC2 ?pgC2 ?hdC2 ?poC2 ?saC2 ?mkC2 ?kcC2 ?nC2_word ?nC2_name ?nC2_may_lack ?aC3 ?pgC3 ?hdC3 ?poC3 ?saC3 ?mkC3 ?kcC3 ?nC3_word ?nC3_name ?nC3_may_lack ?aC4 ?pgC4 ?hdC4 ?poC4 ?saC4 ?mkC4 ?kcC4 ?nC4_word ?nC4_name ?nC4_may_lack ?aFM ?pgFM ?hdFM ?poFM ?saFM ?mkFM ?kcFM ?nFM_row ?nFM_bar_names ?nFM_place_count ?nFM_tail_number ?nFM_bag_number ?nFM_doors ?aQ0 ?pgQ0 ?hdQ0 ?poQ0 ?saQ0 ?mkQ0 ?kcQ0 ?nQ0_number ?aQ1 ?pgQ1 ?hdQ1 ?poQ1 ?saQ1 ?mkQ1 ?kcQ1 ?aQ2 ?pgQ2 ?hdQ2 ?poQ2 ?saQ2 ?mkQ2 ?kcQ2 ?aQ3 ?pgQ3 ?hdQ3 ?poQ3 ?saQ3 ?mkQ3 ?kcQ3 ?nQ3_at ?nQ3_times ?nQ3_plus ?aFU ?pgFU ?hdFU ?poFU ?saFU ?mkFU ?kcFU ?nFU_kept_form ?nFU_well ?nFU_defaults ?aWE ?pgWE ?hdWE ?poWE ?saWE ?mkWE ?kcWE ?nWE_coming ?a1 ?l1 ?c1 ?k1 ?a2 ?i2 ?l2 ?c2 ?k2 ?a3 ?i3 ?l3 ?c3 ?k3 ?a4 ?i4 ?l4 ?c4 ?k4 ?a5 ?i5 ?l5 ?c5 ?k5 ?a6 ?i6 ?l6 ?c6 ?k6 ?a7 ?i7 ?l7 ?c7 ?k7 ?a8 ?i8 ?l8 ?c8 ?k8 ?t8 ?a9 ?i9 ?l9 ?c9 ?k9 ?t9 ?a10 ?i10 ?l10 ?c10 ?k10 ?a11 ?i11 ?l11 ?c11 ?k11 ?t11 ?a12 ?i12 ?l12 ?c12 ?k12 ?a13 ?i13 ?l13 ?c13 ?k13 ?t13 ?a14 ?i14 ?l14 ?c14 ?k14 ?a15 ?i15 ?l15 ?c15 ?k15 ?a16 ?i16 ?l16 ?c16 ?k16 ?a17 ?i17 ?l17 ?c17 ?k17 ?a18 ?i18 ?l18 ?c18 ?k18 ?a19 ?i19 ?l19 ?c19 ?k19 ?a20 ?i20 ?l20 ?c20 ?k20 ?a21 ?i21 ?l21 ?c21 ?k21 ?a22 ?i22 ?l22 ?c22 ?k22 ?a23 ?i23 ?l23 ?c23 ?k23 ?t23 ?a24 ?i24 ?l24 ?c24 ?k24 ?a25 ?i25 ?l25 ?c25 ?k25 ?a26 ?l26 ?c26 ?k26 ?a27 ?l27 ?c27 ?k27 ?a28 ?l28 ?c28 ?k28 ?a29 ?l29 ?c29 ?k29 ?a30 ?l30 ?c30 ?k30 ?a31 ?l31 ?c31 ?k31 ?a32 ?l32 ?c32 ?k32 ?a33 ?l33 ?c33 ?k33 ?a34 ?l34 ?c34 ?k34 ?a35 ?l35 ?c35 ?k35 ?a36 ?l36 ?c36 ?k36 ?a37 ?l37 ?c37 ?k37 ?a38 ?l38 ?c38 ?k38 ?a39 ?l39 ?c39 ?k39 ?a40 ?l40 ?c40 ?k40 ?a41 ?l41 ?c41 ?k41 ?a42 ?l42 ?c42 ?k42 ?a43 ?l43 ?c43 ?k43 ?a44 ?l44 ?c44 ?k44 ?a45 ?l45 ?c45 ?k45 ?a46 ?l46 ?c46 ?k46 ?a47 ?l47 ?c47 ?k47 ?a48 ?l48 ?c48 ?k48 ?a49 ?l49 ?c49 ?k49 ?a50 ?l50 ?c50 ?k50 ?zisinstance ?zstr ?zbool ?zlen ?zall ?zrange ?zlist ?zenumerate ?zset ?ztuple ?zValueError ?zint ?zzip ?zmax ?gL ?gN ?gMP ?gMB ?ytP ?utP ?ytB ?utB ?ytO ?utO ?ysg ?usg ?yGr ?lGr ?kGr ?eG0 ?eG1 ?eG2 ?eG3 ?eG4 ?dga ?drd ?dfc ?h0_3 ?h0_4 ?h0_5 ?h0_6 ?h0_7 ?h1_3 ?h1_4 ?h1_5 ?h1_6 ?h1_7 ?h2_3 ?h2_4 ?h2_5 ?h2_6 ?h2_7 ?h3_3 ?h3_4 ?h3_5 ?h3_6 ?h3_7 ?h4_3 ?h4_4 ?h4_5 ?h4_6 ?h4_7 ?yCE ?yND ?yDF ?xgt ?xtk ?yO0 ?yO1 ?yO2 ?yO3 ?yO4 ?yO5 ?yO6 ?yO7 ?yO8 ?yO9 ?yO10 ?yO11 ?yO12 ?yO13 ?yO14 ?xo ?ec ?ea ?en ?el ?eb ?eo ?xm ?ek ?kn ?kv ?ka ?kb ?em ?ei ?es ?et ?xt ?ef ?eq ?qc0 ?qm0 ?q0_0 ?q0_1 ?q0_2 ?q0_3 ?qd0 ?qc1 ?qm1 ?q1_0 ?q1_1 ?q1_2 ?q1_3 ?qd1 ?qc2 ?qm2 ?q2_0 ?q2_1 ?q2_2 ?q2_3 ?qd2 ?qc3 ?qm3 ?q3_0 ?q3_1 ?q3_2 ?q3_3 ?qd3 ?qi1 ?qi2
    (case yCE => k_is)
    (case yND => k_is)
    (case yDF => k_is)
    (case yO0 => k_is)
    (case yO1 => k_is)
    (case yO2 => k_is)
    (case yO3 => k_is)
    (case yO4 => k_is)
    (case yO5 => k_is)
    (case yO6 => k_is)
    (case yO7 => k_is)
    (case yO8 => k_is)
    (case yO9 => k_is)
    (case yO10 => k_is)
    (case yO11 => k_is)
    (case yO12 => k_is)
    (case yO13 => k_is)
    (case yO14 => k_is)
    (case aD => k_is)
    (case pgD => k_is)
    (case hdD => k_is)
    (case poD => k_is)
    (case saD => k_is)
    (case mkD => k_is)
    (case kcD => k_is)
    (case aC0 => k_is)
    (case pgC0 => k_is)
    (case hdC0 => k_is)
    (case poC0 => k_is)
    (case saC0 => k_is)
    (case mkC0 => k_is)
    (case kcC0 => k_is)
    (case nC0_word => k_is)
    (case nC0_name => k_is)
    (case nC0_may_lack => k_is)
    (case aC1 => k_is)
    (case pgC1 => k_is)
    (case hdC1 => k_is)
    (case poC1 => k_is)
    (case saC1 => k_is)
    (case mkC1 => k_is)
    (case kcC1 => k_is)
    (case nC1_word => k_is)
    (case nC1_name => k_is)
    (case nC1_may_lack => k_is)
    (case aC2 => k_is)
    (case pgC2 => k_is)
    (case hdC2 => k_is)
    (case poC2 => k_is)
    (case saC2 => k_is)
    (case mkC2 => k_is)
    (case kcC2 => k_is)
    (case nC2_word => k_is)
    (case nC2_name => k_is)
    (case nC2_may_lack => k_is)
    (case aC3 => k_is)
    (case pgC3 => k_is)
    (case hdC3 => k_is)
    (case poC3 => k_is)
    (case saC3 => k_is)
    (case mkC3 => k_is)
    (case kcC3 => k_is)
    (case nC3_word => k_is)
    (case nC3_name => k_is)
    (case nC3_may_lack => k_is)
    (case aC4 => k_is)
    (case pgC4 => k_is)
    (case hdC4 => k_is)
    (case poC4 => k_is)
    (case saC4 => k_is)
    (case mkC4 => k_is)
    (case kcC4 => k_is)
    (case nC4_word => k_is)
    (case nC4_name => k_is)
    (case nC4_may_lack => k_is)
    (case aFM => k_is)
    (case pgFM => k_is)
    (case hdFM => k_is)
    (case poFM => k_is)
    (case saFM => k_is)
    (case mkFM => k_is)
    (case kcFM => k_is)
    (case nFM_row => k_is)
    (case nFM_bar_names => k_is)
    (case nFM_place_count => k_is)
    (case nFM_tail_number => k_is)
    (case nFM_bag_number => k_is)
    (case nFM_doors => k_is)
    (case aQ0 => k_is)
    (case pgQ0 => k_is)
    (case hdQ0 => k_is)
    (case poQ0 => k_is)
    (case saQ0 => k_is)
    (case mkQ0 => k_is)
    (case kcQ0 => k_is)
    (case nQ0_number => k_is)
    (case aQ1 => k_is)
    (case pgQ1 => k_is)
    (case hdQ1 => k_is)
    (case poQ1 => k_is)
    (case saQ1 => k_is)
    (case mkQ1 => k_is)
    (case kcQ1 => k_is)
    (case aQ2 => k_is)
    (case pgQ2 => k_is)
    (case hdQ2 => k_is)
    (case poQ2 => k_is)
    (case saQ2 => k_is)
    (case mkQ2 => k_is)
    (case kcQ2 => k_is)
    (case aQ3 => k_is)
    (case pgQ3 => k_is)
    (case hdQ3 => k_is)
    (case poQ3 => k_is)
    (case saQ3 => k_is)
    (case mkQ3 => k_is)
    (case kcQ3 => k_is)
    (case nQ3_at => k_is)
    (case nQ3_times => k_is)
    (case nQ3_plus => k_is)
    (case aFU => k_is)
    (case pgFU => k_is)
    (case hdFU => k_is)
    (case poFU => k_is)
    (case saFU => k_is)
    (case mkFU => k_is)
    (case kcFU => k_is)
    (case nFU_kept_form => k_is)
    (case nFU_well => k_is)
    (case nFU_defaults => k_is)
    (case aWE => k_is)
    (case pgWE => k_is)
    (case hdWE => k_is)
    (case poWE => k_is)
    (case saWE => k_is)
    (case mkWE => k_is)
    (case kcWE => k_is)
    (case nWE_coming => k_is)
    (case a1 => k_is)
    (case l1 => k_is)
    (case c1 => k_is)
    (case k1 => k_is)
    (case a2 => k_is)
    (case i2 => k_is)
    (case l2 => k_is)
    (case c2 => k_is)
    (case k2 => k_is)
    (case a3 => k_is)
    (case i3 => k_is)
    (case l3 => k_is)
    (case c3 => k_is)
    (case k3 => k_is)
    (case a4 => k_is)
    (case i4 => k_is)
    (case l4 => k_is)
    (case c4 => k_is)
    (case k4 => k_is)
    (case a5 => k_is)
    (case i5 => k_is)
    (case l5 => k_is)
    (case c5 => k_is)
    (case k5 => k_is)
    (case a6 => k_is)
    (case i6 => k_is)
    (case l6 => k_is)
    (case c6 => k_is)
    (case k6 => k_is)
    (case a7 => k_is)
    (case i7 => k_is)
    (case l7 => k_is)
    (case c7 => k_is)
    (case k7 => k_is)
    (case a8 => k_is)
    (case i8 => k_is)
    (case l8 => k_is)
    (case c8 => k_is)
    (case k8 => k_is)
    (case t8 => k_is)
    (case a9 => k_is)
    (case i9 => k_is)
    (case l9 => k_is)
    (case c9 => k_is)
    (case k9 => k_is)
    (case t9 => k_is)
    (case a10 => k_is)
    (case i10 => k_is)
    (case l10 => k_is)
    (case c10 => k_is)
    (case k10 => k_is)
    (case a11 => k_is)
    (case i11 => k_is)
    (case l11 => k_is)
    (case c11 => k_is)
    (case k11 => k_is)
    (case t11 => k_is)
    (case a12 => k_is)
    (case i12 => k_is)
    (case l12 => k_is)
    (case c12 => k_is)
    (case k12 => k_is)
    (case a13 => k_is)
    (case i13 => k_is)
    (case l13 => k_is)
    (case c13 => k_is)
    (case k13 => k_is)
    (case t13 => k_is)
    (case a14 => k_is)
    (case i14 => k_is)
    (case l14 => k_is)
    (case c14 => k_is)
    (case k14 => k_is)
    (case a15 => k_is)
    (case i15 => k_is)
    (case l15 => k_is)
    (case c15 => k_is)
    (case k15 => k_is)
    (case a16 => k_is)
    (case i16 => k_is)
    (case l16 => k_is)
    (case c16 => k_is)
    (case k16 => k_is)
    (case a17 => k_is)
    (case i17 => k_is)
    (case l17 => k_is)
    (case c17 => k_is)
    (case k17 => k_is)
    (case a18 => k_is)
    (case i18 => k_is)
    (case l18 => k_is)
    (case c18 => k_is)
    (case k18 => k_is)
    (case a19 => k_is)
    (case i19 => k_is)
    (case l19 => k_is)
    (case c19 => k_is)
    (case k19 => k_is)
    (case a20 => k_is)
    (case i20 => k_is)
    (case l20 => k_is)
    (case c20 => k_is)
    (case k20 => k_is)
    (case a21 => k_is)
    (case i21 => k_is)
    (case l21 => k_is)
    (case c21 => k_is)
    (case k21 => k_is)
    (case a22 => k_is)
    (case i22 => k_is)
    (case l22 => k_is)
    (case c22 => k_is)
    (case k22 => k_is)
    (case a23 => k_is)
    (case i23 => k_is)
    (case l23 => k_is)
    (case c23 => k_is)
    (case k23 => k_is)
    (case t23 => k_is)
    (case a24 => k_is)
    (case i24 => k_is)
    (case l24 => k_is)
    (case c24 => k_is)
    (case k24 => k_is)
    (case a25 => k_is)
    (case i25 => k_is)
    (case l25 => k_is)
    (case c25 => k_is)
    (case k25 => k_is)
    (case a26 => k_is)
    (case l26 => k_is)
    (case c26 => k_is)
    (case k26 => k_is)
    (case a27 => k_is)
    (case l27 => k_is)
    (case c27 => k_is)
    (case k27 => k_is)
    (case a28 => k_is)
    (case l28 => k_is)
    (case c28 => k_is)
    (case k28 => k_is)
    (case a29 => k_is)
    (case l29 => k_is)
    (case c29 => k_is)
    (case k29 => k_is)
    (case a30 => k_is)
    (case l30 => k_is)
    (case c30 => k_is)
    (case k30 => k_is)
    (case a31 => k_is)
    (case l31 => k_is)
    (case c31 => k_is)
    (case k31 => k_is)
    (case a32 => k_is)
    (case l32 => k_is)
    (case c32 => k_is)
    (case k32 => k_is)
    (case a33 => k_is)
    (case l33 => k_is)
    (case c33 => k_is)
    (case k33 => k_is)
    (case a34 => k_is)
    (case l34 => k_is)
    (case c34 => k_is)
    (case k34 => k_is)
    (case a35 => k_is)
    (case l35 => k_is)
    (case c35 => k_is)
    (case k35 => k_is)
    (case a36 => k_is)
    (case l36 => k_is)
    (case c36 => k_is)
    (case k36 => k_is)
    (case a37 => k_is)
    (case l37 => k_is)
    (case c37 => k_is)
    (case k37 => k_is)
    (case a38 => k_is)
    (case l38 => k_is)
    (case c38 => k_is)
    (case k38 => k_is)
    (case a39 => k_is)
    (case l39 => k_is)
    (case c39 => k_is)
    (case k39 => k_is)
    (case a40 => k_is)
    (case l40 => k_is)
    (case c40 => k_is)
    (case k40 => k_is)
    (case a41 => k_is)
    (case l41 => k_is)
    (case c41 => k_is)
    (case k41 => k_is)
    (case a42 => k_is)
    (case l42 => k_is)
    (case c42 => k_is)
    (case k42 => k_is)
    (case a43 => k_is)
    (case l43 => k_is)
    (case c43 => k_is)
    (case k43 => k_is)
    (case a44 => k_is)
    (case l44 => k_is)
    (case c44 => k_is)
    (case k44 => k_is)
    (case a45 => k_is)
    (case l45 => k_is)
    (case c45 => k_is)
    (case k45 => k_is)
    (case a46 => k_is)
    (case l46 => k_is)
    (case c46 => k_is)
    (case k46 => k_is)
    (case a47 => k_is)
    (case l47 => k_is)
    (case c47 => k_is)
    (case k47 => k_is)
    (case a48 => k_is)
    (case l48 => k_is)
    (case c48 => k_is)
    (case k48 => k_is)
    (case a49 => k_is)
    (case l49 => k_is)
    (case c49 => k_is)
    (case k49 => k_is)
    (case a50 => k_is)
    (case l50 => k_is)
    (case c50 => k_is)
    (case k50 => k_is)
    (case zisinstance => k_is)
    (case zstr => k_is)
    (case zbool => k_is)
    (case zlen => k_is)
    (case zall => k_is)
    (case zrange => k_is)
    (case zlist => k_is)
    (case zenumerate => k_is)
    (case zset => k_is)
    (case ztuple => k_is)
    (case zValueError => k_is)
    (case zint => k_is)
    (case zzip => k_is)
    (case zmax => k_is)
    (case gL => k_is)
    (case gN => k_is)
    (case gMP => k_is)
    (case gMB => k_is)
    (case ytP => k_is)
    (case utP => k_is)
    (case ytB => k_is)
    (case utB => k_is)
    (case ytO => k_is)
    (case utO => k_is)
    (case ysg => k_is)
    (case usg => k_is)
    (case yGr => k_is)
    (case lGr => k_is)
    (case kGr => k_keys)
    (case eG0 => k_is)
    (case eG1 => k_is)
    (case eG2 => k_is)
    (case eG3 => k_is)
    (case eG4 => k_is)
    (case dga => k_is)
    (case drd => k_is)
    (case dfc => k_is)
    (case h0_3 => k_is)
    (case h0_4 => k_is)
    (case h0_5 => k_is)
    (case h0_6 => k_is)
    (case h0_7 => k_is)
    (case h1_3 => k_is)
    (case h1_4 => k_is)
    (case h1_5 => k_is)
    (case h1_6 => k_is)
    (case h1_7 => k_is)
    (case h2_3 => k_is)
    (case h2_4 => k_is)
    (case h2_5 => k_is)
    (case h2_6 => k_is)
    (case h2_7 => k_is)
    (case h3_3 => k_is)
    (case h3_4 => k_is)
    (case h3_5 => k_is)
    (case h3_6 => k_is)
    (case h3_7 => k_is)
    (case h4_3 => k_is)
    (case h4_4 => k_is)
    (case h4_5 => k_is)
    (case h4_6 => k_is)
    (case h4_7 => k_is)
    (case xgt => k_is)
    (case xtk => k_is)
    (case xo => k_exc)
    (case ec => first | kernel_rfl | exact rfl)
    (case ea => k_is)
    (case en => k_is)
    (case el => k_is)
    (case eb => k_is)
    (case eo => k_is)
    (case xm => first | kernel_rfl | exact rfl)
    (case ek => k_is)
    (case kn => kit_is)
    (case kv => kit_is)
    (case ka => kit_is)
    (case kb => kit_is)
    (case em => kts_exm)
    (case ei => k_is)
    (case es => k_is)
    (case et => k_is)
    (case xt => first | kernel_rfl | exact rfl)
    (case ef => k_is)
    (case eq => k_is)
    (case qc0 => k_is)
    (case qm0 => k_is)
    (case q0_0 => kit_is)
    (case q0_1 => kit_is)
    (case q0_2 => kit_is)
    (case q0_3 => kit_is)
    (case qd0 => kit_is)
    (case qc1 => k_is)
    (case qm1 => k_is)
    (case q1_0 => kit_is)
    (case q1_1 => kit_is)
    (case q1_2 => kit_is)
    (case q1_3 => kit_is)
    (case qd1 => kit_is)
    (case qc2 => k_is)
    (case qm2 => k_is)
    (case q2_0 => kit_is)
    (case q2_1 => kit_is)
    (case q2_2 => kit_is)
    (case q2_3 => kit_is)
    (case qd2 => kit_is)
    (case qc3 => k_is)
    (case qm3 => k_is)
    (case q3_0 => kit_is)
    (case q3_1 => kit_is)
    (case q3_2 => kit_is)
    (case q3_3 => kit_is)
    (case qd3 => kit_is)
    (case qi1 => k_is)
    (case qi2 => k_is)
#print axioms PySem.Challenge.cw_callbinds_k42_defaults_refused_holds
