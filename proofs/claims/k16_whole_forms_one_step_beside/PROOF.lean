import PyProof.Rows.All
import Wide.All
import OpenK.AllK
import Wide.FinOn
import Lean
import PyProof.EqAt
import PyProof.EqKinds
import PyProof.TupleCall
import KE.KTryMore
import PyProof.ExcAttrAll.ValueError
import KE.KRevIter
import PyProof.SetNew
import PyProof.SetRoads
import PyProof.Rows.SetObj
import PyProof.DictCompW
import PyProof.DictItems
import PyProof.Rows.SetFrom
import PyProof.ListRange
import KE.RegKIsAll
import KE.RegKTryMore
import PySem.Challenge.RW_callbinds_k16_whole_forms_one_step_besid
set_option Elab.async false
set_option linter.all false
set_option maxRecDepth 100000
/-! THE HAND LAYER, for ints, bools, texts, own classes, LISTS and tuples (index, slices, in, append, pop ..), calls, loops. Paste it whole ahead of your own text; what your proof does not reach may be deleted. -/
namespace L2
open PySem PySem.Spec PyProof.Rows

/-- a key: an int or a str -/
abbrev Key := Sum Int Str
def keyIs : Key → Value → Bool
  | .inl k, v => Value.isInt k v
  | .inr x, v => Value.isStrOf x v
def keyH (w : World) : Key → Int
  | .inl k => hashInt k
  | .inr x => hashStr w x
theorem keyIs_shape : ∀ {k : Key} {v : Value}, keyIs k v = true → (∃ i t, k = Sum.inl i ∧ v = Value.int i t) ∨ (∃ x t, k = Sum.inr x ∧ v = Value.str x t)
  | .inl i, v, h => by
    obtain ⟨t, e⟩ := Value.isInt_shape (k := i) (v := v) h
    exact .inl ⟨i, t, rfl, e⟩
  | .inr x, v, h => by
    obtain ⟨t, e⟩ := Value.isStrOf_shape (x := x) (v := v) h
    exact .inr ⟨x, t, rfl, e⟩
theorem keyIs_int (i : Int) (t : Tok) : keyIs (.inl i) (.int i t) = true := by simp [keyIs, Value.isInt]
theorem keyIs_str (x : Str) (t : Tok) : keyIs (.inr x) (.str x t) = true := by simp [keyIs, Value.isStrOf]
theorem key_ll (a b : Int) : decide ((Sum.inl a : Key) = Sum.inl b) = (a == b) := by
  by_cases e : a = b
  · subst e; simp
  · have h : ¬ (Sum.inl a : Key) = Sum.inl b := fun q => e (Sum.inl.inj q)
    rw [decide_eq_false h]
    exact (beq_eq_false_iff_ne.mpr e).symm
theorem key_rr (a b : Str) : decide ((Sum.inr a : Key) = Sum.inr b) = decide (a = b) := by
  by_cases e : a = b
  · subst e; simp
  · have h : ¬ (Sum.inr a : Key) = Sum.inr b := fun q => e (Sum.inr.inj q)
    rw [decide_eq_false h, decide_eq_false e]
theorem key_lr (a : Int) (b : Str) : decide ((Sum.inl a : Key) = Sum.inr b) = false := decide_eq_false (fun q => nomatch q)
theorem key_rl (a : Str) (b : Int) : decide ((Sum.inr a : Key) = Sum.inl b) = false := decide_eq_false (fun q => nomatch q)

def mixKind (prog : Program) (w : World) : PySem.KeyKind prog w Key where
  is := keyIs
  hash := keyH w
  inj := fun v a b ha hb => by
    rcases keyIs_shape ha with ⟨i, t, rfl, rfl⟩ | ⟨x, t, rfl, rfl⟩
    · rcases keyIs_shape hb with ⟨j, u, rfl, e⟩ | ⟨y, u, rfl, e⟩
      · injection e with e1 _; rw [e1]
      · exact nomatch e
    · rcases keyIs_shape hb with ⟨j, u, rfl, e⟩ | ⟨y, u, rfl, e⟩
      · exact nomatch e
      · injection e with e1 _; rw [e1]
  byValue := fun k v h => by
    rcases keyIs_shape h with ⟨i, t, rfl, rfl⟩ | ⟨x, t, rfl, rfl⟩ <;> rfl
  pyHash := fun hv h => by
    rcases keyIs_shape hv with ⟨i, t, rfl, rfl⟩ | ⟨x, t, rfl, rfl⟩
    · exact wpAny_pyHash_int h
    · exact wpAny_pyHash_str h
  eqBool := fun hu hv h => by
    rcases keyIs_shape hu with ⟨i, t, rfl, rfl⟩ | ⟨x, t, rfl, rfl⟩
    · rcases keyIs_shape hv with ⟨j, u, rfl, rfl⟩ | ⟨y, u, rfl, rfl⟩
      · rw [key_ll] at h; exact wpAny_eqBool_int h
      · rw [key_lr] at h; exact SeqAt.EqAt.int_str i t y u _ _ _ _ h
    · rcases keyIs_shape hv with ⟨j, u, rfl, rfl⟩ | ⟨y, u, rfl, rfl⟩
      · rw [key_rl] at h; exact SeqAt.EqAt.str_int x t j u _ _ _ _ h
      · rw [key_rr] at h; exact wpAny_eqBool_str h
  «strs» := fun k x t v h => by
    rcases keyIs_shape h with ⟨i, u, rfl, e⟩ | ⟨y, u, rfl, e⟩
    · exact nomatch e
    · injection e with e1 _
      subst e1
      cases v <;> rfl

theorem mixKind_int (prog : Program) (w : World) (i : Int) (t : Tok) : (mixKind prog w).is (.inl i) (.int i t) = true := keyIs_int i t
theorem mixKind_str (prog : Program) (w : World) (x : Str) (t : Tok) : (mixKind prog w).is (.inr x) (.str x t) = true := keyIs_str x t
end L2

namespace L2
open PySem PySem.Spec PyProof.Rows

/-- a value, without the heap -/
inductive V where
  | non | bl (b : Bool) | int (i : Int) | str (x : Str) | byt (b : Array UInt8) | flt (b : UInt64) | ref (a : Addr) | ty (n : String)
  deriving DecidableEq

def RelV : V → Value → Prop
  | .non, u => u = Value.none
  | .bl b, u => u = Value.bool b
  | .int i, u => ∃ t, u = Value.int i t
  | .str x, u => ∃ t, u = Value.str x t
  | .byt b, u => ∃ t, u = Value.bytes b t
  | .flt b, u => ∃ t, u = Value.float b t
  | .ref a, u => u = Value.ref a
  | .ty n, u => u = Value.type n

abbrev Vals : List V → List Value → Prop := Paired RelV
theorem Vals.length {xs : List V} {us : List Value} (r : Vals xs us) : xs.length = us.length := Paired.length r
theorem Vals.get : ∀ {xs : List V} {us : List Value} {i : Nat} {x : V}, Vals xs us → xs[i]? = some x → ∃ u, us[i]? = some u ∧ RelV x u
  | _, _, _, _, .nil, e => by simp at e
  | _, _, 0, _, .cons r _, e => by simp at e; subst e; exact ⟨_, rfl, r⟩
  | _, _, i + 1, x, .cons _ t, e => by
    obtain ⟨u, h1, h2⟩ := Vals.get (i := i) (x := x) t (by simpa using e)
    exact ⟨u, by simpa using h1, h2⟩
theorem Vals.set {x : V} {u : Value} (r : RelV x u) : ∀ {xs : List V} {us : List Value} (i : Nat), Vals xs us → Vals (xs.set i x) (us.set i u)
  | _, _, _, .nil => .nil
  | _, _, 0, .cons _ t => .cons r t
  | _, _, i + 1, .cons q t => .cons q (Vals.set r i t)
theorem Vals.append : ∀ {xs ys : List V} {us ws : List Value}, Vals xs us → Vals ys ws → Vals (xs ++ ys) (us ++ ws)
  | _, _, _, _, .nil, s => s
  | _, _, _, _, .cons r t, s => .cons r (Vals.append t s)
theorem Vals.take : ∀ {xs : List V} {us : List Value} (n : Nat), Vals xs us → Vals (xs.take n) (us.take n)
  | _, _, 0, _ => .nil
  | _, _, _ + 1, .nil => .nil
  | _, _, n + 1, .cons r t => .cons r (Vals.take n t)
theorem Vals.drop : ∀ {xs : List V} {us : List Value} (n : Nat), Vals xs us → Vals (xs.drop n) (us.drop n)
  | _, _, 0, r => r
  | _, _, _ + 1, .nil => .nil
  | _, _, n + 1, .cons _ t => Vals.drop n t
def RelO : Option V → Option Value → Prop
  | some v, some u => RelV v u
  | none, none => True
  | _, _ => False
def KV {κ : Type} : List (κ × V) → List (κ × Value) → Prop := Paired fun (p : κ × V) (q : κ × Value) => p.1 = q.1 ∧ RelV p.2 q.2

/-- a key of a dict (00_mix): an int or a text -/
def kV : Key → V
  | .inl i => .int i
  | .inr x => .str x

/-- what stands at a tracked address -/
inductive HO where
  /-- a list -/
  | lst (xs : List V)
  /-- a tuple (never changes) -/
  | tup (xs : List V)
  /-- a dict whose keys are ints and texts; one whose keys are tuples of ints and texts (the empty one is both) -/
  | dK (kvs : List (Key × V)) | dT (kvs : List (List Key × V))
  /-- a set of ints: its members, its size -/
  | set (S : Int → Bool) (n : Nat)
  /-- an instance of the class at C, its dict at dx, its attributes -/
  | ins (C dx : Addr) (fs : List (Str × V))
  /-- the dict of the instance at x -/
  | own (x : Addr)
  /-- the dict of an exception -/
  | xd (fs : List (Str × V))
  /-- a bound method, f of x -/
  | met (f x : Addr)
  /-- a range object lo, lo + 1, .. below hi -/
  | rng (lo hi : Int)
  /-- a thing that is known to the object (the script; a dict while a loop walks it): read, never written while it is so -/
  | frz (o : Obj) (u : HO)
  /-- a code object's table -/
  | tbl (ps : Array Value)
  /-- any other thing, by what is true of its one object (a def of one's own: SetO a S n := HO.ext fun h => ..) -/
  | ext (φ : Heap → Prop)

abbrev Hp := Addr → Option HO
def upd (H : Hp) (a : Addr) (o : HO) : Hp := fun b => if b = a then some o else H b
theorem upd_same {H : Hp} {a : Addr} {o : HO} : upd H a o a = some o := by unfold upd; rw [if_pos rfl]
theorem upd_ne {H : Hp} {a b : Addr} {o : HO} (h : b ≠ a) : upd H a o b = H b := by unfold upd; rw [if_neg h]
theorem upd_upd {H : Hp} {a : Addr} {o u : HO} : upd (upd H a o) a u = upd H a u := by
  funext b; unfold upd; split <;> rfl
/-- two objects of different content stand apart -/
theorem ne_of {H : Hp} {a b : Addr} {o u : HO} (h : H a = some o) (h' : H b = some u) (d : o ≠ u) : a ≠ b := by
  intro e; subst e; rw [h] at h'; exact d (Option.some.inj h')
theorem ne_of_none {H : Hp} {a b : Addr} {o : HO} (h : H a = some o) (h' : H b = none) : a ≠ b := by
  intro e; subst e; rw [h] at h'; cases h'

section
variable (P : Program) (w : World)
def ObjOk (H : Hp) (h : Heap) (a : Addr) : HO → Prop
  | .lst xs => xs.length ≤ sizeLine ∧ ∃ (its : List Value) (n : Nat), Vals xs its ∧ h.get? a = some { cls := .type "list", data := .seq its.toArray n }
  | .tup xs => xs.length ≤ sizeLine ∧ ∃ its : List Value, Vals xs its ∧ IsTup h a its.toArray
  | .dK kvs => kvs.length ≤ sizeLine ∧ (a == sysModules) = false ∧ ∃ vs, KV kvs vs ∧ h.DictOf (mixKind P w) a vs
  | .dT kvs => kvs.length ≤ sizeLine ∧ (a == sysModules) = false ∧ ∃ xs : List (List Key × Addr × Value),
      Paired (fun (p : List Key × V) (q : List Key × Addr × Value) => p.1 = q.1 ∧ H q.2.1 = some (.tup (p.1.map kV)) ∧ RelV p.2 q.2.2) kvs xs ∧
      ∃ o es ep, h.get? a = some o ∧ o.ExactDict ∧ o.data = .dict es ep ∧ es.toList = xs.map (entryOfKey (tupleKind (mixKind P w))) ∧ (xs.map (·.1)).Nodup
  | .set S n => h.SetOf (intKind P w) a S n
  | .ins C dx fs => H dx = some (.own a) ∧ fs.length ≤ 1000 ∧ dx ≠ a ∧ h.get? a = some (PySem.W.instObj C dx) ∧
      ∃ mA, h.Ns1 dx mA ∧ (∀ f, RelO (fs.lookup f) (mA f)) ∧ PySem.Within mA (fs.map (·.1))
  | .own _ => ∃ o, h.get? a = some o
  | .xd fs => ∃ mA, h.Ns1 a mA ∧ ∀ f, RelO (fs.lookup f) (mA f)
  | .rng lo hi => ∃ t u v, h.get? a = some { cls := .type "range", data := .fields #[.int lo t, .int hi u, .int 1 v] }
  | .frz o u => h.get? a = some o ∧ ObjOk H h a u
  | .tbl ps => h.get? a = some { cls := .none, data := .fields ps }
  | .met f x => h.get? a = some (PySem.W.methodObj (.ref f) (.ref x))
  | .ext φ => φ h ∧ (∃ o, h.get? a = some o) ∧ ∀ h1 h2 : Heap, φ h1 → (∀ o, h1.get? a = some o → h2.get? a = some o) → φ h2
/-- the abstract heap is held -/
def HOk (H : Hp) (h : Heap) : Prop := ∀ a o, H a = some o → ObjOk P w H h a o
end

section
variable {P : Program} {w : World} {H H' : Hp} {h h' : Heap} {a : Addr} {o : HO}
theorem ObjOk.lt (x : ObjOk P w H h a o) : a < h.objs.size := by
  cases o with
  | lst xs => obtain ⟨_, _, _, _, e⟩ := x; exact Heap.lt_size e
  | tup xs => obtain ⟨_, _, _, p⟩ := x; exact p.lt
  | dK kvs => obtain ⟨_, _, _, _, o, _, _, e, _⟩ := x; exact Heap.lt_size e
  | dT kvs => obtain ⟨_, _, _, _, o, _, _, e, _⟩ := x; exact Heap.lt_size e
  | set S n => obtain ⟨o, _, _, _, e, _⟩ := x; exact Heap.lt_size e
  | ins C dx fs => obtain ⟨_, _, _, e, _⟩ := x; exact Heap.lt_size e
  | own y => obtain ⟨_, e⟩ := x; exact Heap.lt_size e
  | xd fs => obtain ⟨_, ⟨_, _, _, e, _⟩, _⟩ := x; exact Heap.lt_size e
  | rng lo hi => obtain ⟨_, _, _, e⟩ := x; exact Heap.lt_size e
  | frz ob u => obtain ⟨e, _⟩ := x; exact Heap.lt_size e
  | tbl ps => exact Heap.lt_size (show h.get? a = some _ from x)
  | met f y => exact Heap.lt_size (show h.get? a = some _ from x)
  | ext φ => obtain ⟨_, ⟨_, e⟩, _⟩ := x; exact Heap.lt_size e
theorem Paired.mapP {α β : Type} {F G : α → β → Prop} : ∀ {l₁ : List α} {l₂ : List β}, Paired F l₁ l₂ → (∀ a b, F a b → G a b) → Paired G l₁ l₂
  | _, _, .nil, _ => .nil
  | _, _, .cons r t, f => .cons (f _ _ r) (Paired.mapP t f)
theorem Paired.imp' {α β : Type} {F G : α → β → Prop} (f : ∀ a b, F a b → G a b) {l₁ : List α} {l₂ : List β} (r : Paired F l₁ l₂) : Paired G l₁ l₂ := Paired.mapP r f
/-- what an object's description leans on: its own object, its own dict, the tuples -/
theorem ObjOk.stay (x : ObjOk P w H h a o) (k : ∀ b u, (b = a ∨ H b = some (.own a)) → h.get? b = some u → h'.get? b = some u)
    (ho : ∀ b, H b = some (.own a) → H' b = some (.own a)) (ht : ∀ b xs, H b = some (.tup xs) → H' b = some (.tup xs)) : ObjOk P w H' h' a o := by
  induction o with
  | lst xs => obtain ⟨z, its, n, r, e⟩ := x; exact ⟨z, its, n, r, k _ _ (.inl rfl) e⟩
  | tup xs => obtain ⟨z, its, r, ob, e, c⟩ := x; exact ⟨z, its, r, ob, k _ _ (.inl rfl) e, c⟩
  | dK kvs => obtain ⟨z, y, vs, r, ob, es, ep, e, c⟩ := x; exact ⟨z, y, vs, r, ob, es, ep, k _ _ (.inl rfl) e, c⟩
  | dT kvs =>
    obtain ⟨z, y, xs, r, ob, es, ep, e, c⟩ := x
    exact ⟨z, y, xs, Paired.mapP r fun p q z => ⟨z.1, ht _ _ z.2.1, z.2.2⟩, ob, es, ep, k _ _ (.inl rfl) e, c⟩
  | set S n => obtain ⟨ob, es, ep, t, e, c⟩ := x; exact ⟨ob, es, ep, t, k _ _ (.inl rfl) e, c⟩
  | ins C dx fs =>
    obtain ⟨d, z, ne, e, mA, ⟨od, es, ep, e2, c⟩, r⟩ := x
    exact ⟨ho _ d, z, ne, k _ _ (.inl rfl) e, mA, ⟨od, es, ep, k _ _ (.inr d) e2, c⟩, r⟩
  | own y => obtain ⟨ob, e⟩ := x; exact ⟨ob, k _ _ (.inl rfl) e⟩
  | xd fs => obtain ⟨mA, ⟨od, es, ep, e, c⟩, r⟩ := x; exact ⟨mA, ⟨od, es, ep, k _ _ (.inl rfl) e, c⟩, r⟩
  | rng lo hi => obtain ⟨t, u, v, e⟩ := x; exact ⟨t, u, v, k _ _ (.inl rfl) e⟩
  | frz ob u ih => obtain ⟨e, q⟩ := x; exact ⟨k _ _ (.inl rfl) e, ih q⟩
  | tbl ps =>
    have e : h.get? a = some { cls := .none, data := .fields ps } := x
    show h'.get? a = some { cls := .none, data := .fields ps }
    exact k a _ (.inl rfl) e
  | met f y =>
    have e : h.get? a = some (PySem.W.methodObj (.ref f) (.ref y)) := x
    show h'.get? a = some (PySem.W.methodObj (.ref f) (.ref y))
    exact k a _ (.inl rfl) e
  | ext φ => obtain ⟨p, ⟨o, e⟩, st⟩ := x; exact ⟨st _ _ p fun o q => k _ _ (.inl rfl) q, ⟨o, k _ _ (.inl rfl) e⟩, st⟩
theorem HOk.lt (x : HOk P w H h) (e : H a = some o) : a < h.objs.size := (x a o e).lt
theorem HOk.fresh (x : HOk P w H h) (e : h.objs.size ≤ a) : H a = none := by
  cases q : H a with
  | none => rfl
  | some u => exact absurd (Nat.lt_of_lt_of_le (x.lt q) e) (Nat.lt_irrefl _)
/-- every object of the heap is kept -/
theorem HOk.kept (x : HOk P w H h) (k : ∀ b u, h.get? b = some u → h'.get? b = some u) : HOk P w H h' := fun a o e =>
  (x a o e).stay (fun b u _ q => k b u q) (fun _ q => q) fun _ _ q => q
/-- a new object is laid and tracked -/
theorem HOk.laid (x : HOk P w H h) (k : ∀ b u, h.get? b = some u → h'.get? b = some u) (hp : h.objs.size ≤ a) (new : ObjOk P w (upd H a o) h' a o) : HOk P w (upd H a o) h' := fun b u e => by
  have hn := x.fresh hp
  by_cases hb : b = a
  · subst hb; rw [upd_same] at e; cases e; exact new
  · rw [upd_ne hb] at e
    exact (x b u e).stay (fun c v _ q => k c v q) (fun c q => by rw [upd_ne (ne_of_none q hn)]; exact q) fun c xs q => by rw [upd_ne (ne_of_none q hn)]; exact q
end

/-- what may be read as u: it is u, or a known u -/
def Rd (H : Hp) (a : Addr) (u : HO) : Prop := H a = some u ∨ ∃ o, H a = some (.frz o u)
theorem Rd.ok {P : Program} {w : World} {H : Hp} {h : Heap} {a : Addr} {u : HO} (r : Rd H a u) (x : HOk P w H h) : ObjOk P w H h a u := by
  rcases r with r | ⟨o, r⟩
  · exact x a u r
  · obtain ⟨_, q⟩ := x a _ r
    exact q
/-- what may be written -/
def Mut : Option HO → Prop
  | some (.lst _) => True
  | some (.dK _) => True
  | some (.dT _) => True
  | some (.set _ _) => True
  | some (.ins _ _ _) => True
  | some (.ext _) => True
  | _ => False
section
variable {P : Program} {w : World} {H : Hp} {h h' : Heap} {x e : Addr} {o' : HO}
/-- the object at e is changed: x itself, or the dict of the instance x -/
theorem HOk.write (ok : HOk P w H h) (mu : Mut (H x)) (he : e = x ∨ H e = some (.own x)) (k : ∀ b u, b ≠ e → h.get? b = some u → h'.get? b = some u) (heo : ∃ u, h'.get? e = some u)
    (new : ObjOk P w (upd H x o') h' x o') : HOk P w (upd H x o') h' := fun b u q => by
  have nown : ∀ c y, H c = some (.own y) → c ≠ x := fun c y r z => by subst z; rw [r] at mu; exact mu
  have ntup : ∀ c xs, H c = some (.tup xs) → c ≠ x := fun c xs r z => by subst z; rw [r] at mu; exact mu
  by_cases hb : b = x
  · subst hb; rw [upd_same] at q; cases q; exact new
  · rw [upd_ne hb] at q
    by_cases hbe : b = e
    · have q' : H b = some (.own x) := by
        rcases he with z | z
        · exact absurd (hbe.trans z) hb
        · rw [hbe]; exact z
      rw [q] at q'; cases q'
      obtain ⟨v, hv⟩ := heo
      exact ⟨v, by rw [hbe]; exact hv⟩
    · refine (ok b u q).stay (fun c v hc r => k c v ?_ r) (fun c r => by rw [upd_ne (nown c b r)]; exact r) fun c xs r => by rw [upd_ne (ntup c xs r)]; exact r
      rcases hc with rfl | hc
      · exact hbe
      · rintro rfl
        rcases he with z | z
        · exact nown c b hc z
        · rw [hc] at z; cases z; exact hb rfl
end

/-! ### kept unless tracked; of the frames at fs (the callers') the slots may change (an exception that passes writes there); of the records at ex (iterators) nothing is said -/
structure Un (fs ex : List Addr) (H H' : Hp) (h h' : Heap) : Prop where
  keep : ∀ b o, h.get? b = some o → H b = none → b ∉ fs → b ∉ ex → h'.get? b = some o
  slot : ∀ b o, h.get? b = some o → H b = none → b ∈ fs → b ∉ ex → ∃ sl, h'.get? b = some { o with slots := sl }
  free : ∀ b o, h.get? b = some o → H b = none → b ∉ ex → H' b = none
  there : ∀ b o, h.get? b = some o → b ∉ ex → ∃ o', h'.get? b = some o'
  tups : ∀ b xs, H b = some (.tup xs) → H' b = some (.tup xs)
  frzs : ∀ b o u, H b = some (.frz o u) → H' b = some (.frz o u)
  tbls : ∀ b ps, H b = some (.tbl ps) → ∃ more, H' b = some (.tbl (ps ++ more))
section
variable {fs fs' ex ex' : List Addr} {H H1 H2 : Hp} {h h1 h2 h' : Heap} {a x e : Addr} {o : HO}
theorem Un.any (u : Un fs ex H H1 h h1) {b : Addr} {ob : Obj} (q : h.get? b = some ob) (n : H b = none) (hx : b ∉ ex) : ∃ sl, h1.get? b = some { ob with slots := sl } := by
  by_cases hb : b ∈ fs
  · exact u.slot b ob q n hb hx
  · exact ⟨ob.slots, u.keep b ob q n hb hx⟩
theorem Un.kept (k : ∀ b u, h.get? b = some u → h'.get? b = some u) : Un fs ex H H h h' :=
  ⟨fun b ob q _ _ _ => k b ob q, fun b ob q _ _ _ => ⟨ob.slots, k b ob q⟩, fun _ _ _ n _ => n, fun b ob q _ => ⟨ob, k b ob q⟩, fun _ _ q => q, fun _ _ _ q => q, fun _ ps q => ⟨#[], by rw [q]; simp⟩⟩
theorem Un.refl : Un fs ex H H h h := Un.kept fun _ _ q => q
theorem Un.laid (k : ∀ b u, h.get? b = some u → h'.get? b = some u) (hp : h.objs.size ≤ a) (hn : H a = none) : Un fs ex H (upd H a o) h h' where
  keep := fun b u q _ _ _ => k b u q
  slot := fun b u q _ _ _ => ⟨u.slots, k b u q⟩
  free := fun b u q n _ => by rw [upd_ne (Nat.ne_of_lt (Nat.lt_of_lt_of_le (Heap.lt_size q) hp))]; exact n
  there := fun b u q _ => ⟨u, k b u q⟩
  tups := fun b xs q => by rw [upd_ne (ne_of_none q hn)]; exact q
  frzs := fun b u xs q => by rw [upd_ne (ne_of_none q hn)]; exact q
  tbls := fun b ps q => ⟨#[], by rw [upd_ne (ne_of_none q hn), q]; simp⟩
theorem Un.write (mu : Mut (H x)) (he : e = x ∨ H e = some (.own x)) (k : ∀ b u, b ≠ e → h.get? b = some u → h'.get? b = some u) (heo : ∃ u, h'.get? e = some u) : Un fs ex H (upd H x o) h h' := by
  have hx : ∀ b, H b = none → b ≠ x := fun b n z => by subst z; rw [n] at mu; exact mu
  have hb : ∀ b, H b = none → b ≠ e := fun b n z => by
    subst z
    rcases he with r | r
    · exact hx b n r
    · rw [n] at r; cases r
  have hm : ∀ b u, H b = some u → ¬ Mut (some u) → b ≠ x := fun b u q nm z => by subst z; rw [q] at mu; exact nm mu
  refine ⟨fun b u q n _ _ => k b u (hb b n) q, fun b u q n _ _ => ⟨u.slots, k b u (hb b n) q⟩, fun b u q n _ => by rw [upd_ne (hx b n)]; exact n, fun b u q _ => ?_,
    fun b xs q => by rw [upd_ne (hm b _ q fun z => z)]; exact q, fun b u xs q => by rw [upd_ne (hm b _ q fun z => z)]; exact q, fun b ps q => ⟨#[], by rw [upd_ne (hm b _ q fun z => z), q]; simp⟩⟩
  by_cases hbe : b = e
  · subst hbe; exact heo
  · exact ⟨u, k b u hbe q⟩
end

/-! ### the heap without what is tracked -/
def trk (h : Heap) (H : Hp) : List Addr := (List.range h.objs.size).filter fun a => (H a).isSome
def hidT (h : Heap) (H : Hp) : Heap := PySem.W.hideAll h (trk h H)
theorem hidT_size (h : Heap) (H : Hp) : (hidT h H).objs.size = h.objs.size := PySem.W.hideAll_size _ _
theorem hidT_get {h : Heap} {H : Hp} {b : Addr} {o : Obj} (e : h.get? b = some o) (n : H b = none) : (hidT h H).get? b = some o :=
  PySem.W.hideAll_get _ e fun hm => by
    have q : (H b).isSome = true := (List.mem_filter.mp hm).2
    rw [n] at q; simp at q
theorem of_hidT {h : Heap} {H : Hp} {b : Addr} {o : Obj} (e : (hidT h H).get? b = some o) : h.get? b = some o ∧ H b = none := by
  have e' : h.get? b = some o := PySem.W.of_hideAll (trk h H) e
  refine ⟨e', ?_⟩
  cases q : H b with
  | none => rfl
  | some x =>
    have hm : b ∈ trk h H := List.mem_filter.mpr ⟨List.mem_range.mpr (Heap.lt_size e'), by simp [q]⟩
    have z : (hidT h H).get? b = none := PySem.W.hideAll_none (trk h H) hm
    rw [z] at e; cases e

/-! ### OpenK's ledger, filled with every new object but one -/
def allNews (g h : Heap) (L : Addr) : List (Addr × Obj) := (List.range h.objs.size).filterMap fun a => if a = L ∨ (g.get? a).isSome = true then none else (h.get? a).map fun o => (a, o)
def rest (g h : Heap) (L d : Addr) : List (Addr × Obj) := (allNews g h L).filter fun p => decide (p.1 ≠ d)
end L2

namespace L2
open PySem PySem.Spec PyProof.Rows

/-- the module's facts, over the base: the heap at the law's entry without what is tracked there -/
structure Mod (K : PySem.W.Frag) (mg : Str → Option Value) (base : Heap) : Prop where
  kin : K.In base
  glob : base.Ns mainGlobals mg
  blt : ∃ mb, base.Ns builtinsNs mb ∧ ∀ x : Str, x ≠ "__name__" → mb x = bootBuiltins x
  nolimit : base.NoLimit

/-- the context: a def's body (or a comprehension's block) running. base: fixed through the whole law; s₀, H₀: the entry; outer: the frames whose slots others may change (a def's callers); stack: all frames that run;
   ex: iterators that were made ahead of the entry and are walked here (a comprehension's); fn: the names whose cells were made at the entry (a def: all; a comprehension's block: its own); calm: not within an except suite; pn: pins that every state bears; xe: what is wanted of an exception that leaves the code -/
structure Cx where
  prog : Program
  w : World
  K : PySem.W.Frag
  mg : Str → Option Value
  base : Heap
  A : Around
  N : List Str
  s₀ : Shared
  H₀ : Hp
  env : Env
  outer : List Env
  stack : List Env
  ex : List Addr
  fn : Str → Bool
  calm : Bool
  pn : List (Addr × Obj)
  xe : Value → Shared → Prop
/-- the callers' frames -/
def frs (l : List Env) : List Addr := l.filterMap (·.frame)
abbrev Cx.fs (X : Cx) : List Addr := frs X.outer

def Vis (sc : Scope) (x : Str) : Prop := sc.names.lookup x = some .local ∨ sc.names.lookup x = some .cell ∨ sc.names.lookup x = some .free
def Loc (sc : Scope) (x : Str) : Prop := sc.names.lookup x = some .local ∨ sc.names.lookup x = some .cell
def Look (env : Env) (h : Heap) (m : Str → Option Value) (x : Str) (u : Value) : Prop :=
  (env.kindOf x = some .local ∧ m x = some u) ∨ ((env.kindOf x = some .cell ∨ env.kindOf x = some .free) ∧ ∃ c, env.cells.lookup x = some c ∧ h.IsCell c (some u))

structure Cx.Ok (X : Cx) : Prop where
  mod : Mod X.K X.mg X.base
  kind : X.env.scope.kind = .function
  glob : X.env.globals = mainGlobals
  blt : X.env.builtins = builtinsNs
  above : X.s₀.heap.objs.size ≤ X.env.locals
  inj : ∀ x y c, X.env.cells.lookup x = some c → X.env.cells.lookup y = some c → x = y
  has : ∀ x, (X.env.kindOf x = some .cell ∨ X.env.kindOf x = some .free) → ∃ c, X.env.cells.lookup x = some c
  cab : ∀ x c, X.fn x = true → X.env.cells.lookup x = some c → X.s₀.heap.objs.size ≤ c
  hd : X.calm = true → X.A.handled = none
  frames : X.A.frames = some X.stack
  stk : X.stack = X.outer ∨ (X.stack = X.env :: X.outer ∧ X.env.frame = some X.env.locals)
  exf : ∀ b ∈ X.ex, b ≠ X.env.locals ∧ ∀ x c, X.env.cells.lookup x = some c → c ≠ b
  bs : ∀ b o, X.base.get? b = some o → X.s₀.heap.get? b = some o ∧ X.H₀ b = none
  bsz : X.base.objs.size ≤ X.s₀.heap.objs.size
  noex : ∀ b o, X.base.get? b = some o → b ∉ X.ex
  exfs : ∀ b ∈ X.ex, b ∉ X.fs
  funs : X.s₀.heap.FunFrames X.base X.outer
  frf : ∀ b ∈ X.fs, X.H₀ b = none

structure Inv (X : Cx) (pins : List (Addr × Obj)) (σ : List (Option V)) (H : Hp) (s : Shared) : Prop where
  ok : X.Ok
  os : s.os = X.s₀.os
  bare : AllBare s.gens
  base : Un X.fs X.ex X.H₀ H X.s₀.heap s.heap
  loc : ∃ m, s.heap.Ns X.env.locals m ∧ ∀ (i : Nat) (x : Str) (v : V), X.N[i]? = some x → σ[i]? = some (some v) → Vis X.env.scope x → ∃ u, RelV v u ∧ Look X.env s.heap m x u
  cell : ∀ x c, X.env.cells.lookup x = some c → ∃ v, s.heap.IsCell c v
  free : H X.env.locals = none
  freeC : ∀ x c, X.env.cells.lookup x = some c → H c = none
  pin : ∀ p ∈ X.pn ++ pins, s.heap.get? p.1 = some p.2 ∧ H p.1 = none ∧ p.1 ≠ X.env.locals ∧ p.1 ∉ X.fs ∧ ∀ v, p.2.data ≠ .cell v
  hok : HOk X.prog X.w H s.heap
  len : σ.length = X.N.length

section
variable {X : Cx} {pins : List (Addr × Obj)} {σ : List (Option V)} {H H' : Hp} {s : Shared} {h' : Heap}

theorem Cx.Ok.nofr (ok : X.Ok) {b : Addr} {o : Obj} (e : X.base.get? b = some o) : b ∉ X.fs := fun hb => by
  have := (ok.funs.mem hb).1
  rw [e] at this; cases this
theorem Inv.bs (I : Inv X pins σ H s) : ∀ b o, X.base.get? b = some o → s.heap.get? b = some o ∧ H b = none := fun b o e =>
  ⟨I.base.keep b o (I.ok.bs b o e).1 (I.ok.bs b o e).2 (I.ok.nofr e) (I.ok.noex b o e), I.base.free b o (I.ok.bs b o e).1 (I.ok.bs b o e).2 (I.ok.noex b o e)⟩
theorem Inv.bk (I : Inv X pins σ H s) : ∀ b o, X.base.get? b = some o → s.heap.get? b = some o := fun b o e => (I.bs b o e).1
theorem Inv.mod (I : Inv X pins σ H s) : Mod X.K X.mg X.base := I.ok.mod
theorem Inv.kIn (I : Inv X pins σ H s) : X.K.In s.heap := I.ok.mod.kin.keeps I.bk
/-- the frame over the base: for OpenK's rules (K.In X.base is I.mod.kin) -/
theorem Inv.fr (I : Inv X pins σ H s) : ∃ m, Fr X.base X.env.locals s.heap m :=
  let ⟨m, hn, _⟩ := I.loc
  ⟨m, hn, I.bk, Nat.le_trans I.ok.bsz I.ok.above⟩
theorem Inv.lt (I : Inv X pins σ H s) : X.env.locals < s.heap.objs.size := let ⟨_, hn, _⟩ := I.loc; hn.lt
theorem Inv.sz (I : Inv X pins σ H s) : X.s₀.heap.objs.size ≤ s.heap.objs.size := Nat.le_trans I.ok.above (Nat.le_of_lt I.lt)
theorem Inv.nofs (I : Inv X pins σ H s) {a : Addr} (h : s.heap.objs.size ≤ a) : a ∉ X.fs := fun hb => by
  obtain ⟨_, o, ho, _⟩ := I.ok.funs.mem hb
  exact absurd (Nat.lt_of_lt_of_le (Heap.lt_size ho) (Nat.le_trans I.sz h)) (Nat.lt_irrefl _)
theorem Inv.cne (I : Inv X pins σ H s) : ∀ x c, X.env.cells.lookup x = some c → c ≠ X.env.locals := fun x c e z => by
  obtain ⟨v, o, ho, hd⟩ := I.cell x c e
  obtain ⟨m, ⟨o', es, ep, ho', hd', _⟩, _⟩ := I.loc
  rw [z, ho'] at ho; cases ho; rw [hd'] at hd; cases hd
theorem Inv.funs (I : Inv X pins σ H s) : s.heap.FunFrames X.base X.outer := by
  have all : ∀ (l : List Env), (∀ b ∈ frs l, b ∈ X.fs) → X.s₀.heap.FunFrames X.base l → s.heap.FunFrames X.base l := by
    intro l
    induction l with
    | nil => intro _ _; trivial
    | cons env r ih =>
      intro hs hl
      obtain ⟨hk, ⟨L, o, hf, hn, ho, hd⟩, hr⟩ := hl
      have hL : L ∈ X.fs := hs L (by unfold frs; rw [List.filterMap_cons, hf]; exact List.mem_cons_self)
      obtain ⟨sl, e⟩ := I.base.slot L o ho (I.ok.frf L hL) hL fun z => I.ok.exfs L z hL
      exact ⟨hk, ⟨L, _, hf, hn, e, hd⟩, ih (fun b hb => hs b (by unfold frs; rw [List.filterMap_cons, hf]; exact List.mem_cons_of_mem _ hb)) hr⟩
  exact all X.outer (fun _ hb => hb) I.ok.funs

/-- the frames that run, for a call -/
theorem Inv.stack (I : Inv X pins σ H s) : s.heap.FunFrames X.base X.stack := by
  rcases I.ok.stk with e | ⟨e, hf⟩
  · rw [e]; exact I.funs
  · rw [e]
    obtain ⟨m, hn, _⟩ := I.loc
    refine .cons (by rw [I.ok.kind]; decide) hf hn ?_ I.funs
    exact Heap.get?_none_of_le (Nat.le_trans I.ok.bsz I.ok.above)
theorem Inv.stkSub (I : Inv X pins σ H s) : ∀ b ∈ frs X.stack, b ∈ X.env.locals :: X.fs := fun b hb => by
  rcases I.ok.stk with e | ⟨e, hf⟩
  · rw [e] at hb; exact List.mem_cons_of_mem _ hb
  · rw [e] at hb
    unfold frs at hb
    rw [List.filterMap_cons, hf] at hb
    exact hb
theorem Inv.stkFree (I : Inv X pins σ H s) : ∀ b ∈ frs X.stack, H b = none := fun b hb => by
  rcases List.mem_cons.mp (I.stkSub b hb) with e | hb
  · rw [e]; exact I.free
  · obtain ⟨_, o, ho, _⟩ := I.ok.funs.mem hb
    exact I.base.free b o ho (I.ok.frf b hb) fun z => I.ok.exfs b z hb

/-- THE STEP: the untracked objects but the frame and the records at ch are kept (the callers' frames up to slots), the frame's map is kept, the new abstract heap is held -/
theorem Inv.step {g' : Array GenState} {t' : Nat} {d' : Drawn} {ch : List Addr} (I : Inv X pins σ H s)
    (hch : ∀ b ∈ ch, (b ∈ X.ex ∨ X.s₀.heap.objs.size ≤ b) ∧ b ≠ X.env.locals ∧ (∀ x c, X.env.cells.lookup x = some c → c ≠ b) ∧ ∀ p ∈ X.pn ++ pins, p.1 ≠ b)
    (keep : ∀ b o, b ≠ X.env.locals → b ∉ X.fs → b ∉ ch → s.heap.get? b = some o → H b = none → h'.get? b = some o)
    (slot : ∀ b o, b ≠ X.env.locals → b ∈ X.fs → b ∉ ch → s.heap.get? b = some o → H b = none → ∃ sl, h'.get? b = some { o with slots := sl }) (free : ∀ b o, b ∉ ch → s.heap.get? b = some o → H b = none → H' b = none)
    (there : ∀ b o, b ∉ ch → s.heap.get? b = some o → ∃ o', h'.get? b = some o')
    (tups : ∀ b xs, H b = some (.tup xs) → H' b = some (.tup xs)) (frzs : ∀ b o u, H b = some (.frz o u) → H' b = some (.frz o u)) (tbls : ∀ b ps, H b = some (.tbl ps) → ∃ more, H' b = some (.tbl (ps ++ more)))
    (ns : ∀ m, s.heap.Ns X.env.locals m → h'.Ns X.env.locals m) (hok : HOk X.prog X.w H' h') (hg : AllBare g') :
    Inv X pins σ H' { s with heap := h', gens := g', drawn := d', toks := t' } := by
  have neL : ∀ b o, X.s₀.heap.get? b = some o → b ≠ X.env.locals := fun b o e => Nat.ne_of_lt (Nat.lt_of_lt_of_le (Heap.lt_size e) I.ok.above)
  have neC : ∀ b o, X.s₀.heap.get? b = some o → b ∉ X.ex → b ∉ ch := fun b o e hx hb => by
    rcases (hch b hb).1 with z | z
    · exact hx z
    · exact absurd (Nat.lt_of_lt_of_le (Heap.lt_size e) z) (Nat.lt_irrefl _)
  have cellK : ∀ x c, X.env.cells.lookup x = some c → ∀ v, s.heap.IsCell c v → h'.IsCell c v := fun x c e v ⟨o, ho, hd⟩ => by
    have nch : c ∉ ch := fun z => (hch c z).2.2.1 x c e rfl
    by_cases hc : c ∈ X.fs
    · obtain ⟨sl, q⟩ := slot c o (I.cne x c e) hc nch ho (I.freeC x c e)
      exact ⟨_, q, hd⟩
    · exact ⟨o, keep c o (I.cne x c e) hc nch ho (I.freeC x c e), hd⟩
  refine ⟨I.ok, I.os, hg, ⟨fun b o e n hb hx => ?_, fun b o e n hb hx => ?_, fun b o e n hx => ?_, fun b o e hx => ?_, fun b xs e => tups b xs (I.base.tups b xs e), fun b o xs e => frzs b o xs (I.base.frzs b o xs e), fun b ps e => ?_⟩, ?_, fun x c e => ?_, ?_, fun x c e => ?_, fun p hp => ?_, hok, I.len⟩
  · exact keep b o (neL b o e) hb (neC b o e hx) (I.base.keep b o e n hb hx) (I.base.free b o e n hx)
  · obtain ⟨sl, e1⟩ := I.base.slot b o e n hb hx
    obtain ⟨sl', e2⟩ := slot b _ (neL b o e) hb (neC b o e hx) e1 (I.base.free b o e n hx)
    exact ⟨sl', e2⟩
  · obtain ⟨o', e1⟩ := I.base.there b o e hx
    exact free b o' (neC b o e hx) e1 (I.base.free b o e n hx)
  · obtain ⟨o', e1⟩ := I.base.there b o e hx
    exact there b o' (neC b o e hx) e1
  · obtain ⟨m1, e1⟩ := I.base.tbls b ps e
    obtain ⟨m2, e2⟩ := tbls b _ e1
    exact ⟨m1 ++ m2, by rw [e2, Array.append_assoc]⟩
  · obtain ⟨m, hn, hl⟩ := I.loc
    refine ⟨m, ns m hn, fun i x v e1 e2 e3 => ?_⟩
    obtain ⟨u, r, l⟩ := hl i x v e1 e2 e3
    refine ⟨u, r, ?_⟩
    rcases l with l | ⟨k, c, e, z⟩
    · exact .inl l
    · exact .inr ⟨k, c, e, cellK x c e _ z⟩
  · obtain ⟨v, z⟩ := I.cell x c e
    exact ⟨v, cellK x c e v z⟩
  · obtain ⟨m, ⟨o, _, _, ho, _⟩, _⟩ := I.loc
    exact free _ o (fun z => (hch _ z).2.1 rfl) ho I.free
  · obtain ⟨v, o, ho, hd⟩ := I.cell x c e
    exact free c o (fun z => (hch c z).2.2.1 x c e rfl) ho (I.freeC x c e)
  · obtain ⟨e, n, ne, nf, d⟩ := I.pin p hp
    have nch : p.1 ∉ ch := fun z => (hch p.1 z).2.2.2 p hp rfl
    exact ⟨keep p.1 p.2 ne nf nch e n, free p.1 p.2 nch e n, ne, nf, d⟩
/-- .. where the frame's own object is kept too -/
theorem Inv.un {t' : Nat} (I : Inv X pins σ H s) (u : Un X.fs [] H H' s.heap h') (hok : HOk X.prog X.w H' h') : Inv X pins σ H' { s with heap := h', toks := t' } := by
  obtain ⟨m, ⟨o, es, ep, ho, r⟩, _⟩ := id I.loc
  obtain ⟨sl, hL⟩ := u.any ho I.free (by simp)
  exact I.step (g' := s.gens) (d' := s.drawn) (ch := []) (fun _ z => nomatch z) (fun b o _ hb _ e n => u.keep b o e n hb (by simp)) (fun b o _ hb _ e n => u.slot b o e n hb (by simp)) (fun b o _ e n => u.free b o e n (by simp)) (fun b o _ e => u.there b o e (by simp)) u.tups u.frzs u.tbls (fun m' hm => by
    obtain ⟨o', es', ep', ho', r'⟩ := hm
    rw [ho] at ho'; cases ho'
    exact ⟨_, es', ep', hL, r'⟩) hok I.bare
/-- behind a call (or a comprehension's block): the slots of this frame may have changed too, the records at ch may have turned -/
theorem Inv.call {g' : Array GenState} {t' : Nat} {d' : Drawn} {ch : List Addr} (I : Inv X pins σ H s) (u : Un (frs X.stack) ch H H' s.heap h') (hok : HOk X.prog X.w H' h') (hg : AllBare g')
    (hch : ∀ b ∈ ch, (b ∈ X.ex ∨ X.s₀.heap.objs.size ≤ b) ∧ b ≠ X.env.locals ∧ (∀ x c, X.env.cells.lookup x = some c → c ≠ b) ∧ ∀ p ∈ X.pn ++ pins, p.1 ≠ b) :
    Inv X pins σ H' { s with heap := h', gens := g', drawn := d', toks := t' } := by
  obtain ⟨m, ⟨o, es, ep, ho, r⟩, _⟩ := id I.loc
  obtain ⟨sl, hL⟩ := u.any ho I.free fun z => (hch _ z).2.1 rfl
  exact I.step (ch := ch) hch (fun b o hL hb hc e n => u.keep b o e n (fun z => (List.mem_cons.mp (I.stkSub b z)).elim hL hb) hc) (fun b o _ _ hc e n => u.any e n hc) (fun b o hc e n => u.free b o e n hc) (fun b o hc e => u.there b o e hc) u.tups u.frzs u.tbls (fun m' hm => by
    obtain ⟨o', es', ep', ho', r'⟩ := hm
    rw [ho] at ho'; cases ho'
    exact ⟨_, es', ep', hL, r'⟩) hok hg
/-- an untracked record of ours (an iterator) has turned -/
theorem Inv.turned {t' : Nat} {it : Addr} (I : Inv X pins σ H s) (k : ∀ b o, b ≠ it → s.heap.get? b = some o → h'.get? b = some o) (hn : H it = none) (hL : it ≠ X.env.locals)
    (h1 : it ∈ X.ex ∨ X.s₀.heap.objs.size ≤ it) (h2 : ∀ x c, X.env.cells.lookup x = some c → c ≠ it) (h3 : ∀ p ∈ X.pn ++ pins, p.1 ≠ it) : Inv X pins σ H { s with heap := h', toks := t' } := by
  have nit : ∀ b u, H b = some u → b ≠ it := fun b u e z => by rw [z, hn] at e; cases e
  refine I.step (g' := s.gens) (d' := s.drawn) (ch := [it]) (fun b hb => ?_) (fun b o _ _ hc e _ => k b o (fun z => hc (by simp [z])) e) (fun b o _ _ hc e _ => ⟨o.slots, k b o (fun z => hc (by simp [z])) e⟩) (fun _ _ _ _ n => n)
    (fun b o hc e => ⟨o, k b o (fun z => hc (by simp [z])) e⟩) (fun _ _ e => e) (fun _ _ _ e => e) (fun b ps e => ⟨#[], by rw [e]; simp⟩) (fun m hm => ?_) (fun b u e => ?_) I.bare
  · have e : b = it := by simpa using hb
    subst e
    exact ⟨h1, hL, h2, h3⟩
  · obtain ⟨o, es, ep, ho, r⟩ := hm
    exact ⟨o, es, ep, k _ o (Ne.symm hL) ho, r⟩
  · refine (I.hok b u e).stay (fun c v hc q => k c v ?_ q) (fun _ q => q) fun _ _ q => q
    rcases hc with z | z
    · rw [z]; exact nit b u e
    · exact nit c _ z
theorem Inv.tok (I : Inv X pins σ H s) (t : Nat) : Inv X pins σ H { s with toks := t } := I.un (h' := s.heap) (t' := t) Un.refl I.hok
/-- all objects kept -/
theorem Inv.kept {t' : Nat} (I : Inv X pins σ H s) (k : ∀ b u, s.heap.get? b = some u → h'.get? b = some u) : Inv X pins σ H { s with heap := h', toks := t' } := I.un (Un.kept k) (I.hok.kept k)
/-- a new object laid and tracked -/
theorem Inv.laid {a : Addr} {o : HO} {t' : Nat} (I : Inv X pins σ H s) (k : ∀ b u, s.heap.get? b = some u → h'.get? b = some u) (hp : s.heap.objs.size ≤ a) (new : ObjOk X.prog X.w (upd H a o) h' a o) :
    Inv X pins σ (upd H a o) { s with heap := h', toks := t' } := I.un (Un.laid k hp (I.hok.fresh hp)) (I.hok.laid k hp new)
/-- an object written -/
theorem Inv.write {x e : Addr} {o : HO} {t' : Nat} (I : Inv X pins σ H s) (mu : Mut (H x)) (he : e = x ∨ H e = some (.own x)) (k : ∀ b u, b ≠ e → s.heap.get? b = some u → h'.get? b = some u) (heo : ∃ u, h'.get? e = some u)
    (new : ObjOk X.prog X.w (upd H x o) h' x o) : Inv X pins σ (upd H x o) { s with heap := h', toks := t' } := I.un (Un.write mu he k heo) (I.hok.write mu he k heo new)
/-- forgetting slots, pins -/
theorem Inv.weak {σ' : List (Option V)} (I : Inv X pins σ H s) (hl : σ'.length = σ.length) (w : ∀ (i : Nat) v, σ'[i]? = some (some v) → σ[i]? = some (some v)) : Inv X pins σ' H s :=
  ⟨I.ok, I.os, I.bare, I.base, let ⟨m, hn, hl'⟩ := I.loc; ⟨m, hn, fun i x v e1 e2 e3 => hl' i x v e1 (w i v e2) e3⟩, I.cell, I.free, I.freeC, I.pin, I.hok, hl.trans I.len⟩
theorem Inv.pins_of {pins' : List (Addr × Obj)} (I : Inv X pins σ H s) (h : ∀ p ∈ pins', s.heap.get? p.1 = some p.2 ∧ H p.1 = none ∧ p.1 ≠ X.env.locals ∧ p.1 ∉ X.fs ∧ ∀ v, p.2.data ≠ .cell v) : Inv X pins' σ H s :=
  ⟨I.ok, I.os, I.bare, I.base, I.loc, I.cell, I.free, I.freeC, fun p hp => (List.mem_append.mp hp).elim (fun z => I.pin p (List.mem_append_left _ z)) (h p), I.hok, I.len⟩

theorem nodup_ix {N : List Str} (hN : N.Nodup) {i j : Nat} {x : Str} (a : N[i]? = some x) (b : N[j]? = some x) : i = j := by
  obtain ⟨h1, e1⟩ := List.getElem?_eq_some_iff.mp a
  obtain ⟨h2, e2⟩ := List.getElem?_eq_some_iff.mp b
  exact (List.getElem_inj hN).mp (e1.trans e2.symm)

/-- a name is stored; what changed -/
theorem store_ok2 {M : Model} {A : Around} {E : Value → Shared → Prop} {i : Nat} {x : Str} {v : V} {u : Value} {Q : Unit → Shared → Prop} (I : Inv X pins σ H s) (hN : X.N.Nodup) (hi : X.N[i]? = some x) (hx : Loc X.env.scope x) (r : RelV v u)
    (h : ∀ s', Inv X pins (σ.set i (some v)) H s' → (∃ a, Heap.SameBut a s.heap s'.heap ∧ (a = X.env.locals ∨ X.env.cells.lookup x = some a)) → Q () s') (hf : X.fn x = true ∨ X.env.scope.names.lookup x = some .local := by first | exact .inl rfl | exact .inr rfl | assumption) : wpAny M A (storeName X.env x u) Q E s := by
  obtain ⟨m, hn, hl⟩ := id I.loc
  have hcls : (X.env.scope.kind == .class || (X.env.scope.kind == .module && X.env.locals != X.env.globals)) = false := by rw [I.ok.kind]; rfl
  have hiσ : i < σ.length := by rw [I.len]; exact (List.getElem?_eq_some_iff.mp hi).1
  have cne := I.cne
  have tracked : ∀ {a : Addr} {h' : Heap}, (∃ o, s.heap.get? a = some o ∧ H a = none) → Heap.SameBut a s.heap h' → HOk X.prog X.w H h' := fun {a h'} ha hs b ob e => by
    obtain ⟨_, _, hfree⟩ := ha
    refine (I.hok b ob e).stay (fun c w' hc q => (hs.2 c ?_).trans q) (fun _ q => q) fun _ _ q => q
    rintro rfl
    rcases hc with rfl | hc
    · rw [hfree] at e; cases e
    · rw [hfree] at hc; cases hc
  rcases hx with hk | hk
  · refine wpAny_storeName_local hk hn (fun h' hn' hs => ?_) hcls
    obtain ⟨oL, _, _, hoL, _⟩ := id hn
    refine h _ ⟨I.ok, I.os, I.bare, ⟨fun b o e n hb hx => ?_, fun b o e n hb hx => ?_, I.base.free, fun b o e hx => ?_, I.base.tups, I.base.frzs, I.base.tbls⟩, ⟨_, hn', fun j y v' e1 e2 e3 => ?_⟩, fun y c e => ?_, I.free, I.freeC, fun p hp => ?_, tracked ⟨oL, hoL, I.free⟩ hs, by simpa using I.len⟩ ⟨_, hs, .inl rfl⟩
    · exact (hs.2 b (Nat.ne_of_lt (Nat.lt_of_lt_of_le (Heap.lt_size e) I.ok.above))).trans (I.base.keep b o e n hb hx)
    · obtain ⟨sl, e1⟩ := I.base.slot b o e n hb hx
      exact ⟨sl, (hs.2 b (Nat.ne_of_lt (Nat.lt_of_lt_of_le (Heap.lt_size e) I.ok.above))).trans e1⟩
    · obtain ⟨o', e1⟩ := I.base.there b o e hx
      exact ⟨o', (hs.2 b (Nat.ne_of_lt (Nat.lt_of_lt_of_le (Heap.lt_size e) I.ok.above))).trans e1⟩
    · by_cases hj : j = i
      · subst hj
        rw [hi] at e1; cases e1
        rw [List.getElem?_set_self hiσ] at e2
        cases e2
        exact ⟨u, r, .inl ⟨hk, by simp⟩⟩
      · rw [List.getElem?_set_ne (Ne.symm hj)] at e2
        obtain ⟨u', r', q⟩ := hl j y v' e1 e2 e3
        refine ⟨u', r', ?_⟩
        rcases q with ⟨k, e⟩ | ⟨k, c, e, z⟩
        · refine .inl ⟨k, ?_⟩
          have : y ≠ x := fun e => hj (nodup_ix hN e1 (e ▸ hi))
          simp [this, e]
        · exact .inr ⟨k, c, e, z.sameBut hs (cne y c e)⟩
    · obtain ⟨w', z⟩ := I.cell y c e
      exact ⟨w', z.sameBut hs (cne y c e)⟩
    · obtain ⟨e, n, ne, nf, d⟩ := I.pin p hp
      exact ⟨(hs.2 p.1 ne).trans e, n, ne, nf, d⟩
  · have hfn : X.fn x = true := by
      rcases hf with z | z
      · exact z
      · rw [z] at hk; cases hk
    obtain ⟨c, hc⟩ := I.ok.has x (.inl hk)
    obtain ⟨w', z⟩ := I.cell x c hc
    refine wpAny_storeName_cell I.ok.kind hk hc z (fun h' hc' hs => ?_)
    obtain ⟨oc, hoc, hocd⟩ := id z
    refine h { s with heap := h' } ⟨I.ok, I.os, I.bare, ⟨fun b o e n hb hx => ?_, fun b o e n hb hx => ?_, I.base.free, fun b o e hx => ?_, I.base.tups, I.base.frzs, I.base.tbls⟩, ⟨m, hn.sameBut hs (Ne.symm (cne x c hc)), fun j y v' e1 e2 e3 => ?_⟩, fun y c' e => ?_, I.free, I.freeC, fun p hp => ?_, tracked ⟨oc, hoc, I.freeC x c hc⟩ hs, by simpa using I.len⟩ ⟨c, hs, .inr hc⟩
    · exact (hs.2 b (Nat.ne_of_lt (Nat.lt_of_lt_of_le (Heap.lt_size e) (I.ok.cab x c hfn hc)))).trans (I.base.keep b o e n hb hx)
    · obtain ⟨sl, e1⟩ := I.base.slot b o e n hb hx
      exact ⟨sl, (hs.2 b (Nat.ne_of_lt (Nat.lt_of_lt_of_le (Heap.lt_size e) (I.ok.cab x c hfn hc)))).trans e1⟩
    · obtain ⟨o', e1⟩ := I.base.there b o e hx
      exact ⟨o', (hs.2 b (Nat.ne_of_lt (Nat.lt_of_lt_of_le (Heap.lt_size e) (I.ok.cab x c hfn hc)))).trans e1⟩
    · by_cases hj : j = i
      · subst hj
        rw [hi] at e1; cases e1
        rw [List.getElem?_set_self hiσ] at e2
        cases e2
        exact ⟨u, r, .inr ⟨.inl hk, c, hc, hc'⟩⟩
      · rw [List.getElem?_set_ne (Ne.symm hj)] at e2
        obtain ⟨u', r', q⟩ := hl j y v' e1 e2 e3
        refine ⟨u', r', ?_⟩
        rcases q with q | ⟨k, c', e, z'⟩
        · exact .inl q
        · refine .inr ⟨k, c', e, z'.sameBut hs ?_⟩
          rintro rfl
          exact hj (nodup_ix hN e1 (I.ok.inj _ _ _ e hc ▸ hi))
    · by_cases hcc : c' = c
      · subst hcc; exact ⟨_, hc'⟩
      · obtain ⟨w2, z2⟩ := I.cell y c' e
        exact ⟨w2, z2.sameBut hs hcc⟩
    · obtain ⟨e, n, ne, nf, d⟩ := I.pin p hp
      refine ⟨(hs.2 p.1 ?_).trans e, n, ne, nf, d⟩
      intro q
      rw [q, hoc] at e
      have q' : oc = p.2 := Option.some.inj e
      exact d w' (by rw [← q']; exact hocd)
theorem store_ok {M : Model} {A : Around} {E : Value → Shared → Prop} {i : Nat} {x : Str} {v : V} {u : Value} {Q : Unit → Shared → Prop} (I : Inv X pins σ H s) (hN : X.N.Nodup) (hi : X.N[i]? = some x) (hx : Loc X.env.scope x) (r : RelV v u)
    (h : ∀ s', Inv X pins (σ.set i (some v)) H s' → Q () s') (hf : X.fn x = true ∨ X.env.scope.names.lookup x = some .local := by first | exact .inl rfl | exact .inr rfl | assumption) : wpAny M A (storeName X.env x u) Q E s :=
  store_ok2 I hN hi hx r (fun s' I' _ => h s' I') hf
/-- behind a call or a block, the state as it is -/
theorem Inv.call' {s' : Shared} {ch : List Addr} (I : Inv X pins σ H s) (ho : s'.os = s.os) (u : Un (frs X.stack) ch H H' s.heap s'.heap) (hok : HOk X.prog X.w H' s'.heap) (hg : AllBare s'.gens)
    (hch : ∀ b ∈ ch, (b ∈ X.ex ∨ X.s₀.heap.objs.size ≤ b) ∧ b ≠ X.env.locals ∧ (∀ x c, X.env.cells.lookup x = some c → c ≠ b) ∧ ∀ p ∈ X.pn ++ pins, p.1 ≠ b) : Inv X pins σ H' s' := by
  obtain ⟨h', g', d', t', o'⟩ := s'
  have e : o' = s.os := ho
  subst e
  exact I.call (g' := g') (t' := t') (d' := d') u hok hg hch
end

/-! ### the judgements -/
/-- an exception: its class, its own dict's address (where it has one), the abstract heap behind it -/
abbrev XK := Value → Option Addr → Hp → Prop
abbrev St := List (Option V)
abbrev VK := V → Hp → Prop
/-- an expression's reading; a test's; an argument list's -/
abbrev TE := St → Hp → VK → Prop
abbrev TT := St → Hp → (Bool → Hp → Prop) → Prop
abbrev TA := St → Hp → (List V → Hp → Prop) → Prop
/-- what is wanted behind a statement -/
structure Ends where
  nx : St → Hp → Prop
  rt : VK
  bk : St → Hp → Prop := fun _ _ => False
  ct : St → Hp → Prop := fun _ _ => False
abbrev TS := Ends → St → Hp → Prop

def EP (X : Cx) (pins : List (Addr × Obj)) (σ : St) (Q : VK) (u : Value) (s' : Shared) : Prop := ∃ v H', Inv X pins σ H' s' ∧ RelV v u ∧ Q v H'
def TP (X : Cx) (pins : List (Addr × Obj)) (σ : St) (Q : Bool → Hp → Prop) (b : Bool) (s' : Shared) : Prop := ∃ H', Inv X pins σ H' s' ∧ Q b H'
def AP (X : Cx) (pins : List (Addr × Obj)) (σ : St) (Q : List V → Hp → Prop) (us : List Value) (s' : Shared) : Prop := ∃ vs H', Inv X pins σ H' s' ∧ Vals vs us ∧ Q vs H'
def SP (X : Cx) (pins : List (Addr × Obj)) (D : Ends) (f : Flow) (s' : Shared) : Prop :=
  match f with
  | .next => ∃ σ' H', Inv X pins σ' H' s' ∧ D.nx σ' H'
  | .brk => ∃ σ' H', Inv X pins σ' H' s' ∧ D.bk σ' H'
  | .cont => ∃ σ' H', Inv X pins σ' H' s' ∧ D.ct σ' H'
  | .ret u => ∃ v σ' H', Inv X pins σ' H' s' ∧ RelV v u ∧ D.rt v H'

structure PE (X : Cx) (e : Expr) (t : TE) : Prop where
  run : ∀ (pins : List (Addr × Obj)) (s : Shared) (σ : St) (H : Hp) (Q : VK), Inv X pins σ H s → t σ H Q → wpAny (model X.prog X.w) X.A (eval e X.env) (EP X pins σ Q) X.xe s
instance {X : Cx} {e : Expr} {t : TE} : CoeFun (PE X e t) (fun _ => ∀ (pins : List (Addr × Obj)) (s : Shared) (σ : St) (H : Hp) (Q : VK), Inv X pins σ H s → t σ H Q → wpAny (model X.prog X.w) X.A (eval e X.env) (EP X pins σ Q) X.xe s) := ⟨PE.run⟩

structure PT (X : Cx) (e : Expr) (t : TT) : Prop where
  run : ∀ (pins : List (Addr × Obj)) (s : Shared) (σ : St) (H : Hp) (Q : Bool → Hp → Prop), Inv X pins σ H s → t σ H Q → wpAny (model X.prog X.w) X.A (isTrue e X.env (eval e X.env)) (TP X pins σ Q) X.xe s
instance {X : Cx} {e : Expr} {t : TT} : CoeFun (PT X e t) (fun _ => ∀ (pins : List (Addr × Obj)) (s : Shared) (σ : St) (H : Hp) (Q : Bool → Hp → Prop), Inv X pins σ H s → t σ H Q → wpAny (model X.prog X.w) X.A (isTrue e X.env (eval e X.env)) (TP X pins σ Q) X.xe s) := ⟨PT.run⟩

/-- a test whatever its 'whole' is (and, or) -/
structure PW (X : Cx) (e : Expr) (t : TT) : Prop where
  run : ∀ (whole : Sem Value) (pins : List (Addr × Obj)) (s : Shared) (σ : St) (H : Hp) (Q : Bool → Hp → Prop), Inv X pins σ H s → t σ H Q → wpAny (model X.prog X.w) X.A (isTrue e X.env whole) (TP X pins σ Q) X.xe s
instance {X : Cx} {e : Expr} {t : TT} : CoeFun (PW X e t) (fun _ => ∀ (whole : Sem Value) (pins : List (Addr × Obj)) (s : Shared) (σ : St) (H : Hp) (Q : Bool → Hp → Prop), Inv X pins σ H s → t σ H Q → wpAny (model X.prog X.w) X.A (isTrue e X.env whole) (TP X pins σ Q) X.xe s) := ⟨PW.run⟩

theorem PW.pt {X : Cx} {e : Expr} {t : TT} (h : PW X e t) : PT X e t := ⟨h _⟩
/-- an argument list (no star), from the left -/
structure PA (X : Cx) (es : List Expr) (t : TA) : Prop where
  run : ∀ (pos : Pos) (pins : List (Addr × Obj)) (s : Shared) (σ : St) (H : Hp) (Q : List V → Hp → Prop), Inv X pins σ H s → t σ H Q → wpAny (model X.prog X.w) X.A (spliced (backTo pos (starEach es X.env))) (AP X pins σ Q) X.xe s
instance {X : Cx} {es : List Expr} {t : TA} : CoeFun (PA X es t) (fun _ => ∀ (pos : Pos) (pins : List (Addr × Obj)) (s : Shared) (σ : St) (H : Hp) (Q : List V → Hp → Prop), Inv X pins σ H s → t σ H Q → wpAny (model X.prog X.w) X.A (spliced (backTo pos (starEach es X.env))) (AP X pins σ Q) X.xe s) := ⟨PA.run⟩

structure PS (X : Cx) (st : Stmt) (t : TS) : Prop where
  run : ∀ (pins : List (Addr × Obj)) (s : Shared) (σ : St) (H : Hp) (D : Ends), Inv X pins σ H s → t D σ H → wpAny (model X.prog X.w) X.A (exec st X.env) (SP X pins D) X.xe s
instance {X : Cx} {st : Stmt} {t : TS} : CoeFun (PS X st t) (fun _ => ∀ (pins : List (Addr × Obj)) (s : Shared) (σ : St) (H : Hp) (D : Ends), Inv X pins σ H s → t D σ H → wpAny (model X.prog X.w) X.A (exec st X.env) (SP X pins D) X.xe s) := ⟨PS.run⟩

structure PSs (X : Cx) (st : List Stmt) (t : TS) : Prop where
  run : ∀ (pins : List (Addr × Obj)) (s : Shared) (σ : St) (H : Hp) (D : Ends), Inv X pins σ H s → t D σ H → wpAny (model X.prog X.w) X.A (execs st X.env) (SP X pins D) X.xe s
instance {X : Cx} {st : List Stmt} {t : TS} : CoeFun (PSs X st t) (fun _ => ∀ (pins : List (Addr × Obj)) (s : Shared) (σ : St) (H : Hp) (D : Ends), Inv X pins σ H s → t D σ H → wpAny (model X.prog X.w) X.A (execs st X.env) (SP X pins D) X.xe s) := ⟨PSs.run⟩

/-- weaken the end -/
theorem thn {α : Type} {t : Sem α} {Q Q' : α → Shared → Prop} {M : Model} {A : Around} {E : Value → Shared → Prop} {s : Shared} (h : wpAny M A t Q E s) (hQ : ∀ a s, Q a s → Q' a s) : wpAny M A t Q' E s := wpAny_mono h hQ fun _ _ x => x
end L2

namespace L2
open PySem PySem.Spec PyProof.Rows
section
variable {X : Cx}

/-- two expressions in a row -/
theorem bin {a b : Expr} {ta tb : TE} (ha : PE X a ta) (hb : PE X b tb) {pins : List (Addr × Obj)} {s : Shared} {σ : St} {H : Hp} {R : V → V → Hp → Prop} (I : Inv X pins σ H s) (h : ta σ H fun x H1 => tb σ H1 fun y H2 => R x y H2)
    {α : Type} {Q : α → Shared → Prop} {f : Value → Value → Sem α}
    (hf : ∀ v u s2 x y H2, Inv X pins σ H2 s2 → RelV x v → RelV y u → R x y H2 → wpAny (model X.prog X.w) X.A (f v u) Q X.xe s2) :
    wpAny (model X.prog X.w) X.A (eval a X.env) (fun v s₁ => wpAny (model X.prog X.w) X.A (eval b X.env) (fun u s₂ => wpAny (model X.prog X.w) X.A (f v u) Q X.xe s₂) X.xe s₁) X.xe s := by
  refine thn (ha pins s σ H _ I h) fun v s1 ⟨x, H1, I1, r1, q1⟩ => ?_
  refine thn (hb pins s1 σ H1 _ I1 q1) fun u s2 ⟨y, H2, I2, r2, q2⟩ => ?_
  exact hf v u s2 x y H2 I2 r1 r2 q2

/-! ### names and constants -/
def tVar (i : Nat) : TE := fun σ H Q => ∃ v, σ[i]? = some (some v) ∧ Q v H
def tC (v : V) : TE := fun _ H Q => Q v H
theorem pe_var {i : Nat} {x : Str} {pos : Pos} (hN : X.N[i]? = some x) (hv : Vis X.env.scope x) (hd : (x == ("__debug__" : Str)) = false := by decide) (hcd : (x == ("__classdict__" : Str)) = false := by decide) : PE X (.Name x pos) (tVar i) := by
  refine ⟨?_⟩
  intro pins s σ H Q I h
  obtain ⟨v, e, h⟩ := h
  obtain ⟨m, hn, hl⟩ := I.loc
  obtain ⟨u, r, l⟩ := hl i x v hN e hv
  have fin : EP X pins σ Q u s := ⟨v, H, I, r, h⟩
  rcases l with ⟨hk, hm⟩ | ⟨hk, c, hc, hcell⟩
  · exact wpAny_Name (wpAny_loadName_local I.ok.kind hk hn hm fin) hd
  · rcases hk with hk | hk
    · exact wpAny_Name (wpAny_loadName_cell I.ok.kind hk hc hcell fin) hd
    · exact wpAny_Name (wpAny_loadName_free I.ok.kind hk hc hcell fin hcd) hd
theorem pe_int {i j pos} : PE X (.Constant (.int i) j pos) (tC (.int i)) := ⟨fun _ _ _ H _ I h => wpAny_Constant_int ⟨.int i, H, I.tok _, ⟨_, rfl⟩, h⟩⟩
theorem pe_bl {b j pos} : PE X (.Constant (.bool b) j pos) (tC (.bl b)) := ⟨fun _ _ _ H _ I h => Constant_bool ⟨.bl b, H, I, rfl, h⟩⟩
theorem pe_non {j pos} : PE X (.Constant .none j pos) (tC .non) := ⟨fun _ _ _ H _ I h => Constant_none ⟨.non, H, I, rfl, h⟩⟩
theorem pe_str {x j pos} : PE X (.Constant (.str x) j pos) (tC (.str x)) := ⟨fun _ _ _ H _ I h => Calls.Constant_str ⟨.str x, H, I.tok _, ⟨_, rfl⟩, h⟩⟩

/-- a global name of the def -/
def Gl (X : Cx) (x : Str) : Prop := X.env.kindOf x = some .globalImplicit
theorem ld_glob {E : Value → Shared → Prop} {pins : List (Addr × Obj)} {s : Shared} {σ : St} {H : Hp} {x : Str} {u : Value} {pos : Pos} {Q : Value → Shared → Prop} (I : Inv X pins σ H s) (hg : Gl X x) (hm : X.mg x = some u) (h : Q u s)
    (hd : (x == ("__debug__" : Str)) = false := by decide) : wpAny (model X.prog X.w) X.A (eval (.Name x pos) X.env) Q E s :=
  Calls.Name_function_global I.ok.kind hg (Calls.loadGlobal_global (by rw [I.ok.glob]; exact I.mod.glob.keeps I.bk) hm h) hd
theorem ld_blt {E : Value → Shared → Prop} {pins : List (Addr × Obj)} {s : Shared} {σ : St} {H : Hp} {x : Str} {u : Value} {pos : Pos} {Q : Value → Shared → Prop} (I : Inv X pins σ H s) (hg : Gl X x) (hm : X.mg x = none) (hv : bootBuiltins x = some u) (h : Q u s)
    (hn : x ≠ "__name__" := by decide) (hd : (x == ("__debug__" : Str)) = false := by decide) : wpAny (model X.prog X.w) X.A (eval (.Name x pos) X.env) Q E s := by
  obtain ⟨mb, h1, h2⟩ := I.mod.blt
  exact Calls.Name_function_global I.ok.kind hg (Calls.loadGlobal_builtin (by rw [I.ok.glob]; exact I.mod.glob.keeps I.bk) hm (by rw [I.ok.blt]; exact h1.keeps I.bk) ((h2 x hn).trans hv) h) hd
/-- a module's constant, a class, a function, as a value -/
theorem pe_glob {x : Str} {v : V} {u : Value} {pos : Pos} (hg : Gl X x) (hm : X.mg x = some u) (r : RelV v u) (hd : (x == ("__debug__" : Str)) = false := by decide) : PE X (.Name x pos) (tC v) := ⟨fun _ _ _ H _ I h => ld_glob I hg hm ⟨v, H, I, r, h⟩ hd⟩
theorem pe_bltn {x : Str} {v : V} {u : Value} {pos : Pos} (hg : Gl X x) (hm : X.mg x = none) (hv : bootBuiltins x = some u) (r : RelV v u) (hn : x ≠ "__name__" := by decide) (hd : (x == ("__debug__" : Str)) = false := by decide) : PE X (.Name x pos) (tC v) := ⟨fun _ _ _ H _ I h => ld_blt I hg hm hv ⟨v, H, I, r, h⟩ hn hd⟩

/-! ### arithmetic -/
variable {a b : Expr} {ta tb : TE} {pos : Pos}
/-! ### comparisons -/
structure PC (X : Cx) (op : CmpOp) (a b : Expr) (t : TE) : Prop where
  run : ∀ (pins : List (Addr × Obj)) (s : Shared) (σ : St) (H : Hp) (Q : VK), Inv X pins σ H s → t σ H Q →
    wpAny (model X.prog X.w) X.A (eval a X.env) (fun v s₁ => wpAny (model X.prog X.w) X.A (eval b X.env) (fun u s₂ => wpAny (model X.prog X.w) X.A (compareOp op v u) (EP X pins σ Q) X.xe s₂) X.xe s₁) X.xe s
instance {X : Cx} {op : CmpOp} {a b : Expr} {t : TE} : CoeFun (PC X op a b t) (fun _ => ∀ (pins : List (Addr × Obj)) (s : Shared) (σ : St) (H : Hp) (Q : VK), Inv X pins σ H s → t σ H Q →
    wpAny (model X.prog X.w) X.A (eval a X.env) (fun v s₁ => wpAny (model X.prog X.w) X.A (eval b X.env) (fun u s₂ => wpAny (model X.prog X.w) X.A (compareOp op v u) (EP X pins σ Q) X.xe s₂) X.xe s₁) X.xe s) := ⟨PC.run⟩

theorem nobehind (b : Expr) {op : CmpOp} (h : op ≠ .In) (h2 : op ≠ .NotIn) : behindInMarks op b = false := by
  have e1 : (op == CmpOp.In) = false := by cases op <;> first | rfl | exact absurd rfl h
  have e2 : (op == CmpOp.NotIn) = false := by cases op <;> first | rfl | exact absurd rfl h2
  cases b <;> simp [behindInMarks, e1, e2]
/-- is None -/
def tIsN (ta : TE) : TE := fun σ H Q => ta σ H fun x H1 => Q (.bl (decide (x = .non))) H1
def tNotN (ta : TE) : TE := fun σ H Q => ta σ H fun x H1 => Q (.bl (!decide (x = .non))) H1
theorem RelV.none_iff {x : V} {v : Value} (r : RelV x v) : (v == Value.none) = decide (x = .non) := by
  cases x with
  | non => cases r; rfl
  | bl _ => cases r; rfl
  | int _ => obtain ⟨t, rfl⟩ := r; rfl
  | str _ => obtain ⟨t, rfl⟩ := r; rfl
  | byt _ => obtain ⟨t, rfl⟩ := r; rfl
  | flt _ => obtain ⟨t, rfl⟩ := r; rfl
  | ref _ => cases r; rfl
  | ty _ => cases r; rfl
theorem pc_isN {j pos'} (ha : PE X a ta) : PC X .Is a (.Constant .none j pos') (tIsN ta) := by
  refine ⟨?_⟩
  intro pins s σ H Q I h
  refine thn (ha pins s σ H _ I h) fun v s1 ⟨x, H1, I1, r1, q1⟩ => ?_
  exact Constant_none (is_none_gen ⟨.bl _, H1, I1, by rw [r1.none_iff]; rfl, q1⟩)
theorem pc_notN {j pos'} (ha : PE X a ta) : PC X .IsNot a (.Constant .none j pos') (tNotN ta) := by
  refine ⟨?_⟩
  intro pins s σ H Q I h
  refine thn (ha pins s σ H _ I h) fun v s1 ⟨x, H1, I1, r1, q1⟩ => ?_
  exact Constant_none (isnot_none_gen ⟨.bl _, H1, I1, by rw [r1.none_iff]; rfl, q1⟩)
/-- a comparison as a value, as a test -/
def tB (t : TE) : TT := fun σ H Q => t σ H fun x H1 => ∃ c, x = .bl c ∧ Q c H1
theorem pt_cmp {op : CmpOp} {t : TE} (h : PC X op a b t) (h1 : behindInMarks op b = false := by first | exact nobehind _ (by decide) (by decide) | rfl) : PT X (.Compare a [op] [b] pos) (tB t) := by
  refine ⟨?_⟩
  intro pins s σ H Q I hw
  refine wpAny_isTrue_Compare1 (thn (h pins s σ H _ I hw) fun v s1 h1 => thn h1 fun u s2 h2 => thn h2 fun c s3 ⟨x, H1, I1, r1, q1⟩ => ?_) h1
  obtain ⟨d, rfl, q⟩ := q1
  cases r1
  exact wpAny_truthy_bool ⟨H1, I1, q⟩
/-- an expression whose value is a bool, as a test -/
theorem pt_val {e : Expr} {t : TE} (h : PE X e t) (he : ∀ whole, isTrue e X.env whole = (do let v ← whole; standAt e.pos; holding [v] (truthy v)) := by intro _; rfl) : PT X e (tB t) := by
  refine ⟨?_⟩
  intro pins s σ H Q I hw
  refine isTrue_plain (thn (h pins s σ H _ I hw) fun v s1 ⟨x, H1, I1, r1, q1⟩ => ?_) (he _)
  obtain ⟨d, rfl, q⟩ := q1
  cases r1
  exact wpAny_truthy_bool ⟨H1, I1, q⟩

/-! ### and, or, not -/
variable {tA tB' : TT} {rest : List Expr}
def tAnd (t u : TT) : TT := fun σ H Q => t σ H fun c H1 => if c = true then u σ H1 Q else Q false H1
def tOr (t u : TT) : TT := fun σ H Q => t σ H fun c H1 => if c = true then Q true H1 else u σ H1 Q
def tNot (t : TT) : TT := fun σ H Q => t σ H fun c H1 => Q (!c) H1
theorem pw_and1 (ha : PT X a tA) : PW X (.BoolOp .And [a] pos) tA := by
  refine ⟨?_⟩
  intro wh pins s σ H Q I h
  refine isTrue_and (thn (ha pins s σ H Q I h) fun c s1 e => ?_)
  cases c with
  | true => exact isTrue_and_nil e
  | false => exact e
theorem pw_or1 (ha : PT X a tA) : PW X (.BoolOp .Or [a] pos) tA := by
  refine ⟨?_⟩
  intro wh pins s σ H Q I h
  refine isTrue_or (thn (ha pins s σ H Q I h) fun c s1 e => ?_)
  cases c with
  | false => exact isTrue_or_nil e
  | true => exact e
theorem pw_and (ha : PT X a tA) (hb : PW X (.BoolOp .And (b :: rest) pos) tB') : PW X (.BoolOp .And (a :: b :: rest) pos) (tAnd tA tB') := by
  refine ⟨?_⟩
  intro wh pins s σ H Q I h
  refine isTrue_and (thn (ha pins s σ H _ I h) fun c s1 ⟨H1, I1, q1⟩ => ?_)
  cases c with
  | true => exact hb wh pins s1 σ H1 Q I1 q1
  | false => exact ⟨H1, I1, q1⟩
theorem pw_or (ha : PT X a tA) (hb : PW X (.BoolOp .Or (b :: rest) pos) tB') : PW X (.BoolOp .Or (a :: b :: rest) pos) (tOr tA tB') := by
  refine ⟨?_⟩
  intro wh pins s σ H Q I h
  refine isTrue_or (thn (ha pins s σ H _ I h) fun c s1 ⟨H1, I1, q1⟩ => ?_)
  cases c with
  | true => exact ⟨H1, I1, q1⟩
  | false => exact hb wh pins s1 σ H1 Q I1 q1
theorem pt_not (ha : PT X a tA) : PT X (.UnaryOp .Not a pos) (tNot tA) := by
  refine ⟨?_⟩
  intro pins s σ H Q I h
  exact isTrue_not (ha pins s σ H (fun c H1 => Q (!c) H1) I h)
/-- a if t else b -/
def tIf (t : TT) (ta tb : TE) : TE := fun σ H Q => t σ H fun c H1 => if c = true then ta σ H1 Q else tb σ H1 Q
theorem pe_ifExp {c : Expr} (hc : PT X c tA) (ha : PE X a ta) (hb : PE X b tb) : PE X (.IfExp c a b pos) (tIf tA ta tb) := by
  refine ⟨?_⟩
  intro pins s σ H Q I h
  refine wpAny_IfExp (thn (hc pins s σ H _ I h) fun d s1 ⟨H1, I1, q1⟩ => ?_)
  cases d with
  | true => exact ha pins s1 σ H1 Q I1 q1
  | false => exact hb pins s1 σ H1 Q I1 q1
end
end L2

namespace L2
open PySem PySem.Spec PyProof.Rows

/-! ### a list, a tuple that is read: tracked, frozen, or an object of the module -/
def SqL (K : PySem.W.Frag) (H : Hp) (a : Addr) (xs : List V) : Prop :=
  Rd H a (.lst xs) ∨
    ∃ (o : Obj) (its : Array Value) (n : Nat), K.lookup a = some o ∧ o.cls = .type "list" ∧ o.dict = none ∧ o.data = .seq its n ∧ its.size ≤ sizeLine ∧ Vals xs its.toList
def SqT (K : PySem.W.Frag) (H : Hp) (a : Addr) (xs : List V) : Prop :=
  Rd H a (.tup xs) ∨
    ∃ (o : Obj) (its : Array Value) (n : Nat), K.lookup a = some o ∧ o.cls = .type "tuple" ∧ o.data = .seq its n ∧ its.size ≤ sizeLine ∧ Vals xs its.toList
def absV : Value → Option V
  | .none => some .non
  | .bool b => some (.bl b)
  | .int i _ => some (.int i)
  | .str x _ => some (.str x)
  | .bytes b _ => some (.byt b)
  | .float b _ => some (.flt b)
  | .ref a => some (.ref a)
  | .type n => some (.ty n)
  | _ => none
theorem RelV.abs {x : V} {u : Value} (r : RelV x u) : absV u = some x := by
  cases x with
  | non => cases r; rfl
  | bl _ => cases r; rfl
  | int _ => obtain ⟨t, rfl⟩ := r; rfl
  | str _ => obtain ⟨t, rfl⟩ := r; rfl
  | byt _ => obtain ⟨t, rfl⟩ := r; rfl
  | flt _ => obtain ⟨t, rfl⟩ := r; rfl
  | ref _ => cases r; rfl
  | ty _ => cases r; rfl
theorem RelV.inj {x y : V} {u : Value} (r : RelV x u) (q : RelV y u) : x = y := Option.some.inj (r.abs.symm.trans q.abs)
theorem Vals.inj : ∀ {xs ys : List V} {us : List Value}, Vals xs us → Vals ys us → xs = ys
  | _, _, _, .nil, .nil => rfl
  | _, _, _, .cons r t, .cons r' t' => by rw [r.inj r', Vals.inj t t']
section
variable {X : Cx} {pins : List (Addr × Obj)} {σ : St} {H : Hp} {s : Shared} {a : Addr} {xs ys : List V}
theorem SqL.of {K : PySem.W.Frag} (h : H a = some (.lst xs)) : SqL K H a xs := .inl (.inl h)
theorem SqT.of {K : PySem.W.Frag} (h : H a = some (.tup xs)) : SqT K H a xs := .inl (.inl h)
theorem Inv.list (I : Inv X pins σ H s) (h : SqL X.K H a xs) : ∃ its : List Value, Vals xs its ∧ PlainL s.heap a its.toArray ∧ xs.length ≤ sizeLine := by
  rcases h with h | ⟨o, its, n, hk, hc, hd, hs, hz, r⟩
  · obtain ⟨z, its, n, r, e⟩ := h.ok I.hok
    exact ⟨its, r, ⟨_, n, e, rfl, rfl, rfl⟩, z⟩
  · refine ⟨its.toList, r, ⟨o, n, I.kIn a o hk, hc, hd, by simpa using hs⟩, ?_⟩
    have e := r.length
    simp only [Array.length_toList] at e
    omega
theorem Inv.tuple (I : Inv X pins σ H s) (h : SqT X.K H a xs) : ∃ its : List Value, Vals xs its ∧ IsTup s.heap a its.toArray ∧ xs.length ≤ sizeLine := by
  rcases h with h | ⟨o, its, n, hk, hc, hs, hz, r⟩
  · obtain ⟨z, its, r, p⟩ := h.ok I.hok
    exact ⟨its, r, p, z⟩
  · refine ⟨its.toList, r, ⟨o, I.kIn a o hk, hc, n, by simpa using hs⟩, ?_⟩
    have e := r.length
    simp only [Array.length_toList] at e
    omega
theorem Inv.list_inj (I : Inv X pins σ H s) (h : SqL X.K H a xs) (h' : SqL X.K H a ys) : xs = ys := by
  obtain ⟨its, r, ⟨o, n, e, _, _, d⟩, _⟩ := I.list h
  obtain ⟨its', r', ⟨o', n', e', _, _, d'⟩, _⟩ := I.list h'
  rw [e] at e'; cases e'
  rw [d] at d'
  injection d' with d1 _
  have : its = its' := by simpa using congrArg Array.toList d1
  subst this
  exact r.inj r'
end

/-! ### another wish about exceptions -/
abbrev Cx.wish (X : Cx) (E : Value → Shared → Prop) : Cx := { X with xe := E }
/-- no exception leaves -/
abbrev Cx.nox (X : Cx) : Cx := X.wish fun _ _ => False
theorem Cx.Ok.wish {X : Cx} (ok : X.Ok) (E : Value → Shared → Prop) : (X.wish E).Ok :=
  ⟨ok.mod, ok.kind, ok.glob, ok.blt, ok.above, ok.inj, ok.has, ok.cab, ok.hd, ok.frames, ok.stk, ok.exf, ok.bs, ok.bsz, ok.noex, ok.exfs, ok.funs, ok.frf⟩
theorem Cx.Ok.unwish {X : Cx} {E : Value → Shared → Prop} (ok : (X.wish E).Ok) : X.Ok :=
  ⟨ok.mod, ok.kind, ok.glob, ok.blt, ok.above, ok.inj, ok.has, ok.cab, ok.hd, ok.frames, ok.stk, ok.exf, ok.bs, ok.bsz, ok.noex, ok.exfs, ok.funs, ok.frf⟩
section
variable {X : Cx} {pins : List (Addr × Obj)} {σ : St} {H : Hp} {s : Shared} {E : Value → Shared → Prop}
theorem Inv.wish (I : Inv X pins σ H s) (E : Value → Shared → Prop) : Inv (X.wish E) pins σ H s := ⟨I.ok.wish E, I.os, I.bare, I.base, I.loc, I.cell, I.free, I.freeC, I.pin, I.hok, I.len⟩
theorem Inv.unwish (I : Inv (X.wish E) pins σ H s) : Inv X pins σ H s := ⟨I.ok.unwish, I.os, I.bare, I.base, I.loc, I.cell, I.free, I.freeC, I.pin, I.hok, I.len⟩
theorem SP.unwish {D : Ends} {f : Flow} {s' : Shared} (h : SP (X.wish E) pins D f s') : SP X pins D f s' := by
  cases f with
  | next => obtain ⟨σ', H', I, q⟩ := h; exact ⟨σ', H', I.unwish, q⟩
  | brk => obtain ⟨σ', H', I, q⟩ := h; exact ⟨σ', H', I.unwish, q⟩
  | cont => obtain ⟨σ', H', I, q⟩ := h; exact ⟨σ', H', I.unwish, q⟩
  | ret u => obtain ⟨v, σ', H', I, r, q⟩ := h; exact ⟨v, σ', H', I.unwish, r, q⟩
theorem PSs.nox {st : List Stmt} {t : TS} (h : PSs X.nox st t) : PSs X st t := ⟨fun pins s σ H D I hw =>
  wpAny_mono (h pins s σ H D (I.wish _) hw) (fun _ _ q => q.unwish) fun _ _ z => False.elim z⟩
end

/-! ### blocks and small statements -/
section
variable {X : Cx} {st : Stmt} {rest : List Stmt} {t u : TS} {e : Expr} {te : TE} {pos : Pos}
def tNext : TS := fun D σ H => D.nx σ H
def tSeq (t u : TS) : TS := fun D σ H => t { D with nx := u D } σ H
theorem pss_nil : PSs X [] tNext := ⟨fun _ _ σ H _ I h => wpAny_execs_nil ⟨σ, H, I, h⟩⟩
theorem pss_cons (h1 : PS X st t) (h2 : PSs X rest u) : PSs X (st :: rest) (tSeq t u) := by
  refine ⟨?_⟩
  intro pins s σ H D I h
  refine wpAny_execs_cons (thn (h1 pins s σ H { D with nx := u D } I h) fun f s1 q => ?_)
  cases f with
  | next =>
    obtain ⟨σ', H', I', q⟩ := q
    exact h2 pins s1 σ' H' D I' q
  | ret v => exact q
  | brk => exact q
  | cont => exact q
theorem pss_one (h1 : PS X st t) : PSs X [st] t := by
  refine ⟨?_⟩
  intro pins s σ H D I h
  refine wpAny_execs_cons (thn (h1 pins s σ H D I h) fun f s1 q => ?_)
  cases f with
  | next => exact wpAny_execs_nil q
  | ret v => exact q
  | brk => exact q
  | cont => exact q
/-- in a def's body nothing is shown -/
theorem Inv.quiet {pins : List (Addr × Obj)} {σ : St} {H : Hp} {s : Shared} (I : Inv X pins σ H s) : interactive X.env = false := by simp [interactive, I.ok.kind]
/-- an expression whose value is dropped -/
def tDrop (te : TE) : TS := fun D σ H => te σ H fun _ H1 => D.nx σ H1
theorem ps_expr (he : PE X e te) (hs : swapsWith e none pos.line X.env = pure false := by rfl) : PS X (.Expr e pos) (tDrop te) := by
  refine ⟨?_⟩
  intro pins s σ H D I h
  exact wpAny_Expr_any (thn (he pins s σ H _ I h) fun v s1 ⟨x, H1, I1, r1, q1⟩ => ⟨σ, H1, I1, q1⟩) I.quiet hs
def tRet (te : TE) : TS := fun D σ H => te σ H D.rt
theorem ps_ret (he : PE X e te) : PS X (.Return (some e) pos) (tRet te) := by
  refine ⟨?_⟩
  intro pins s σ H D I h
  exact wpAny_Return_some (thn (he pins s σ H _ I h) fun v s1 ⟨x, H1, I1, r1, q1⟩ => ⟨x, σ, H1, I1, r1, q1⟩)
def tIfS (c : TT) (t u : TS) : TS := fun D σ H => c σ H fun b H1 => if b = true then t D σ H1 else u D σ H1
theorem ps_if {c : Expr} {a b : List Stmt} {tc : TT} (hc : PT X c tc) (ha : PSs X a t) (hb : PSs X b u) : PS X (.If c a b pos) (tIfS tc t u) := by
  refine ⟨?_⟩
  intro pins s σ H D I h
  refine wpAny_If (thn (hc pins s σ H _ I h) fun d s1 ⟨H1, I1, q1⟩ => ?_)
  cases d with
  | true => exact ha pins s1 σ H1 D I1 q1
  | false => exact hb pins s1 σ H1 D I1 q1
end

/-! ### targets -/
abbrev TG := V → St → Hp → (St → Hp → Prop) → Prop
abbrev TGs := List V → St → Hp → (St → Hp → Prop) → Prop
structure PG (X : Cx) (target : Expr) (t : TG) : Prop where
  run : ∀ (pins : List (Addr × Obj)) (s : Shared) (σ : St) (H : Hp) (v : V) (u : Value) (Q : St → Hp → Prop), Inv X pins σ H s → RelV v u → t v σ H Q →
    wpAny (model X.prog X.w) X.A (assign target X.env u) (fun _ s' => ∃ σ' H', Inv X pins σ' H' s' ∧ Q σ' H') X.xe s
instance {X : Cx} {target : Expr} {t : TG} : CoeFun (PG X target t) (fun _ => ∀ (pins : List (Addr × Obj)) (s : Shared) (σ : St) (H : Hp) (v : V) (u : Value) (Q : St → Hp → Prop), Inv X pins σ H s → RelV v u → t v σ H Q →
    wpAny (model X.prog X.w) X.A (assign target X.env u) (fun _ s' => ∃ σ' H', Inv X pins σ' H' s' ∧ Q σ' H') X.xe s) := ⟨PG.run⟩

/-- several targets, one after another -/
structure PGs (X : Cx) (ts : List Expr) (t : TGs) : Prop where
  run : ∀ (pins : List (Addr × Obj)) (s : Shared) (σ : St) (H : Hp) (vs : List V) (us : List Value) (Q : St → Hp → Prop), Inv X pins σ H s → Vals vs us → t vs σ H Q →
    wpAny (model X.prog X.w) X.A (assignInOrder ((assignEach ts X.env).map (·.2)) us) (fun _ s' => ∃ σ' H', Inv X pins σ' H' s' ∧ Q σ' H') X.xe s
instance {X : Cx} {ts : List Expr} {t : TGs} : CoeFun (PGs X ts t) (fun _ => ∀ (pins : List (Addr × Obj)) (s : Shared) (σ : St) (H : Hp) (vs : List V) (us : List Value) (Q : St → Hp → Prop), Inv X pins σ H s → Vals vs us → t vs σ H Q →
    wpAny (model X.prog X.w) X.A (assignInOrder ((assignEach ts X.env).map (·.2)) us) (fun _ s' => ∃ σ' H', Inv X pins σ' H' s' ∧ Q σ' H') X.xe s) := ⟨PGs.run⟩

/-- o[i] = v, by values -/
abbrev TSet := V → V → V → Hp → (Hp → Prop) → Prop
def PSet (X : Cx) (t : TSet) : Prop :=
  ∀ (pins : List (Addr × Obj)) (s : Shared) (σ : St) (H : Hp) (o i v : V) (ov iv u : Value) (Q : Hp → Prop), Inv X pins σ H s → RelV o ov → RelV i iv → RelV v u → t o i v H Q →
    wpAny (model X.prog X.w) X.A (setItem ov iv u) (fun _ s' => ∃ H', Inv X pins σ H' s' ∧ Q H') X.xe s
section
variable {X : Cx} {pos : Pos}
def gName (i : Nat) : TG := fun v σ H Q => Q (σ.set i (some v)) H
theorem pg_name {i : Nat} {x : Str} (hN : X.N.Nodup) (hi : X.N[i]? = some x) (hx : Loc X.env.scope x) (hf : X.fn x = true ∨ X.env.scope.names.lookup x = some .local := by first | exact .inl rfl | exact .inr rfl | assumption) : PG X (.Name x pos) (gName i) := by
  refine ⟨?_⟩
  intro pins s σ H v u Q I r h
  exact wpAny_assign_Name (store_ok I hN hi hx r (fun s' I' => ⟨_, H, I', h⟩) hf)
def gNil : TGs := fun vs σ H Q => vs = [] ∧ Q σ H
def gCons (t : TG) (u : TGs) : TGs := fun vs σ H Q => ∃ v r, vs = v :: r ∧ t v σ H fun σ' H' => u r σ' H' Q
theorem pgs_nil : PGs X [] gNil := by
  refine ⟨?_⟩
  intro pins s σ H vs us Q I r h
  obtain ⟨e, h⟩ := h
  subst e
  cases r
  exact assignInOrder_nil ⟨σ, H, I, h⟩
theorem pgs_cons {e : Expr} {es : List Expr} {t : TG} {u : TGs} (h1 : PG X e t) (h2 : PGs X es u)
    (hs : (assignEach (e :: es) X.env).map (·.2) = assign e X.env :: (assignEach es X.env).map (·.2) := by rfl) : PGs X (e :: es) (gCons t u) := by
  refine ⟨?_⟩
  intro pins s σ H vs us Q I r h
  obtain ⟨v, vr, e1, h⟩ := h
  subst e1
  cases r with
  | cons r rr =>
    rw [hs]
    refine assignInOrder_cons (thn (h1 pins s σ H _ _ _ I r h) fun _ s1 ⟨σ1, H1, I1, q1⟩ => ?_)
    exact h2 pins s1 σ1 H1 _ _ Q I1 rr q1
/-- (a, b, ..) = a tuple of that length -/
def gTup (K : PySem.W.Frag) (n : Nat) (t : TGs) : TG := fun v σ H Q => ∃ a xs, v = .ref a ∧ SqT K H a xs ∧ xs.length = n ∧ t xs σ H Q
theorem pg_tup {es : List Expr} {k : Nat} {t : TGs} {n : Nat} (hc : X.calm = true) (h : PGs X es t)
    (hn : (assignEach es X.env).length = n := by rfl) (hst : (assignEach es X.env).findIdx? (·.1) = none := by rfl) : PG X (.Tuple es k pos) (gTup X.K n t) := by
  refine ⟨?_⟩
  intro pins s σ H v u Q I r hw
  obtain ⟨a, xs, e1, hq, hl, hw⟩ := hw
  subst e1
  cases r
  obtain ⟨its, rv, ht, hz⟩ := I.tuple hq
  refine assign_Tuple_tuple (I.ok.hd hc) ht (by simp [hn, ← hl, rv.length]) hst fun h' hx => ?_
  have I1 : Inv X pins σ H { s with heap := h' } := I.kept (t' := s.toks) fun b o e => hx b o (Nat.ne_of_lt (Heap.lt_size e)) e
  exact h pins _ σ H xs _ Q I1 (by simpa using rv) hw
/-- o[i] = .. -/
def gSub (to ti : TE) (t : TSet) : TG := fun v σ H Q => to σ H fun o H1 => ti σ H1 fun i H2 => t o i v H2 fun H3 => Q σ H3
theorem pg_sub {o i : Expr} {to ti : TE} {t : TSet} (ho : PE X o to) (hi : PE X i ti) (hs : PSet X t)
    (ha : ∀ v, assign (.Subscript o i pos) X.env v = (do
      let ov ← holding [v] (eval o X.env)
      let iv ← holding [v, ov] (eval i X.env)
      standAt pos
      holding [v, ov, iv] (setItem ov iv v)
      release [v, ov, iv] []) := by intro _; rfl) : PG X (.Subscript o i pos) (gSub to ti t) := by
  refine ⟨?_⟩
  intro pins s σ H v u Q I r h
  rw [ha]
  refine wpAny_bind (wpAny_holding (thn (ho pins s σ H _ I h) fun ov s1 ⟨x, H1, I1, r1, q1⟩ => ?_))
  refine wpAny_bind (wpAny_holding (thn (hi pins s1 σ H1 _ I1 q1) fun iv s2 ⟨y, H2, I2, r2, q2⟩ => ?_))
  refine wpAny_bind (wpAny_standAt (wpAny_bind (wpAny_holding (thn (hs pins s2 σ H2 x y v ov iv u _ I2 r1 r2 r q2) fun _ s3 ⟨H3, I3, q3⟩ => ?_))))
  exact wpAny_release ⟨σ, H3, I3, q3⟩
/-- target = value -/
def tAsg (te : TE) (g : TG) : TS := fun D σ H => te σ H fun x H1 => g x σ H1 D.nx
theorem ps_asg {tg e : Expr} {te : TE} {g : TG} (he : PE X e te) (hg : PG X tg g) (hs : swapsWithSole [tg] e pos.line X.env = pure false := by rfl) (hw : swappedStores [tg] e X.env = pure none := by rfl)
    (h1 : (assignEach [tg] X.env).map (·.2) = [assign tg X.env] := by rfl) : PS X (.Assign [tg] e pos) (tAsg te g) := by
  refine ⟨?_⟩
  intro pins s σ H D I h
  refine wpAny_Assign_stores (thn (he pins s σ H _ I h) fun v s1 ⟨x, H1, I1, r1, q1⟩ => ?_) hs hw
  rw [h1]
  exact thn (hg pins s1 σ H1 x v _ I1 r1 q1) fun _ s2 q => q
/-- name = value -/
theorem ps_set {i : Nat} {x : Str} {e : Expr} {te : TE} {pos' : Pos} (hN : X.N.Nodup) (hi : X.N[i]? = some x) (hx : Loc X.env.scope x) (he : PE X e te) (hs : swapsWith e (some (.Name x pos')) pos.line X.env = pure false := by rfl) (hf : X.fn x = true ∨ X.env.scope.names.lookup x = some .local := by first | exact .inl rfl | exact .inr rfl | assumption) :
    PS X (.Assign [.Name x pos'] e pos) (tAsg te (gName i)) := by
  refine ⟨?_⟩
  intro pins s σ H D I h
  refine wpAny_Assign_Name (thn (he pins s σ H _ I h) fun v s1 ⟨y, H1, I1, r1, q1⟩ => ?_) hs
  exact store_ok I1 hN hi hx r1 (fun s2 I2 => ⟨_, H1, I2, q1⟩) hf
/-- a, b = x, y with plain local names: stored from the right; the pair itself is not tracked (the opening rows as in PyProof/Rows/TupAssign.lean:23) -/
def tPar (i j : Nat) (ta : TA) : TS := fun D σ H => ta σ H fun vs H1 => ∃ v w, vs = [v, w] ∧ D.nx ((σ.set i (some v)).set j (some w)) H1
theorem ps_par {i j : Nat} {x y : Str} {a b : Expr} {ta : TA} {px py pt : Pos} {kt k2 pt2} (hc : X.calm = true) (hN : X.N.Nodup) (hi : X.N[i]? = some x) (hj : X.N[j]? = some y) (hij : i ≠ j)
    (hx : X.env.scope.names.lookup x = some .local) (hy : X.env.scope.names.lookup y = some .local) (ha : PA X [a, b] ta)
    (hw : swappedStores [.Tuple [.Name x px, .Name y py] kt pt] (.Tuple [a, b] k2 pt2) X.env = pure (some [x, y]))
    (hs : swapsWithSole [.Tuple [.Name x px, .Name y py] kt pt] (.Tuple [a, b] k2 pt2) pos.line X.env = pure false := by rfl) :
    PS X (.Assign [.Tuple [.Name x px, .Name y py] kt pt] (.Tuple [a, b] k2 pt2) pos) (tPar i j ta) := by
  refine ⟨?_⟩
  intro pins s σ H D I h
  rw [exec_Assign_arm]
  refine wpAny_bind (wpAny_standAt ?_)
  rw [hs]
  refine wpAny_bind (wpAny_pure ?_)
  rw [if_neg (by decide)]
  refine wpAny_bind (Tuple_ (thn (ha _ pins s σ H _ I h) fun us s1 ⟨vs, H1, I1, r1, q1⟩ => ?_))
  obtain ⟨v, w, e1, q1⟩ := q1
  subst e1
  obtain ⟨u1, u2, rfl, rv, rw'⟩ : ∃ u1 u2, us = [u1, u2] ∧ RelV v u1 ∧ RelV w u2 := by
    cases r1 with
    | cons p q =>
      cases q with
      | cons p' q' =>
        cases q'
        exact ⟨_, _, rfl, p, p'⟩
  refine wpAny_newObj_type ?_ (by show 2 ≤ sizeLine; decide)
  have I2 : Inv X pins σ H1 { s1 with heap := s1.heap.push { cls := .type "tuple", data := .seq [u1, u2].toArray } } := I1.kept (t' := s1.toks) fun b o e => Heap.get?_push_of_some _ e
  rw [hw]
  refine wpAny_bind (wpAny_pure ?_)
  show wpAny (model X.prog X.w) X.A (do rule "assign.swapped-stores"; let items ← unpackItems (.ref s1.heap.objs.size) 2 none; assignInOrder [fun v => bindName X.env y v, fun v => bindName X.env x v] items.reverse; pure Flow.next) _ _ _
  refine wpAny_bind (wpAny_rule (wpAny_bind (unpackItems_tuple (items := #[u1, u2]) (I.ok.hd hc) (IsTup.new s1.heap _) fun h' hx' => ?_)))
  have I3 := I2.kept (h' := h') (t' := s1.toks) fun b o e => hx' b o (Nat.ne_of_lt (Heap.lt_size e)) e
  show wpAny _ _ (assignInOrder [fun v => bindName X.env y v, fun v => bindName X.env x v] [u2, u1] >>= fun _ => pure Flow.next) _ _ _
  refine wpAny_bind (assignInOrder_cons (wpAny_bindName (store_ok I3 hN hj (.inl hy) rw' (fun s2 I4 => ?_) (.inr hy))))
  refine assignInOrder_cons (wpAny_bindName (store_ok I4 hN hi (.inl hx) rv (fun s3 I5 => assignInOrder_nil (wpAny_pure ?_)) (.inr hx)))
  rw [List.set_comm _ _ (Ne.symm hij)] at I5
  exact ⟨_, H1, I5, q1⟩
end

/-! ### while -/
section
variable {X : Cx} {pos : Pos}
end

/-! ### what a loop or a comprehension walks -/
/-- at turn i: it yields x (the heap may grow), or it stops -/
structure It where
  go : Nat → Hp → Prop
  yld : Nat → Hp → V → Hp → Prop
  stop : Nat → Hp → Prop
/-- the iterator's own objects may turn: they are not the frame's, not pinned, younger than the entry (or a comprehension's own) -/
def FpOk (X : Cx) (pins : List (Addr × Obj)) (H : Hp) (b : Addr) : Prop :=
  H b = none ∧ b ≠ X.env.locals ∧ b ∉ X.fs ∧ (b ∈ X.ex ∨ X.s₀.heap.objs.size ≤ b) ∧ (∀ x c, X.env.cells.lookup x = some c → c ≠ b) ∧ ∀ p ∈ X.pn ++ pins, p.1 ≠ b
theorem Inv.fpOk {X : Cx} {pins : List (Addr × Obj)} {σ : St} {H H' : Hp} {s : Shared} {b : Addr} (I : Inv X pins σ H s) (hb : s.heap.objs.size ≤ b) (hn : H' b = none) : FpOk X pins H' b := by
  refine ⟨hn, Nat.ne_of_gt (Nat.lt_of_lt_of_le I.lt hb), I.nofs hb, .inr (Nat.le_trans I.sz hb), fun x c e z => ?_, fun p hp z => ?_⟩
  · obtain ⟨v, q⟩ := I.cell x c e
    exact absurd (Nat.lt_of_lt_of_le q.lt (by rw [z]; exact hb)) (Nat.lt_irrefl _)
  · exact absurd (Nat.lt_of_lt_of_le (Heap.lt_size (I.pin p hp).1) (by rw [z]; exact hb)) (Nat.lt_irrefl _)
structure Turn (P : Program) (w : World) (K : PySem.W.Frag) (tg : Expr) (J : It) (fp : List Addr) (it : Addr) (tn : Nat → Heap → Prop) : Prop where
  mem : it ∈ fp
  obj : ∀ i h, tn i h → ∀ b ∈ fp, ∃ o, h.get? b = some o ∧ ∀ v, o.data ≠ .cell v
  keep : ∀ i h h', tn i h → (∀ b ∈ fp, ∀ o, h.get? b = some o → h'.get? b = some o) → tn i h'
  item : ∀ (X : Cx), X.prog = P → X.w = w → X.K = K → X.calm = true → ∀ (i : Nat) (pins : List (Addr × Obj)) (s : Shared) (σ : St) (H : Hp) (E : Value → Shared → Prop), Inv X pins σ H s → (∀ b ∈ fp, FpOk X pins H b) → tn i s.heap → J.go i H →
    wpAny (model P w) X.A (pyNext (.ref it)) (fun r s1 => ∃ u, r = some u ∧
      wpAny (model P w) X.A (letOwnedTupleGo tg (.ref it) u) (fun _ s2 => ∃ x H', Inv X pins σ H' s2 ∧ RelV x u ∧ J.yld i H x H' ∧ tn (i + 1) s2.heap ∧ ∀ b ∈ fp, H' b = none) E s1) E s
  done : ∀ (X : Cx), X.prog = P → X.w = w → X.K = K → X.calm = true → ∀ (i : Nat) (pins : List (Addr × Obj)) (s : Shared) (σ : St) (H : Hp) (E : Value → Shared → Prop), Inv X pins σ H s → (∀ b ∈ fp, FpOk X pins H b) → tn i s.heap → J.stop i H →
    wpAny (model P w) X.A (pyNext (.ref it)) (fun r s1 => r = none ∧ Inv X pins σ H s1) E s
  self : ∀ (A : Around) (i : Nat) (s : Shared) (Q : Value → Shared → Prop) (E : Value → Shared → Prop), tn i s.heap → Q (.ref it) s → wpAny (model P w) A (pyIter (.ref it)) Q E s
abbrev TI := St → Hp → (It → Hp → Prop) → Prop
/-- an iterator has come -/
def PIE (X : Cx) (pins : List (Addr × Obj)) (σ : St) (tg : Expr) (R : It → Hp → Prop) (itv : Value) (s2 : Shared) : Prop :=
  ∃ (it : Addr) (fp : List Addr) (tn : Nat → Heap → Prop) (J : It) (H' : Hp), itv = .ref it ∧ Inv X pins σ H' s2 ∧ Turn X.prog X.w X.K tg J fp it tn ∧ tn 0 s2.heap ∧ (∀ b ∈ fp, FpOk X pins H' b) ∧ R J H'
structure PI (X : Cx) (tg iter : Expr) (wi : TI) : Prop where
  run : ∀ (pins : List (Addr × Obj)) (s : Shared) (σ : St) (H : Hp) (R : It → Hp → Prop), Inv X pins σ H s → wi σ H R →
    wpAny (model X.prog X.w) X.A (eval iter X.env) (fun v s1 => wpAny (model X.prog X.w) X.A (pyIter v) (PIE X pins σ tg R) X.xe s1) X.xe s
instance {X : Cx} {tg iter : Expr} {wi : TI} : CoeFun (PI X tg iter wi) (fun _ => ∀ (pins : List (Addr × Obj)) (s : Shared) (σ : St) (H : Hp) (R : It → Hp → Prop), Inv X pins σ H s → wi σ H R →
    wpAny (model X.prog X.w) X.A (eval iter X.env) (fun v s1 => wpAny (model X.prog X.w) X.A (pyIter v) (PIE X pins σ tg R) X.xe s1) X.xe s) := ⟨PI.run⟩

/-- the step ahead of the store is nothing for an iterator that keeps no tuple -/
theorem go_of {M : Model} {A : Around} {E : Value → Shared → Prop} {s : Shared} {tg : Expr} {it : Addr} {u : Value} {o : Obj} {n : String} {vs : Array Value} {Q : Unit → Shared → Prop} (ho : s.heap.get? it = some o) (hc : o.cls = .type n) (hd : o.data = .fields vs)
    (hn : ["enumerate", "zip", "dict_itemiterator", "dict_reverseitemiterator", "odict_iterator", "itertools.zip_longest", "itertools.pairwise"].contains n = false) (hQ : Q () s) : wpAny M A (letOwnedTupleGo tg (.ref it) u) Q E s := by
  unfold letOwnedTupleGo
  cases tg <;> first
    | exact wpAny_pure hQ
    | (cases u <;> first
        | exact wpAny_pure hQ
        | (refine wpAny_bind (wpAny_load ho ?_)
           rw [hc, hd]
           show wpAny M A (if (["enumerate", "zip", "dict_itemiterator", "dict_reverseitemiterator", "odict_iterator", "itertools.zip_longest", "itertools.pairwise"].contains n && vs[0]? == some (rawInt _)) = true then _ else _) Q E s
           rw [if_neg (by intro h; rw [hn, Bool.false_and] at h; cases h)]
           exact wpAny_pure hQ))

/-- the list at a, as it stands at each turn (a loop may append to it) -/
def Itl (K : PySem.W.Frag) (a : Addr) : It :=
  ⟨fun i H => ∃ xs x, SqL K H a xs ∧ xs[i]? = some x, fun i H x H' => H' = H ∧ ∀ xs, SqL K H a xs → xs[i]? = some x, fun i H => ∃ xs, SqL K H a xs ∧ xs.length ≤ i⟩
/-- lo, lo + 1, .. (n of them) -/
def Itr (lo : Int) (n : Nat) : It := ⟨fun i _ => i < n, fun i H x H' => H' = H ∧ x = .int (lo + i), fun i _ => n ≤ i⟩
theorem turn_list {P : Program} {w : World} {K : PySem.W.Frag} {tg : Expr} (a it : Addr) : Turn P w K tg (Itl K a) [it] it (fun i h => h.IsListIter it a i) where
  mem := by simp
  obj := fun i h st b hb => by
    have e : b = it := by simpa using hb
    subst e
    obtain ⟨o, e, c, d⟩ := st
    exact ⟨o, e, fun v z => by rw [d] at z; cases z⟩
  keep := fun i h h' st k => st.at fun o e => k it (by simp) o e
  item := by
    intro X hP hw hK hc i pins s σ H E I hf st hg
    subst hP hw hK
    obtain ⟨xs, x, hq, hx⟩ := hg
    obtain ⟨its, rv, p, hz⟩ := I.list hq
    obtain ⟨u, hu, ru⟩ := rv.get hx
    obtain ⟨f0, f1, f2, f3, f4, f5⟩ := hf it (by simp)
    refine wpAny_pyNext_list_item st p.isList (x := u) (by simpa using hu) fun h' st' sb => ?_
    have I1 : Inv X pins σ H { s with heap := h' } := I.turned (t' := s.toks) (fun b o hb e => (sb.2 b hb).trans e) f0 f1 f3 f4 f5
    obtain ⟨o, e, c, d⟩ := id st'
    exact ⟨u, rfl, go_of (s := { s with heap := h' }) e c d (by decide) ⟨x, H, I1, ru, ⟨rfl, fun ys hy => by rw [I.list_inj hy hq]; exact hx⟩, st', fun b hb => (hf b hb).1⟩⟩
  done := by
    intro X hP hw hK hc i pins s σ H E I hf st hg
    subst hP hw hK
    obtain ⟨xs, hq, hx⟩ := hg
    obtain ⟨its, rv, p, hz⟩ := I.list hq
    obtain ⟨f0, f1, f2, f3, f4, f5⟩ := hf it (by simp)
    have hl := rv.length
    exact wpAny_pyNext_list_end (I.ok.hd hc) st p.isList (by simp; omega) fun h' eb => ⟨rfl, I.turned (t' := s.toks) (fun b o hb e => eb b o hb e) f0 f1 f3 f4 f5⟩
  self := fun _ _ _ _ _ st h => wpAny_pyIter_listiter st h
theorem turn_range {P : Program} {w : World} {K : PySem.W.Frag} {tg : Expr} (it : Addr) (lo : Int) (n : Nat) : Turn P w K tg (Itr lo n) [it] it (fun i h => IsRangeIter h it (lo + (i : Nat) * 1) ((n : Int) - (i : Nat)) 1) where
  mem := by simp
  obj := fun i h st b hb => by
    have e : b = it := by simpa using hb
    subst e
    exact ⟨_, st, fun v z => by
      have z' : Data.fields _ = Data.cell v := z
      cases z'⟩
  keep := fun i h h' st k => k it (by simp) _ st
  item := by
    intro X hP hw hK hc i pins s σ H E I hf st hg
    subst hP hw hK
    obtain ⟨f0, f1, f2, f3, f4, f5⟩ := hf it (by simp)
    have W := Walks.range (prog := X.prog) (w := X.w) (I.ok.hd hc) it lo 1 n
    refine W.item i s _ _ hg st fun v h' tk hv st' kk => ?_
    obtain ⟨t, rfl⟩ := hv
    have I1 : Inv X pins σ H { s with heap := h', toks := tk } := I.turned (fun b o hb e => kk b o (by simpa using hb) e) f0 f1 f3 f4 f5
    refine ⟨_, rfl, go_of (s := { s with heap := h', toks := tk }) (n := "range_iterator") st' rfl rfl (by decide) ⟨.int (lo + i), H, I1, ⟨t, ?_⟩, ⟨rfl, rfl⟩, st', fun b hb => (hf b hb).1⟩⟩
    rw [Int.mul_one]
  done := by
    intro X hP hw hK hc i pins s σ H E I hf st hg
    subst hP hw hK
    obtain ⟨f0, f1, f2, f3, f4, f5⟩ := hf it (by simp)
    exact wpAny_pyNext_range_end (I.ok.hd hc) st (by have : n ≤ i := hg; omega) fun h' eb => ⟨rfl, I.turned (t' := s.toks) (fun b o hb e => eb b o hb e) f0 f1 f3 f4 f5⟩
  self := fun _ _ _ _ _ st h => wpAny_pyIter_rangeiter st h
end L2

namespace L2
open PySem PySem.Spec PyProof.Rows
section
variable {X : Cx} {tg : Expr}
def iList (K : PySem.W.Frag) (tl : TE) : TI := fun σ H R => tl σ H fun x H1 => ∃ a, x = .ref a ∧ (∃ xs, SqL K H1 a xs) ∧ R (Itl K a) H1
theorem pi_list {l : Expr} {tl : TE} (hl : PE X l tl) : PI X tg l (iList X.K tl) := by
  refine ⟨?_⟩
  intro pins s σ H R I h
  refine thn (hl pins s σ H _ I h) fun v s1 ⟨x, H1, I1, r1, q1⟩ => ?_
  obtain ⟨a, e, ⟨xs, hq⟩, q⟩ := q1
  subst e
  cases r1
  obtain ⟨its, rv, p, hz⟩ := I1.list hq
  refine wpAny_pyIter_list p.isList ?_
  refine ⟨s1.heap.objs.size, [s1.heap.objs.size], _, _, H1, rfl, I1.kept (t' := s1.toks) fun b o e => Heap.get?_push_of_some _ e, turn_list a _, ⟨_, Heap.get?_push_size _ rfl, rfl, rfl⟩, fun b hb => ?_, q⟩
  have e : b = s1.heap.objs.size := by simpa using hb
  subst e
  exact I1.fpOk (Nat.le_refl _) (I1.hok.fresh (Nat.le_refl _))
/-- a range object just made, walked -/
theorem range_it {pins : List (Addr × Obj)} {σ : St} {H : Hp} {s : Shared} {R : It → Hp → Prop} {E : Value → Shared → Prop} {lo hi : Int} {t u v : Tok} {tk : Nat} (I : Inv X pins σ H s) (h1 : -(2 ^ 62) ≤ lo) (h2 : lo < 2 ^ 62) (h3 : -(2 ^ 62) ≤ hi) (h4 : hi < 2 ^ 62)
    (q : R (Itr lo (hi - lo).toNat) H) : wpAny (model X.prog X.w) X.A (pyIter (.ref s.heap.objs.size)) (PIE X pins σ tg R) E { s with heap := s.heap.push { cls := .type "range", data := .fields #[.int lo t, .int hi u, .int 1 v] }, toks := tk } := by
  refine wpAny_pyIter_range (IsRange.new ..) (small_one h1 h2 h3 h4) ?_
  have I1 : Inv X pins σ H { s with heap := s.heap.push { cls := .type "range", data := .fields #[.int lo t, .int hi u, .int 1 v] }, toks := tk } := I.kept fun b o e => Heap.get?_push_of_some _ e
  refine ⟨(s.heap.push { cls := .type "range", data := .fields #[.int lo t, .int hi u, .int 1 v] }).objs.size, [(s.heap.push { cls := .type "range", data := .fields #[.int lo t, .int hi u, .int 1 v] }).objs.size], _, _, H, rfl,
    I1.kept (t' := tk) fun b o e => Heap.get?_push_of_some _ e, turn_range _ lo (hi - lo).toNat, ?_, fun b hb => ?_, q⟩
  · have e1 : lo + ((0 : Nat) : Int) * 1 = lo := by simp
    have e2 : (((hi - lo).toNat : Nat) : Int) - ((0 : Nat) : Int) = Builtin.Range.rangeSize lo hi 1 := by rw [rangeSize_one]; split <;> omega
    show IsRangeIter _ _ (lo + ((0 : Nat) : Int) * 1) ((((hi - lo).toNat : Nat) : Int) - ((0 : Nat) : Int)) 1
    rw [e1, e2]
    exact Heap.get?_push_size _ rfl
  · have e : b = (s.heap.push { cls := .type "range", data := .fields #[.int lo t, .int hi u, .int 1 v] }).objs.size := by simpa using hb
    subst e
    exact I1.fpOk (Nat.le_refl _) (I1.hok.fresh (Nat.le_refl _))
def iRng1 (ta : TA) : TI := fun σ H R => ta σ H fun vs H1 => ∃ j : Int, vs = [.int j] ∧ -(2 ^ 62) ≤ j ∧ j < 2 ^ 62 ∧ R (Itr 0 j.toNat) H1
theorem pi_range1 {a : Expr} {ta : TA} {p pos : Pos} (hg : Gl X "range") (hm : X.mg "range" = none) (ha : PA X [a] ta) (hs : starEach [a] X.env = [(false, eval a X.env)] := by rfl) : PI X tg (.Call (.Name "range" p) [a] [] pos) (iRng1 ta) := by
  refine ⟨?_⟩
  intro pins s σ H R I h
  refine Call_ (ld_blt I hg hm boot_range (PyProof.Rows.callWith_type1 (thn (ha pos pins s σ H _ I h) fun us s1 ⟨vs, H1, I1, r1, q1⟩ => ?_) hs rfl))
  obtain ⟨j, e, q1, q2, q⟩ := q1
  subst e
  cases r1 with
  | cons r rr =>
    cases rr
    obtain ⟨t, rfl⟩ := r
    exact call_range_1 (range_it I1 (by omega) (by omega) q1 q2 (by simpa using q))
/-! ### for -/
/-- W: the invariant by the turn and a measure; N: what the body is to reach -/
def tFor (wi : TI) (g : TG) (tb : TS) : TS := fun D σ H => wi σ H fun J H1 => ∃ W : Nat → Nat → St → Hp → Prop, (∃ m, W 0 m σ H1) ∧ ∀ i m σ H, W i m σ H →
  (J.stop i H ∧ D.nx σ H) ∨ (J.go i H ∧ ∃ N : St → Hp → Prop, (∀ σ' H', N σ' H' → ∃ m', m' < m ∧ W (i + 1) m' σ' H') ∧ ∀ x H', J.yld i H x H' → g x σ H' fun σ2 H2 => tb { D with nx := N, ct := N, bk := D.nx } σ2 H2)
/-- the records at fp as they stand -/
def pinsAt (fp : List Addr) (h : Heap) : List (Addr × Obj) := fp.filterMap fun b => (h.get? b).map fun o => (b, o)
theorem mem_pinsAt {fp : List Addr} {h : Heap} {b : Addr} {o : Obj} (hb : b ∈ fp) (e : h.get? b = some o) : (b, o) ∈ pinsAt fp h := List.mem_filterMap.mpr ⟨b, hb, by rw [e]; rfl⟩
theorem of_pinsAt {fp : List Addr} {h : Heap} {p : Addr × Obj} (hp : p ∈ pinsAt fp h) : p.1 ∈ fp ∧ h.get? p.1 = some p.2 := by
  obtain ⟨b, hb, e⟩ := List.mem_filterMap.mp hp
  cases q : h.get? b with
  | none => rw [q] at e; cases e
  | some o =>
    rw [q] at e
    have e' : (b, o) = p := Option.some.inj e
    subst e'
    exact ⟨hb, q⟩
theorem Inv.pinned {pins : List (Addr × Obj)} {σ : St} {H : Hp} {s : Shared} {fp : List Addr} (I : Inv X pins σ H s) (hf : ∀ b ∈ fp, FpOk X pins H b) (ho : ∀ b ∈ fp, ∃ o, s.heap.get? b = some o ∧ ∀ v, o.data ≠ .cell v) : Inv X (pins ++ pinsAt fp s.heap) σ H s :=
  I.pins_of fun p hp => (List.mem_append.mp hp).elim (fun z => I.pin p (List.mem_append_right _ z)) fun z => by
    obtain ⟨hb, e⟩ := of_pinsAt z
    obtain ⟨f0, f1, f2, _⟩ := hf p.1 hb
    obtain ⟨o, e', d⟩ := ho p.1 hb
    rw [e] at e'; cases e'
    exact ⟨e, f0, f1, f2, d⟩
theorem Inv.unpinned {pins pl : List (Addr × Obj)} {σ : St} {H : Hp} {s : Shared} (I : Inv X (pins ++ pl) σ H s) : Inv X pins σ H s := I.pins_of fun p hp => I.pin p (List.mem_append_right _ (List.mem_append_left _ hp))
theorem ps_for {iter : Expr} {body : List Stmt} {wi : TI} {g : TG} {tb : TS} {pos : Pos} (hp : PassesOwn (model X.prog X.w) X.A X.env X.xe) (hc : X.calm = true) (hi : PI X tg iter wi) (hg : PG X tg g) (hb : PSs X body tb)
    (hs : ∀ x, foldedSetIterable iter X.env x = pure x := by intro _; rfl) : PS X (.For tg iter body [] pos) (tFor wi g tb) := by
  refine ⟨?_⟩
  intro pins s σ H D I h
  refine wpAny_For (thn (hi pins s σ H _ I h) fun v s1 h1 => thn h1 fun itv s2 h2 => ?_) hs
  obtain ⟨it, fp, tn, J, H2, e, I2, T, st2, f2, W, ⟨m0, w0⟩, turn⟩ := h2
  subst e
  -- what stays true of the iterator's objects through the loop
  have stat : ∀ {H' : Hp}, (∀ b ∈ fp, H' b = none) → ∀ b ∈ fp, FpOk X pins H' b := fun hn b hb => ⟨hn b hb, (f2 b hb).2⟩
  refine codeAny_forLoop_any (fun n s' => ∃ i σ' H', Inv X pins σ' H' s' ∧ tn i s'.heap ∧ (∀ b ∈ fp, H' b = none) ∧ W i n σ' H') ?_ m0 ⟨0, σ, H2, I2, st2, fun b hb => (f2 b hb).1, w0⟩
  rintro n s3 ⟨i, σ3, H3, I3, st3, fr3, w3⟩
  rcases turn i n σ3 H3 w3 with ⟨stop, qn⟩ | ⟨go, N, hN, step⟩
  · refine wpAny_passesOwn hp (thn (T.done X rfl rfl rfl hc i pins s3 σ3 H3 X.xe I3 (stat fr3) st3 stop) fun r s4 ⟨hr, I4⟩ => ?_)
    subst hr
    exact wpAny_execs_nil ⟨σ3, H3, I4, qn⟩
  · refine wpAny_passesOwn hp (thn (T.item X rfl rfl rfl hc i pins s3 σ3 H3 X.xe I3 (stat fr3) st3 go) fun r s4 ⟨u, hr, h4⟩ => ?_)
    subst hr
    refine wpAny_passesOwn hp (thn h4 fun _ s5 ⟨x, H5, I5, r5, y5, st5, fr5⟩ => ?_)
    have I5' := I5.pinned (stat fr5) (T.obj _ _ st5)
    refine wpAny_passesOwn hp (thn (hg _ s5 σ3 H5 x u _ I5' r5 (step x H5 y5)) fun _ s6 ⟨σ6, H6, I6, q6⟩ => ?_)
    refine wpAny_passesOwn hp (thn (hb _ s6 σ6 H6 _ I6 q6) fun f s7 q7 => ?_)
    have again : ∀ {σ7 : St} {H7 : Hp}, Inv X (pins ++ pinsAt fp s5.heap) σ7 H7 s7 → N σ7 H7 → ∃ m, m < n ∧ ∃ i σ' H', Inv X pins σ' H' s7 ∧ tn i s7.heap ∧ (∀ b ∈ fp, H' b = none) ∧ W i m σ' H' := fun {σ7 H7} I7 n7 => by
      obtain ⟨m', hm, w7⟩ := hN σ7 H7 n7
      refine ⟨m', hm, i + 1, σ7, H7, I7.unpinned, T.keep _ _ _ st5 fun b hb o e => (I7.pin (b, o) (List.mem_append_right _ (List.mem_append_right _ (mem_pinsAt hb e)))).1, fun b hb => ?_, w7⟩
      obtain ⟨o, e, d⟩ := T.obj _ _ st5 b hb
      exact (I7.pin (b, o) (List.mem_append_right _ (List.mem_append_right _ (mem_pinsAt hb e)))).2.1
    cases f with
    | next => obtain ⟨σ7, H7, I7, n7⟩ := q7; exact again I7 n7
    | cont => obtain ⟨σ7, H7, I7, n7⟩ := q7; exact again I7 n7
    | brk => obtain ⟨σ7, H7, I7, q7⟩ := q7; exact ⟨σ7, H7, I7.unpinned, q7⟩
    | ret v => obtain ⟨x7, σ7, H7, I7, r7, q7⟩ := q7; exact ⟨x7, σ7, H7, I7.unpinned, r7, q7⟩
end

/-! ### the forms one uses -/
/-- over a list that the body leaves as it is -/
theorem for_list {K : PySem.W.Frag} {a : Addr} {xs : List V} {g : TG} {tb : TS} {D : Ends} {σ : St} {H : Hp} (Pv : Nat → St → Hp → Prop) (h0 : Pv 0 σ H) (hl : ∀ i σ H, i ≤ xs.length → Pv i σ H → SqL K H a xs)
    (hs : ∀ i x σ H, xs[i]? = some x → Pv i σ H → g x σ H fun σ2 H2 => tb { D with nx := Pv (i + 1), ct := Pv (i + 1), bk := D.nx } σ2 H2) (hd : ∀ σ H, Pv xs.length σ H → D.nx σ H) :
    ∃ W : Nat → Nat → St → Hp → Prop, (∃ m, W 0 m σ H) ∧ ∀ i m σ H, W i m σ H →
      ((Itl K a).stop i H ∧ D.nx σ H) ∨ ((Itl K a).go i H ∧ ∃ N : St → Hp → Prop, (∀ σ' H', N σ' H' → ∃ m', m' < m ∧ W (i + 1) m' σ' H') ∧ ∀ x H', (Itl K a).yld i H x H' → g x σ H' fun σ2 H2 => tb { D with nx := N, ct := N, bk := D.nx } σ2 H2) := by
  refine ⟨fun i m σ H => m = xs.length - i ∧ i ≤ xs.length ∧ Pv i σ H, ⟨xs.length, by simp, Nat.zero_le _, h0⟩, ?_⟩
  rintro i m σ H ⟨rfl, hi, p⟩
  have q := hl i σ H hi p
  by_cases hlt : i < xs.length
  · refine .inr ⟨⟨xs, xs[i], q, by simp [hlt]⟩, Pv (i + 1), fun σ' H' p' => ⟨xs.length - (i + 1), by omega, rfl, hlt, p'⟩, fun x H' y => ?_⟩
    obtain ⟨e, y⟩ := y
    subst e
    exact hs i x σ _ (y xs q) p
  · have e : i = xs.length := by omega
    subst e
    exact .inl ⟨⟨xs, q, Nat.le_refl _⟩, hd σ H p⟩
theorem for_range {lo : Int} {n : Nat} {g : TG} {tb : TS} {D : Ends} {σ : St} {H : Hp} (Pv : Nat → St → Hp → Prop) (h0 : Pv 0 σ H)
    (hs : ∀ i σ H, i < n → Pv i σ H → g (.int (lo + i)) σ H fun σ2 H2 => tb { D with nx := Pv (i + 1), ct := Pv (i + 1), bk := D.nx } σ2 H2) (hd : ∀ σ H, Pv n σ H → D.nx σ H) :
    ∃ W : Nat → Nat → St → Hp → Prop, (∃ m, W 0 m σ H) ∧ ∀ i m σ H, W i m σ H →
      ((Itr lo n).stop i H ∧ D.nx σ H) ∨ ((Itr lo n).go i H ∧ ∃ N : St → Hp → Prop, (∀ σ' H', N σ' H' → ∃ m', m' < m ∧ W (i + 1) m' σ' H') ∧ ∀ x H', (Itr lo n).yld i H x H' → g x σ H' fun σ2 H2 => tb { D with nx := N, ct := N, bk := D.nx } σ2 H2) := by
  refine ⟨fun i m σ H => m = n - i ∧ i ≤ n ∧ Pv i σ H, ⟨n, by simp, Nat.zero_le _, h0⟩, ?_⟩
  rintro i m σ H ⟨rfl, hi, p⟩
  by_cases hlt : i < n
  · refine .inr ⟨hlt, Pv (i + 1), fun σ' H' p' => ⟨n - (i + 1), by omega, rfl, hlt, p'⟩, fun x H' y => ?_⟩
    obtain ⟨e, y⟩ := y
    subst e y
    exact hs i σ _ hlt p
  · have e : i = n := by omega
    subst e
    exact .inl ⟨Nat.le_refl _, hd σ H p⟩
end L2

namespace L2
open PySem PySem.Spec PyProof.Rows

abbrev R2 := V → V → Hp → VK → Prop
/-- a two-place operation on values: f is binaryOp op, inplaceOp op or compareOp op -/
def OpR (X : Cx) (f : Value → Value → Sem Value) (r : R2) : Prop :=
  ∀ (pins : List (Addr × Obj)) (s : Shared) (σ : St) (H : Hp) (x y : V) (v u : Value) (Q : VK), Inv X pins σ H s → RelV x v → RelV y u → r x y H Q →
    wpAny (model X.prog X.w) X.A (f v u) (EP X pins σ Q) X.xe s
/-- a call of a value that is known (a builtin, a type) with values -/
def CallR (X : Cx) (f : Value) (r : List V → Hp → VK → Prop) : Prop :=
  ∀ (pins : List (Addr × Obj)) (s : Shared) (σ : St) (H : Hp) (xs : List V) (us : List Value) (Q : VK), Inv X pins σ H s → Vals xs us → r xs H Q →
    wpAny (model X.prog X.w) X.A (call f us) (EP X pins σ Q) X.xe s
def tOp (r : R2) (ta tb : TE) : TE := fun σ H Q => ta σ H fun x H1 => tb σ H1 fun y H2 => r x y H2 Q
/-- ints in, under C, and a value out -/
def rI (C : Int → Int → Prop) (g : Int → Int → V) : R2 := fun x y H Q => ∃ i j, x = .int i ∧ y = .int j ∧ C i j ∧ Q (g i j) H
def rI0 (g : Int → Int → V) : R2 := fun x y H Q => ∃ i j, x = .int i ∧ y = .int j ∧ Q (g i j) H
section
variable {X : Cx} {a b c : Expr} {ta tb tc : TE} {pos : Pos}

theorem binT (ha : PE X a ta) (hb : PE X b tb) {pins : List (Addr × Obj)} {s : Shared} {σ : St} {H : Hp} {R : V → V → Hp → Prop} (I : Inv X pins σ H s)
    (h : ta σ H fun x H1 => tb σ H1 fun y H2 => R x y H2) {Q : Value → Shared → Prop} {f : Value → Value → Sem Value}
    (hf : ∀ v u s2 x y H2, Inv X pins σ H2 s2 → RelV x v → RelV y u → R x y H2 → wpAny (model X.prog X.w) X.A (f v u) Q X.xe s2) :
    wpAny (model X.prog X.w) X.A (eval a X.env) (fun v s₁ => wpAny (model X.prog X.w) X.A (eval b X.env) (fun u s₂ => wpAny (model X.prog X.w) X.A (f v u) Q X.xe s₂) X.xe s₁) X.xe s := by
  refine thn (ha pins s σ H _ I h) fun v s1 ⟨x, H1, I1, r1, q1⟩ => ?_
  refine thn (hb pins s1 σ H1 _ I1 q1) fun u s2 ⟨y, H2, I2, r2, q2⟩ => ?_
  exact hf v u s2 x y H2 I2 r1 r2 q2

theorem pe_op {op : Operator} {r : R2} (ho : OpR X (binaryOp op) r) (ha : PE X a ta) (hb : PE X b tb) : PE X (.BinOp a op b pos) (tOp r ta tb) := by
  refine ⟨?_⟩
  intro pins s σ H Q I h
  exact wpAny_BinOp (binT ha hb I h fun v u s2 x y H2 I2 rx ry q => ho pins s2 σ H2 x y v u Q I2 rx ry q)
/-! ### ints -/
theorem opI {f : Value → Value → Sem Value} {C : Int → Int → Prop} {g : Int → Int → Int}
    (rule : ∀ (i j : Int) (t u : Tok) (s : Shared) (Q : Value → Shared → Prop) (E : Value → Shared → Prop), C i j → Q (.int (g i j) s.toks) { s with toks := s.toks + 1 } → wpAny (model X.prog X.w) X.A (f (.int i t) (.int j u)) Q E s) :
    OpR X f (rI C fun i j => .int (g i j)) := by
  intro pins s σ H x y v u Q I rx ry h
  obtain ⟨i, j, rfl, rfl, hc, q⟩ := h
  obtain ⟨t, rfl⟩ := rx
  obtain ⟨t', rfl⟩ := ry
  exact rule i j t t' s _ _ hc ⟨.int (g i j), H, I.tok _, ⟨_, rfl⟩, q⟩
theorem opI0 {f : Value → Value → Sem Value} {g : Int → Int → Int}
    (rule : ∀ (i j : Int) (t u : Tok) (s : Shared) (Q : Value → Shared → Prop) (E : Value → Shared → Prop), Q (.int (g i j) s.toks) { s with toks := s.toks + 1 } → wpAny (model X.prog X.w) X.A (f (.int i t) (.int j u)) Q E s) :
    OpR X f (rI0 fun i j => .int (g i j)) := by
  intro pins s σ H x y v u Q I rx ry h
  obtain ⟨i, j, rfl, rfl, q⟩ := h
  obtain ⟨t, rfl⟩ := rx
  obtain ⟨t', rfl⟩ := ry
  exact rule i j t t' s _ _ ⟨.int (g i j), H, I.tok _, ⟨_, rfl⟩, q⟩
theorem opB0 {f : Value → Value → Sem Value} {g : Int → Int → Bool}
    (rule : ∀ (i j : Int) (t u : Tok) (s : Shared) (Q : Value → Shared → Prop) (E : Value → Shared → Prop), Q (.bool (g i j)) s → wpAny (model X.prog X.w) X.A (f (.int i t) (.int j u)) Q E s) :
    OpR X f (rI0 fun i j => .bl (g i j)) := by
  intro pins s σ H x y v u Q I rx ry h
  obtain ⟨i, j, rfl, rfl, q⟩ := h
  obtain ⟨t, rfl⟩ := rx
  obtain ⟨t', rfl⟩ := ry
  exact rule i j t t' s _ _ ⟨.bl (g i j), H, I, rfl, q⟩

def CDiv (i j : Int) : Prop := 0 < j ∧ j < 1073741824
def CPow (i j : Int) : Prop := 0 ≤ j ∧ j ≤ 1000000 ∧ i.natAbs < 2 ^ 64
def CMul (i j : Int) : Prop := (-(2 ^ 64) < i ∧ i < 2 ^ 64) ∨ (-(2 ^ 64) < j ∧ j < 2 ^ 64)
theorem CMul.ok {i j : Int} (h : CMul i j) : IntMulOk i j := by
  rcases h with ⟨h1, h2⟩ | ⟨h1, h2⟩
  · exact .of_left (intBits_le_64 h1 h2)
  · exact .of_right (intBits_le_64 h1 h2)
theorem op_add : OpR X (binaryOp .Add) (rI0 fun i j => .int (i + j)) := opI0 fun _ _ _ _ _ _ _ q => add_int q
theorem op_sub : OpR X (binaryOp .Sub) (rI0 fun i j => .int (i - j)) := opI0 fun _ _ _ _ _ _ _ q => sub_int q
theorem op_mul : OpR X (binaryOp .Mult) (rI CMul fun i j => .int (i * j)) := opI fun _ _ _ _ _ _ _ hc q => mul_int q hc.ok
/-- // by a positive divisor -/
theorem op_fdiv : OpR X (binaryOp .FloorDiv) (rI CDiv fun i j => .int (i / j)) := opI fun i j _ _ _ _ _ hc q => by
  have h1 : (0 : Int) < j := hc.1
  have h2 : j < 1073741824 := hc.2
  exact floordiv_int (by omega) (by rw [Int.fdiv_eq_ediv_of_nonneg i (by omega)]; exact q) (.inl (PyProof.noPylong_small (by omega)))
/-- % by a positive divisor of any size -/
theorem op_mod : OpR X (binaryOp .Mod) (rI (fun _ j => 0 < j) fun i j => .int (i % j)) := opI fun i j _ _ _ _ _ hc q => by
  have h1 : (0 : Int) < j := hc
  exact mod_int' (by omega) (by rw [Int.fmod_eq_emod_of_nonneg i (by omega)]; exact q)
theorem op_pow : OpR X (binaryOp .Pow) (rI CPow fun i j => .int (i ^ j.toNat)) := opI fun _ _ _ _ _ _ _ hc q => pow_int_small hc.1 hc.2.1 hc.2.2 q
/-! ### bools among ints: n += (a < b) -/
end

/-! ### comparisons -/
/-- the scalars that == tells apart as data does -/
def scal : V → V → Bool
  | .non, .non => true | .non, .int _ => true | .int _, .non => true | .non, .bl _ => true | .bl _, .non => true | .non, .str _ => true | .str _, .non => true
  | .int _, .int _ => true | .bl _, .bl _ => true | .str _, .str _ => true | .byt _, .byt _ => true
  | .int _, .str _ => true | .str _, .int _ => true | .bl _, .str _ => true | .str _, .bl _ => true
  | _, _ => false
def rEq : R2 := fun x y H Q => scal x y = true ∧ Q (.bl (decide (x = y))) H
def rNe : R2 := fun x y H Q => scal x y = true ∧ Q (.bl (!decide (x = y))) H

theorem dec_int {i j : Int} : decide (V.int i = V.int j) = (i == j) := by
  rw [Bool.eq_iff_iff]
  simp
theorem dec_bl {i j : Bool} : decide (V.bl i = V.bl j) = (i == j) := by
  rw [Bool.eq_iff_iff]
  simp
theorem dec_str {i j : Str} : decide (V.str i = V.str j) = (i == j) := by
  rw [Bool.eq_iff_iff]
  simp
theorem dec_byt {i j : Array UInt8} : decide (V.byt i = V.byt j) = (i.toList == j.toList) := by
  rw [Bool.eq_iff_iff]
  cases i
  cases j
  simp

section
variable {X : Cx} {a b c : Expr} {ta tb tc : TE} {pos : Pos}
theorem fin_bl {pins : List (Addr × Obj)} {σ : St} {H : Hp} {s : Shared} {Q : VK} {k k' : Bool} (I : Inv X pins σ H s) (q : Q (.bl k) H) (e : k = k') : EP X pins σ Q (.bool k') s := by
  subst e
  exact ⟨.bl k, H, I, rfl, q⟩
theorem op_eq : OpR X (compareOp .Eq) rEq := by
  intro pins s σ H x y v u Q I rx ry h
  obtain ⟨hs, q⟩ := h
  cases x with
  | non =>
    cases rx
    cases y with
    | non => cases ry; exact PySem.EqNone.eq_none_none (fin_bl I q (by simp))
    | bl j => cases ry; exact PySem.EqNone.eq_none_bool (fin_bl I q (by simp))
    | int j => obtain ⟨t', rfl⟩ := ry; exact PySem.EqNone.eq_none_int (fin_bl I q (by simp))
    | str j => obtain ⟨t', rfl⟩ := ry; exact PySem.EqNone.eq_none_str (fin_bl I q (by simp))
    | _ => exact absurd (show false = true from hs) Bool.false_ne_true
  | bl i =>
    cases rx
    cases y with
    | non => cases ry; exact PySem.EqNone.eq_bool_none (fin_bl I q (by simp))
    | bl j => cases ry; exact eq_bool (fin_bl I q dec_bl)
    | str j => obtain ⟨t', rfl⟩ := ry; exact PySem.EqMixed.eq_bool_str (fin_bl I q (by simp))
    | _ => exact absurd (show false = true from hs) Bool.false_ne_true
  | int i =>
    obtain ⟨t, rfl⟩ := rx
    cases y with
    | non => cases ry; exact PySem.EqNone.eq_int_none (fin_bl I q (by simp))
    | int j => obtain ⟨t', rfl⟩ := ry; exact eq_int (fin_bl I q dec_int)
    | str j => obtain ⟨t', rfl⟩ := ry; exact PySem.EqMixed.eq_int_str (fin_bl I q (by simp))
    | _ => exact absurd (show false = true from hs) Bool.false_ne_true
  | str i =>
    obtain ⟨t, rfl⟩ := rx
    cases y with
    | non => cases ry; exact PySem.EqNone.eq_str_none (fin_bl I q (by simp))
    | bl j => cases ry; exact PySem.EqMixed.eq_str_bool (fin_bl I q (by simp))
    | int j => obtain ⟨t', rfl⟩ := ry; exact PySem.EqMixed.eq_str_int (fin_bl I q (by simp))
    | str j => obtain ⟨t', rfl⟩ := ry; exact eq_str (fin_bl I q dec_str)
    | _ => exact absurd (show false = true from hs) Bool.false_ne_true
  | byt i =>
    obtain ⟨t, rfl⟩ := rx
    cases y with
    | byt j => obtain ⟨t', rfl⟩ := ry; exact PySem.W.eq_bytes (fin_bl I q dec_byt)
    | _ => exact absurd (show false = true from hs) Bool.false_ne_true
  | _ => cases y <;> exact absurd (show false = true from hs) Bool.false_ne_true
theorem op_ne : OpR X (compareOp .NotEq) rNe := by
  intro pins s σ H x y v u Q I rx ry h
  obtain ⟨hs, q⟩ := h
  cases x with
  | non =>
    cases rx
    cases y with
    | non => cases ry; exact PySem.EqNone.ne_none_none (fin_bl I q (by simp))
    | bl j => cases ry; exact PySem.EqNone.ne_none_bool (fin_bl I q (by simp))
    | int j => obtain ⟨t', rfl⟩ := ry; exact PySem.EqNone.ne_none_int (fin_bl I q (by simp))
    | str j => obtain ⟨t', rfl⟩ := ry; exact PySem.EqNone.ne_none_str (fin_bl I q (by simp))
    | _ => exact absurd (show false = true from hs) Bool.false_ne_true
  | bl i =>
    cases rx
    cases y with
    | non => cases ry; exact PySem.EqNone.ne_bool_none (fin_bl I q (by simp))
    | bl j => cases ry; exact ne_bool (fin_bl I q (congrArg not dec_bl))
    | str j => obtain ⟨t', rfl⟩ := ry; exact PySem.EqMixed.ne_bool_str (fin_bl I q (by simp))
    | _ => exact absurd (show false = true from hs) Bool.false_ne_true
  | int i =>
    obtain ⟨t, rfl⟩ := rx
    cases y with
    | non => cases ry; exact PySem.EqNone.ne_int_none (fin_bl I q (by simp))
    | int j => obtain ⟨t', rfl⟩ := ry; exact ne_int (fin_bl I q (congrArg not dec_int))
    | str j => obtain ⟨t', rfl⟩ := ry; exact PySem.EqMixed.ne_int_str (fin_bl I q (by simp))
    | _ => exact absurd (show false = true from hs) Bool.false_ne_true
  | str i =>
    obtain ⟨t, rfl⟩ := rx
    cases y with
    | non => cases ry; exact PySem.EqNone.ne_str_none (fin_bl I q (by simp))
    | bl j => cases ry; exact PySem.EqMixed.ne_str_bool (fin_bl I q (by simp))
    | int j => obtain ⟨t', rfl⟩ := ry; exact PySem.EqMixed.ne_str_int (fin_bl I q (by simp))
    | str j => obtain ⟨t', rfl⟩ := ry; exact ne_str (fin_bl I q (congrArg not dec_str))
    | _ => exact absurd (show false = true from hs) Bool.false_ne_true
  | byt i =>
    obtain ⟨t, rfl⟩ := rx
    cases y with
    | byt j => obtain ⟨t', rfl⟩ := ry; exact PySem.W.ne_bytes (fin_bl I q (congrArg not dec_byt))
    | _ => exact absurd (show false = true from hs) Bool.false_ne_true
  | _ => cases y <;> exact absurd (show false = true from hs) Bool.false_ne_true

theorem op_lt : OpR X (compareOp .Lt) (rI0 fun i j => .bl (decide (i < j))) := opB0 fun _ _ _ _ _ _ _ q => lt_int q
theorem op_le : OpR X (compareOp .LtE) (rI0 fun i j => .bl (decide (i ≤ j))) := opB0 fun _ _ _ _ _ _ _ q => le_int q
theorem op_gt : OpR X (compareOp .Gt) (rI0 fun i j => .bl (decide (j < i))) := opB0 fun _ _ _ _ _ _ _ q => gt_int q
/-- the one string within the other -/
theorem op_in_str : OpR X (compareOp .In) (fun x y H Q => ∃ i j, x = .str i ∧ y = .str j ∧ Q (.bl (!(Builtin.Str.occurrences j i 0 j.length 1).isEmpty)) H) := by
  intro pins s σ H x y v u Q I rx ry h
  obtain ⟨i, j, rfl, rfl, q⟩ := h
  obtain ⟨t, rfl⟩ := rx
  obtain ⟨t', rfl⟩ := ry
  exact in_str (fin_bl I q rfl)

/-- two rules for one operation: by cases -/
theorem OpR.or {f : Value → Value → Sem Value} {r r' : R2} (h : OpR X f r) (h' : OpR X f r') : OpR X f (fun x y H Q => r x y H Q ∨ r' x y H Q) := by
  intro pins s σ H x y v u Q I rx ry q
  rcases q with q | q
  · exact h pins s σ H x y v u Q I rx ry q
  · exact h' pins s σ H x y v u Q I rx ry q

theorem nomark (b : Expr) {op : CmpOp} (h : op ≠ .In := by decide) (h2 : op ≠ .NotIn := by decide) : behindInMarks op b = false := by
  have e1 : (op == CmpOp.In) = false := by cases op <;> first | rfl | exact absurd rfl h
  have e2 : (op == CmpOp.NotIn) = false := by cases op <;> first | rfl | exact absurd rfl h2
  cases b <;> simp [behindInMarks, e1, e2]
/-- a comparison as a value; hm: nomark b, or (for in, not in) by with_unfolding_all rfl -/
theorem pe_cmpR {op : CmpOp} {r : R2} (ho : OpR X (compareOp op) r) (ha : PE X a ta) (hb : PE X b tb) (hm : behindInMarks op b = false) : PE X (.Compare a [op] [b] pos) (tOp r ta tb) := by
  refine ⟨?_⟩
  intro pins s σ H Q I h
  exact wpAny_Compare1 (binT ha hb I h fun v u s2 x y H2 I2 rx ry q => ho pins s2 σ H2 x y v u Q I2 rx ry q) hm
/-- a reading of a value as a test -/
def tTest (t : TE) : TT := fun σ H Q => t σ H fun x H' => ∃ k, x = .bl k ∧ Q k H'
theorem pt_cmpR {op : CmpOp} {r : R2} (ho : OpR X (compareOp op) r) (ha : PE X a ta) (hb : PE X b tb) (hm : behindInMarks op b = false) : PT X (.Compare a [op] [b] pos) (tTest (tOp r ta tb)) := by
  refine ⟨?_⟩
  intro pins s σ H Q I h
  refine wpAny_isTrue_Compare1 (thn (ha pins s σ H _ I h) fun v s1 ⟨x, H1, I1, r1, q1⟩ => thn (hb pins s1 σ H1 _ I1 q1) fun u s2 ⟨y, H2, I2, r2, q2⟩ =>
    thn (ho pins s2 σ H2 x y v u _ I2 r1 r2 q2) fun c s3 ⟨z, H3, I3, r3, k, e, q3⟩ => ?_) hm
  subst e
  cases r3
  exact wpAny_truthy_bool ⟨H3, I3, q3⟩
/-- a op1 b op2 c -/
def tChain (r r' : R2) (ta tb tc : TE) : TE := fun σ H Q => ta σ H fun x H1 => tb σ H1 fun y H2 => r x y H2 fun z H3 => ∃ k, z = .bl k ∧
  (if k = true then tc σ H3 fun w' H4 => r' y w' H4 Q else Q (.bl false) H3)
theorem pt_chain {op op' : CmpOp} {r r' : R2} (ho : OpR X (compareOp op) r) (ho' : OpR X (compareOp op') r') (ha : PE X a ta) (hb : PE X b tb) (hc : PE X c tc)
    (hm : lastMarks [op, op'] [b, c] = false := by with_unfolding_all rfl) : PT X (.Compare a [op, op'] [b, c] pos) (tTest (tChain r r' ta tb tc)) := by
  refine ⟨?_⟩
  intro pins s σ H Q I h
  refine isTrue_chain (thn (ha pins s σ H _ I h) fun v s1 ⟨x, H1, I1, r1, q1⟩ => test_link (thn (hb pins s1 σ H1 _ I1 q1) fun u s2 ⟨y, H2, I2, r2, q2⟩ =>
    thn (ho pins s2 σ H2 x y v u _ I2 r1 r2 q2) fun d s3 ⟨z, H3, I3, r3, k, e, q3⟩ => ?_)) hm
  subst e
  cases r3
  refine wpAny_truthy_bool ?_
  cases k with
  | false =>
    obtain ⟨k', e', q'⟩ := q3
    cases e'
    exact ite_ff ⟨H3, I3, q'⟩
  | true =>
    refine ite_tt (test_last (thn (hc pins s3 σ H3 _ I3 q3) fun w' s4 ⟨z', H4, I4, r4, q4⟩ => thn (ho' pins s4 σ H4 y z' u w' _ I4 r2 r4 q4) fun d' s5 ⟨z2, H5, I5, r5, k2, e2, q5⟩ => ?_))
    subst e2
    cases r5
    exact wpAny_truthy_bool ⟨H5, I5, q5⟩

/-! ### truth -/
theorem line63 : (sizeLine : Nat) < 2 ^ 63 := by rw [sizeLine_eq]; decide
/-! ### strs and bytes -/
theorem op_add_str : OpR X (binaryOp .Add) (fun x y H Q => ∃ i j, x = .str i ∧ y = .str j ∧ i.length + j.length ≤ sizeLine ∧ Q (.str (i ++ j)) H) := by
  intro pins s σ H x y v u Q I rx ry h
  obtain ⟨i, j, rfl, rfl, hz, q⟩ := h
  obtain ⟨t, rfl⟩ := rx
  obtain ⟨t', rfl⟩ := ry
  exact add_str (fun t' tk => ⟨.str (i ++ j), H, I.tok _, ⟨_, rfl⟩, q⟩) hz
/-! ### scalar builtins, by CallR -/
theorem vals1 {x : V} {us : List Value} (r : Vals [x] us) : ∃ u, us = [u] ∧ RelV x u := by
  cases r with
  | cons r1 r2 => cases r2; exact ⟨_, rfl, r1⟩
theorem vals2 {x y : V} {us : List Value} (r : Vals [x, y] us) : ∃ u w', us = [u, w'] ∧ RelV x u ∧ RelV y w' := by
  cases r with
  | cons r1 r2 =>
    cases r2 with
    | cons r3 r4 => cases r4; exact ⟨_, _, rfl, r1, r3⟩
theorem call_abs : CallR X (.builtin "abs") (fun xs H Q => ∃ i, xs = [.int i] ∧ Q (.int (if i < 0 then -i else i)) H) := by
  intro pins s σ H xs us Q I r h
  obtain ⟨i, rfl, q⟩ := h
  obtain ⟨u, rfl, t, rfl⟩ := vals1 r
  exact call_abs_int fun u tk => ⟨.int (if i < 0 then -i else i), H, I.tok _, ⟨_, rfl⟩, q⟩
theorem call_max2 (hc : X.calm = true) : CallR X (.builtin "max") (fun xs H Q => ∃ i j, xs = [.int i, .int j] ∧ Q (.int (if j > i then j else i)) H) := by
  intro pins s σ H xs us Q I r h
  obtain ⟨i, j, rfl, q⟩ := h
  obtain ⟨u, w', rfl, ⟨t, rfl⟩, ⟨t', rfl⟩⟩ := vals2 r
  refine max_two_ints (I.ok.hd hc) fun h' tk k => ⟨_, H, I.kept k, ?_, q⟩
  by_cases hj : j > i
  · rw [if_pos hj, if_pos hj]; exact ⟨_, rfl⟩
  · rw [if_neg hj, if_neg hj]; exact ⟨_, rfl⟩
theorem call_min2 (hc : X.calm = true) : CallR X (.builtin "min") (fun xs H Q => ∃ i j, xs = [.int i, .int j] ∧ Q (.int (if j < i then j else i)) H) := by
  intro pins s σ H xs us Q I r h
  obtain ⟨i, j, rfl, q⟩ := h
  obtain ⟨u, w', rfl, ⟨t, rfl⟩, ⟨t', rfl⟩⟩ := vals2 r
  refine min_two_ints (I.ok.hd hc) fun h' tk k => ⟨_, H, I.kept k, ?_, q⟩
  by_cases hj : j < i
  · rw [if_pos hj, if_pos hj]; exact ⟨_, rfl⟩
  · rw [if_neg hj, if_neg hj]; exact ⟨_, rfl⟩
theorem call_int1 : CallR X (.type "int") (fun xs H Q => (∃ i, xs = [.int i] ∧ Q (.int i) H) ∨ ∃ k, xs = [.bl k] ∧ Q (.int (if k then 1 else 0)) H) := by
  intro pins s σ H xs us Q I r h
  rcases h with ⟨i, rfl, q⟩ | ⟨k, rfl, q⟩
  · obtain ⟨u, rfl, t, rfl⟩ := vals1 r
    exact call_int_int ⟨.int i, H, I, ⟨_, rfl⟩, q⟩
  · obtain ⟨u, rfl, r1⟩ := vals1 r
    cases r1
    exact call_int_bool ⟨.int (if k then 1 else 0), H, I.tok _, ⟨_, rfl⟩, q⟩
end
end L2

namespace L2
open PySem PySem.Spec PyProof.Rows

/-! ### an instance, its attributes a map -/
structure ObjM (h : Heap) (x dx C : Addr) (mA : Str → Option Value) : Prop where
  obj : h.get? x = some (PySem.W.instObj C dx)
  ns : h.Ns1 dx mA
  ne : dx ≠ x

theorem lookIn_ns {h : Heap} {dx : Addr} {mA : Str → Option Value} (n : h.Ns1 dx mA) : ∃ od, h.get? dx = some od ∧ ∀ name, PySem.W.lookIn name od = some (mA name) := by
  obtain ⟨o, es, ep, ho, hd, hk, _, hm⟩ := n
  refine ⟨o, ho, fun name => ?_⟩
  have e := hm name
  unfold nsFind findBy at e
  rw [← Array.find?_toList] at e
  unfold PySem.W.lookIn
  rw [hd]
  dsimp only
  split
  · rename_i y q
    rw [q] at e
    exact congrArg some e
  · rename_i q
    rw [q] at e
    have a : es.toList.any (·.refKey) = false := by
      rw [List.any_eq_false]
      intro y hy
      obtain ⟨z, t, hkey⟩ := hk y (Array.mem_toList_iff.mp hy)
      simp [DictEntry.refKey, hkey]
    have a' : ¬ es.toList.any (·.refKey) = true := by rw [a]; exact Bool.false_ne_true
    rw [if_neg a']
    exact congrArg some e

theorem ObjM.look {h : Heap} {x dx C : Addr} {mA : Str → Option Value} (I : ObjM h x dx C mA) : ∃ od, PySem.W.InstAt h x (PySem.W.instObj C dx) C (some od) ∧ ∀ name, PySem.W.lookIn name od = some (mA name) :=
  let ⟨od, ho, hl⟩ := lookIn_ns I.ns
  ⟨od, ⟨I.obj, rfl, rfl, ho⟩, hl⟩

section
variable {prog : Program} {w : World} {A : Around} {E : Value → Shared → Prop} {s : Shared} {K : PySem.W.Frag} {x dx C f : Addr} {mA : Str → Option Value} {name : Str} {v : Value}

theorem get_map {expr : Bool} {Q : Value → Shared → Prop} (X : K.In s.heap) (I : ObjM s.heap x dx C mA) (hg : PySem.W.plainGet K C name = true) (hh : PySem.W.hasDictIn K C = true)
    (ha : PySem.W.findIn K (.ref C) name = some none) (hv : mA name = some v) (hv' : PySem.W.handedIn v = true) (h : Q v { s with toks := s.toks + 1 }) :
    wpAny (model prog w) A (getAttr (.ref x) name expr) Q E s := by
  obtain ⟨od, J, hl⟩ := I.look
  exact PySem.W.get_value X J (PySem.W.plainGet_of hg).1 (PySem.W.findObj_own hh ha rfl (by rw [hl, hv])) hv' h

theorem get_meth {pl : Sem Bool} {Q : Value × List Value → Shared → Prop} (X : K.In s.heap) (I : ObjM s.heap x dx C mA) (hg : PySem.W.plainGet K C name = true)
    (hf : PySem.W.findIn K (.ref C) name = some (some (.ref f))) (ht : PySem.W.isFn K (.ref f) = true) (hv : mA name = none) (h : Q (.ref f, [.ref x]) s) :
    wpAny (model prog w) A (getMethod (.ref x) name pl) Q E s := by
  obtain ⟨od, J, hl⟩ := I.look
  exact PySem.W.method_fn X J (PySem.W.plainGet_of hg).1 (PySem.W.plainGet_of hg).2 hf (beq_iff_eq.mp ht) (by show (PySem.W.lookIn name od).map (·.isSome) = some false; rw [hl, hv]; rfl) h

theorem set_map {ns : List Str} {Q : Unit → Shared → Prop} (X : K.In s.heap) (I : ObjM s.heap x dx C mA)
    (hs : PySem.W.findIn K (.ref C) "__setattr__" = some (some (.builtin "object.__setattr__"))) (hp : PySem.W.plainOver K C = true) (ht : PySem.W.takerIn K C name = some none) (hh : PySem.W.hasDictIn K C = true)
    (hw : PySem.Within mA ns) (hsz : ns.length ≤ sizeLine)
    (h : ∀ h', ObjM h' x dx C (fun y => if y = name then some v else mA y) → Heap.SameBut dx s.heap h' → Q () { s with heap := h', toks := s.toks + 2 }) :
    wpAny (model prog w) A (setAttr (.ref x) name v) Q E s := by
  obtain ⟨od, J, hl⟩ := I.look
  refine PySem.W.set_plain X J hs (PySem.W.osa_open (s := { s with toks := s.toks + 1 }) (r := none) X J hp ht fun b => ?_)
  obtain ⟨cd, hc, hd'⟩ := PySem.W.any_some hh
  have hx : s.heap.get? x = some ⟨.ref C, some dx, .plain, #[]⟩ := I.obj
  refine wpAny_bind (wpAny_pure (wpAny_bind (wpAny_bind (wpAny_loadPart hx (wpAny_bind (PySem.W.Looks.here (s := { s with toks := s.toks + 1 }) (PySem.W.looks_clsIn X hc) ?_))))))
  rw [hd']
  refine wpAny_pure (a := some dx) (wpAny_bind (wpAny_pure (wpAny_bind ?_)))
  refine wpAny_nsSet1 (s := { s with toks := s.toks + 1 }) I.ns fun h' hn2 hs2 => ?_
  obtain ⟨oD, esD, epD, hoD, hdD, hcD⟩ := hn2.count (PySem.Within.cons name v hw)
  refine wpAny_bind (wpAny_lookBehind hoD (by rw [hdD]; exact pastItsLine_dict (Nat.le_trans hcD (by rw [List.length_cons]; omega))) ?_)
  exact wpAny_pure (h _ ⟨(hs2.2 _ (Ne.symm I.ne)).trans I.obj, hn2, I.ne⟩ hs2)

/-- C(..): the dict at the heap's end, the instance behind it; then its __init__ -/
theorem make_map {R : Result → Shared → Prop} {vs : List Value} {kw : List (Str × Value)} (X : K.In s.heap) (hm : PySem.W.makesIn K C = true)
    (hi : PySem.W.findIn K (.ref C) "__init__" = some (some (.ref f))) (hf : PySem.W.typeIn K (.ref f) = some (.type "function"))
    (h : codeAny (model prog w) (A.under (.builtin "type.__call__" ⟨.ref C :: vs, kw⟩)) (.call (.ref f) ⟨.ref (s.heap.objs.size + 1) :: vs, kw⟩) (PySem.W.InitBack (s.heap.objs.size + 1) R)
      { s with heap := (s.heap.push PySem.W.emptyDict).push (PySem.W.instObj C s.heap.objs.size) }) :
    codeAny (model prog w) A (.call (.ref C) ⟨vs, kw⟩) R s := by
  obtain ⟨hh, g, d, t, os⟩ := s
  exact PySem.W.make_core (PySem.W.makes_of X hm) (PySem.W.looks_findIn X hi) (fun self => PySem.W.bind_fn X self hf) (.inl rfl) h
end

/-! ### the attributes as a list of pairs -/
def putF (f : Str) (v : V) : List (Str × V) → List (Str × V)
  | [] => [(f, v)]
  | (g, x) :: r => if g = f then (g, v) :: r else (g, x) :: putF f v r
theorem lookup_putF (f g : Str) (v : V) : ∀ fs : List (Str × V), (putF f v fs).lookup g = if g = f then some v else fs.lookup g
  | [] => by
    show List.lookup g [(f, v)] = _
    by_cases h : g = f
    · have hb : (g == f) = true := beq_iff_eq.mpr h
      simp only [List.lookup, hb, if_pos h]
    · have hb : (g == f) = false := beq_eq_false_iff_ne.mpr h
      simp only [List.lookup, hb, if_neg h]
  | (k, x) :: r => by
    have ih := lookup_putF f g v r
    rw [show putF f v ((k, x) :: r) = (if k = f then (k, v) :: r else (k, x) :: putF f v r) from rfl]
    by_cases hk : k = f
    · rw [if_pos hk]
      by_cases h : g = k
      · have hb : (g == k) = true := beq_iff_eq.mpr h
        simp only [List.lookup, hb, if_pos (h.trans hk)]
      · have hb : (g == k) = false := beq_eq_false_iff_ne.mpr h
        simp only [List.lookup, hb, if_neg (fun e : g = f => h (e.trans hk.symm))]
    · rw [if_neg hk]
      by_cases h : g = k
      · have hb : (g == k) = true := beq_iff_eq.mpr h
        simp only [List.lookup, hb, if_neg (fun e : g = f => hk (h.symm.trans e))]
      · have hb : (g == k) = false := beq_eq_false_iff_ne.mpr h
        simp only [List.lookup, hb]
        exact ih
theorem keys_putF (f : Str) (v : V) : ∀ fs : List (Str × V), f ∈ (putF f v fs).map (·.1) ∧ ∀ g, g ∈ fs.map (·.1) → g ∈ (putF f v fs).map (·.1)
  | [] => ⟨by simp [putF], fun g h => by simp at h⟩
  | (k, x) :: r => by
    obtain ⟨i1, i2⟩ := keys_putF f v r
    rw [show putF f v ((k, x) :: r) = (if k = f then (k, v) :: r else (k, x) :: putF f v r) from rfl]
    by_cases hk : k = f
    · rw [if_pos hk]
      subst hk
      exact ⟨by simp, fun g h => by simpa using h⟩
    · rw [if_neg hk]
      refine ⟨?_, fun g h => ?_⟩
      · rw [List.map_cons]
        exact List.mem_cons_of_mem _ i1
      · rw [List.map_cons] at h ⊢
        rcases List.mem_cons.mp h with e | e
        · exact List.mem_cons.mpr (.inl e)
        · exact List.mem_cons_of_mem _ (i2 g e)
theorem length_putF (f : Str) (v : V) : ∀ fs : List (Str × V), (putF f v fs).length ≤ fs.length + 1
  | [] => by simp [putF]
  | (k, x) :: r => by
    have ih := length_putF f v r
    rw [show putF f v ((k, x) :: r) = (if k = f then (k, v) :: r else (k, x) :: putF f v r) from rfl]
    by_cases hk : k = f
    · rw [if_pos hk, List.length_cons, List.length_cons]; omega
    · rw [if_neg hk, List.length_cons, List.length_cons]; omega

theorem RelO.some_of {v : V} {o : Option Value} (r : RelO (some v) o) : ∃ u, o = some u ∧ RelV v u := by
  cases o with
  | none => exact (show False from r).elim
  | some u => exact ⟨u, rfl, r⟩
theorem RelO.none_of {o : Option Value} (r : RelO none o) : o = none := by
  cases o with
  | none => rfl
  | some u => exact (show False from r).elim
theorem handed_of {v : V} {u : Value} (r : RelV v u) : PySem.W.handedIn u = true := by
  cases v with
  | non => cases (show u = Value.none from r); rfl
  | bl b => cases (show u = Value.bool b from r); rfl
  | int i => obtain ⟨t, e⟩ := (show ∃ t, u = Value.int i t from r); cases e; rfl
  | str x => obtain ⟨t, e⟩ := (show ∃ t, u = Value.str x t from r); cases e; rfl
  | byt b => obtain ⟨t, e⟩ := (show ∃ t, u = Value.bytes b t from r); cases e; rfl
  | flt b => obtain ⟨t, e⟩ := (show ∃ t, u = Value.float b t from r); cases e; rfl
  | ref a => cases (show u = Value.ref a from r); rfl
  | ty n => cases (show u = Value.type n from r); rfl

section
variable {P : Program} {w : World} {H H' : Hp} {h h' : Heap} {a C dx : Addr} {fs fs' : List (Str × V)}
theorem ins_get (hok : HOk P w H h) (e : H a = some (.ins C dx fs)) : ∃ mA, ObjM h a dx C mA ∧ (∀ f, RelO (fs.lookup f) (mA f)) ∧ PySem.Within mA (fs.map (·.1)) ∧ fs.length ≤ 1000 ∧ H dx = some (.own a) := by
  obtain ⟨d, z, ne, ob, mA, n, r, q⟩ := (show ObjOk P w H h a (.ins C dx fs) from hok a _ e)
  exact ⟨mA, ⟨ob, n, ne⟩, r, q, z, d⟩
end

/-! ### what of the text a class must have -/
structure Cls (K : PySem.W.Frag) (C : Addr) : Prop where
  pg : PySem.W.plainGet K C Str.empty = true
  hd : PySem.W.hasDictIn K C = true
  po : PySem.W.plainOver K C = true
  sa : PySem.W.findIn K (.ref C) "__setattr__" = some (some (.builtin "object.__setattr__"))
theorem Cls.get {K : PySem.W.Frag} {C : Addr} (c : Cls K C) (f : Str) : PySem.W.plainGet K C f = true := c.pg
/-- no class of it has the name -/
def NoAttr (K : PySem.W.Frag) (C : Addr) (f : Str) : Prop := PySem.W.findIn K (.ref C) f = some none
theorem NoAttr.taker {K : PySem.W.Frag} {C : Addr} {f : Str} (n : NoAttr K C f) : PySem.W.takerIn K C f = some none := by
  unfold PySem.W.takerIn
  rw [show PySem.W.findIn K (.ref C) f = some none from n]
  rfl
/-- a method: a plain def of the class or of one above it -/
structure Meth (K : PySem.W.Frag) (C : Addr) (m : Str) (f : Addr) : Prop where
  at_ : PySem.W.findIn K (.ref C) m = some (some (.ref f))
  fn : PySem.W.isFn K (.ref f) = true
  kp : PySem.W.keepIn K (.ref f) = true

section
variable {X : Cx} {pins : List (Addr × Obj)} {σ : St} {H : Hp} {s : Shared} {a C dx : Addr} {fs : List (Str × V)} {f : Str} {v : V} {A : Around} {E : Value → Shared → Prop}

theorem getattr_ok {b : Bool} {Q : Value → Shared → Prop} (I : Inv X pins σ H s) (e : H a = some (.ins C dx fs)) (c : Cls X.K C) (n : NoAttr X.K C f) (l : fs.lookup f = some v)
    (h : ∀ u s', Inv X pins σ H s' → RelV v u → Q u s') : wpAny (model X.prog X.w) A (getAttr (.ref a) f b) Q E s := by
  obtain ⟨mA, O, r, _, _, _⟩ := ins_get I.hok e
  obtain ⟨u, hu, ru⟩ := RelO.some_of (v := v) (o := mA f) (by rw [← l]; exact r f)
  exact get_map I.kIn O (c.get f) c.hd n hu (handed_of ru) (h u _ (I.tok _) ru)

theorem getmeth_ok {m : Str} {g : Addr} {pl : Sem Bool} {Q : Value × List Value → Shared → Prop} (I : Inv X pins σ H s) (e : H a = some (.ins C dx fs)) (c : Cls X.K C) (k : Meth X.K C m g) (l : fs.lookup m = none)
    (h : Q (.ref g, [.ref a]) s) : wpAny (model X.prog X.w) A (getMethod (.ref a) m pl) Q E s := by
  obtain ⟨mA, O, r, _, _, _⟩ := ins_get I.hok e
  have hn : mA m = none := RelO.none_of (by rw [← l]; exact r m)
  exact get_meth I.kIn O (c.get m) k.at_ k.fn hn h

theorem setattr_ok {y : V} {u : Value} {Q : Unit → Shared → Prop} (I : Inv X pins σ H s) (e : H a = some (.ins C dx fs)) (c : Cls X.K C) (n : NoAttr X.K C f) (hl : fs.length < 1000) (ry : RelV y u)
    (h : ∀ s', Inv X pins σ (upd H a (.ins C dx (putF f y fs))) s' → Q () s') : wpAny (model X.prog X.w) A (setAttr (.ref a) f u) Q E s := by
  obtain ⟨mA, O, r, wi, _, ho⟩ := ins_get I.hok e
  have hz : (fs.map (·.1)).length ≤ sizeLine := by rw [List.length_map, sizeLine_eq]; omega
  refine set_map I.kIn O c.sa c.po n.taker c.hd wi hz fun h' O' sb => h _ ?_
  have hd : ∃ o, h'.get? dx = some o := let ⟨o, _, _, e', _⟩ := O'.ns; ⟨o, e'⟩
  refine I.write (x := a) (e := dx) (by rw [e]; exact True.intro) (.inr ho) (fun b q hb z => (sb.2 b hb).trans z) hd ?_
  refine ⟨by rw [upd_ne O.ne]; exact ho, ?_, O.ne, O'.obj, _, O'.ns, fun g => ?_, fun g hg => ?_⟩
  · have := length_putF f y fs; omega
  · show RelO ((putF f y fs).lookup g) (if g = f then some u else mA g)
    rw [lookup_putF]
    by_cases q : g = f
    · rw [if_pos q, if_pos q]; exact ry
    · rw [if_neg q, if_neg q]; exact r g
  · by_cases q : g = f
    · rw [q]; exact (keys_putF f y fs).1
    · refine (keys_putF f y fs).2 g (wi g fun z => hg ?_)
      show (if g = f then some u else mA g) = none
      rw [if_neg q]; exact z

/-- a new instance, tracked, without attributes -/
theorem Inv.made (I : Inv X pins σ H s) : Inv X pins σ (upd (upd H s.heap.objs.size (.own (s.heap.objs.size + 1))) (s.heap.objs.size + 1) (.ins C s.heap.objs.size []))
    { s with heap := (s.heap.push PySem.W.emptyDict).push (PySem.W.instObj C s.heap.objs.size) } := by
  have e1 : (s.heap.push PySem.W.emptyDict).get? s.heap.objs.size = some PySem.W.emptyDict := Heap.get?_push_size s.heap rfl
  have e2 : ((s.heap.push PySem.W.emptyDict).push (PySem.W.instObj C s.heap.objs.size)).get? (s.heap.objs.size + 1) = some (PySem.W.instObj C s.heap.objs.size) := by
    have := Heap.get?_push_size (s.heap.push PySem.W.emptyDict) (o := PySem.W.instObj C s.heap.objs.size) rfl
    rwa [Heap.size_push] at this
  have e3 : (s.heap.push PySem.W.emptyDict).Ns s.heap.objs.size (fun _ => none) := ⟨PySem.W.emptyDict, #[], _, e1, rfl, (fun e he => absurd he (by simp)), fun _ => rfl⟩
  have I1 := I.laid (a := s.heap.objs.size) (o := .own (s.heap.objs.size + 1)) (h' := s.heap.push PySem.W.emptyDict) (t' := s.toks) (fun b u q => Heap.get?_push_of_some _ q) (Nat.le_refl _) ⟨_, e1⟩
  refine I1.laid (a := s.heap.objs.size + 1) (o := .ins C s.heap.objs.size []) (t' := s.toks) (fun b u q => Heap.get?_push_of_some _ q) (Nat.le_of_eq (Heap.size_push _ _)) ?_
  have ne : s.heap.objs.size ≠ s.heap.objs.size + 1 := Nat.ne_of_lt (Nat.lt_succ_self _)
  refine ⟨by rw [upd_ne ne, upd_same], Nat.zero_le _, ne, e2, fun _ => none, (Heap.Ns1.of_empty e3).at fun o q => Heap.get?_push_of_some _ q, fun _ => True.intro, fun y hy => absurd rfl hy⟩

/-- e.f where nothing but the object is asked: through attributeBase (super) and the last hold -/
theorem attr_of {prog : Program} {w : World} {env : Env} {e : Expr} {f : Str} {pos : Pos} {s : Shared} {Q : Value → Shared → Prop} (hb : attributeBase e f env (eval e env) = eval e env)
    (h : wpAny (model prog w) A (eval e env) (fun o s₁ => wpAny (model prog w) A (getAttr o f true) Q E s₁) E s) : wpAny (model prog w) A (eval (.Attribute e f pos) env) Q E s :=
  Attribute_any_ h (by rw [arm_eval_Attribute, hb])
end

/-! ### readings and rules -/
/-- e.f, an attribute of the instance -/
def tFld (K : PySem.W.Frag) (ta : TE) (f : Str) : TE := fun σ H Q => ta σ H fun x H1 => ∃ a C dx fs v, x = .ref a ∧ H1 a = some (.ins C dx fs) ∧ Cls K C ∧ NoAttr K C f ∧ fs.lookup f = some v ∧ Q v H1
/-- e.f = value -/
def sFld (K : PySem.W.Frag) (ta tv : TE) (f : Str) : TS := fun D σ H => tv σ H fun y H1 => ta σ H1 fun x H2 => ∃ a C dx fs, x = .ref a ∧ H2 a = some (.ins C dx fs) ∧ Cls K C ∧ NoAttr K C f ∧ fs.length < 1000 ∧
  D.nx σ (upd H2 a (.ins C dx (putF f y fs)))
section
variable {X : Cx} {o e value : Expr} {f : Str} {pos pos' tpos : Pos} {ta tv : TE}
theorem pe_fld (he : PE X e ta) (hb : attributeBase e f X.env (eval e X.env) = eval e X.env) : PE X (.Attribute e f pos) (tFld X.K ta f) := by
  refine ⟨?_⟩
  intro pins s σ H Q I h
  refine attr_of hb (thn (he pins s σ H _ I h) fun u s1 ⟨x, H1, I1, rx, a, C, dx, fs, v, ex, ea, c, n, l, q⟩ => ?_)
  subst ex
  obtain rfl : u = Value.ref a := rx
  exact getattr_ok I1 ea c n l fun u' s2 I2 ru => ⟨v, H1, I2, ru, q⟩
theorem ps_fld (ha : PE X o ta) (hv : PE X value tv) (hs : swapsWith value (some (.Attribute o f pos')) pos.line X.env = pure false) : PS X (.Assign [.Attribute o f pos'] value pos) (sFld X.K ta tv f) := by
  refine ⟨?_⟩
  intro pins s σ H D I h
  refine plainObj_wpAny_Assign_Attribute (thn (hv pins s σ H _ I h) fun u s1 ⟨y, H1, I1, ry, q⟩ => thn (ha pins s1 σ H1 _ I1 q) fun ov s2 ⟨x, H2, I2, rx, a, C, dx, fs, ex, ea, c, n, l, q2⟩ => ?_) hs
  subst ex
  obtain rfl : ov = Value.ref a := rx
  exact setattr_ok I2 ea c n l ry fun s3 I3 => ⟨σ, _, I3, q2⟩
/-- what is between an instance and its method: the tree of a method call -/
theorem methcall_of {pl : Sem Bool} {m : Str} {apos : Pos} {args : List Expr} {pins : List (Addr × Obj)} {s : Shared} {σ : St} {H : Hp} {Q : Value → Shared → Prop} {te : TE} (he : PE X e te) (I : Inv X pins σ H s)
    (h : te σ H fun x H1 => ∃ a C dx fs g, x = .ref a ∧ H1 a = some (.ins C dx fs) ∧ Cls X.K C ∧ Meth X.K C m g ∧ fs.lookup m = none ∧
      ∀ s1, Inv X pins σ H1 s1 → wpAny (model X.prog X.w) X.A (callWith pos (.ref g) [.ref a] (backTo pos (starEach args X.env)) (backToKw pos (keywordEach [] X.env))) Q X.xe s1)
    (ht : eval (.Call (.Attribute e m apos) args [] pos) X.env = (do
      let ov ← eval e X.env
      standAt apos.atName
      let (f, first) ← holding [ov] (getMethod ov m pl)
      callWith pos f first (backTo pos (starEach args X.env)) (backToKw pos (keywordEach [] X.env)))) :
    wpAny (model X.prog X.w) X.A (eval (.Call (.Attribute e m apos) args [] pos) X.env) Q X.xe s := by
  refine PySem.W.methodCall_KW (pl := pl) (thn (he pins s σ H _ I h) fun u s1 ⟨x, H1, I1, rx, a, C, dx, fs, g, ex, ea, c, k, l, q⟩ => ?_) ht
  subst ex
  obtain rfl : u = Value.ref a := rx
  exact getmeth_ok I1 ea c k l (q s1 I1)
end

/-! ### isinstance -/
section
variable {X : Cx} {pins : List (Addr × Obj)} {σ : St} {H : Hp} {s : Shared} {A : Around} {E : Value → Shared → Prop} {Q : Value → Shared → Prop} {c : Value} {b : Bool}
/-- the type of a value, as the fragment's deciders take it; for an instance its class -/
inductive TyOf (K : PySem.W.Frag) (H : Hp) : V → Value → Prop where
  | non : TyOf K H .non (.type "NoneType")
  | bl (x : Bool) : TyOf K H (.bl x) (.type "bool")
  | int (i : Int) : TyOf K H (.int i) (.type "int")
  | str (x : Str) : TyOf K H (.str x) (.type "str")
  | flt (x : UInt64) : TyOf K H (.flt x) (.type "float")
  | lst {a : Addr} {xs : List V} (e : H a = some (.lst xs)) : TyOf K H (.ref a) (.type "list")
  | frz {a : Addr} {o : Obj} {xs : List V} (e : H a = some (.frz o (.lst xs))) : TyOf K H (.ref a) (.type "list")
  | tup {a : Addr} {xs : List V} (e : H a = some (.tup xs)) : TyOf K H (.ref a) (.type "tuple")
  | dK {a : Addr} {kvs : List (Key × V)} (e : H a = some (.dK kvs)) : TyOf K H (.ref a) (.type "dict")
  | dT {a : Addr} {kvs : List (List Key × V)} (e : H a = some (.dT kvs)) : TyOf K H (.ref a) (.type "dict")
  | ins {a C dx : Addr} {fs : List (Str × V)} (e : H a = some (.ins C dx fs)) (cl : Cls K C) (ha : PySem.W.findIn K (.ref C) "__class__" = some (some (.builtin "object.__class__")))
      (hn : PySem.W.specialIn K (.builtin "object.__class__") "__get__" = some (some (.builtin "getset_descriptor.__get__"))) (htk : PySem.W.takesIn K (.builtin "object.__class__") = some true)
      (hm : PySem.W.mroIn K C (.type "object") = some true) : TyOf K H (.ref a) (.ref C)
/-- isinstance(x, c) for one class c, a built-in or an own one: kitOne's answer -/
theorem isinst_ok {x : V} {u t : Value} (I : Inv X pins σ H s) (rx : RelV x u) (ty : TyOf X.K H x t) (e : PySem.W.kitOne X.K t c = some b) (h : ∀ tk, Q (.bool b) { s with toks := tk }) :
    wpAny (model X.prog X.w) A (call (.builtin "isinstance") [u, c]) Q E s := by
  cases ty with
  | non => cases (show u = Value.none from rx); exact PySem.W.kia_one PySem.W.kitx_none I.kIn True.intro e (fun z => nomatch z) h
  | bl y => cases (show u = Value.bool y from rx); exact PySem.W.kia_one PySem.W.kitx_bool I.kIn True.intro e (fun z => nomatch z) h
  | int i => obtain ⟨t, q⟩ := (show ∃ t, u = Value.int i t from rx); cases q; exact PySem.W.kia_one PySem.W.kitx_int I.kIn True.intro e (fun z => nomatch z) h
  | str y => obtain ⟨t, q⟩ := (show ∃ t, u = Value.str y t from rx); cases q; exact PySem.W.kia_one PySem.W.kitx_str I.kIn True.intro e (fun z => nomatch z) h
  | flt y => obtain ⟨t, q⟩ := (show ∃ t, u = Value.float y t from rx); cases q; exact PySem.W.kia_one PySem.W.kitx_float I.kIn True.intro e (fun z => nomatch z) h
  | @lst a xs ea =>
    cases (show u = Value.ref a from rx)
    obtain ⟨_, _, n, _, h1⟩ := (show ObjOk X.prog X.w H s.heap a (.lst xs) from I.hok a _ ea)
    exact PySem.W.kia_one PySem.W.kitx_list I.kIn ⟨_, h1, rfl⟩ e (fun z => nomatch z) h
  | @frz a ob xs ea =>
    cases (show u = Value.ref a from rx)
    obtain ⟨_, _, _, n, _, h1⟩ := (show ObjOk X.prog X.w H s.heap a (.frz ob (.lst xs)) from I.hok a _ ea)
    exact PySem.W.kia_one PySem.W.kitx_list I.kIn ⟨_, h1, rfl⟩ e (fun z => nomatch z) h
  | @tup a xs ea =>
    cases (show u = Value.ref a from rx)
    obtain ⟨_, _, _, p⟩ := (show ObjOk X.prog X.w H s.heap a (.tup xs) from I.hok a _ ea)
    obtain ⟨o, h1, h2, _⟩ := p
    exact PySem.W.kia_one PySem.W.kitx_tuple I.kIn ⟨o, h1, h2⟩ e (fun z => nomatch z) h
  | @dK a kvs ea =>
    cases (show u = Value.ref a from rx)
    obtain ⟨_, _, vs, _, p⟩ := (show ObjOk X.prog X.w H s.heap a (.dK kvs) from I.hok a _ ea)
    obtain ⟨o, es, ep, h1, h2, _⟩ := p
    exact PySem.W.kia_one PySem.W.kitx_dict I.kIn ⟨o, h1, h2.1⟩ e (fun z => nomatch z) h
  | @dT a kvs ea =>
    cases (show u = Value.ref a from rx)
    obtain ⟨_, _, xs, _, o, es, ep, h1, h2, _⟩ := (show ObjOk X.prog X.w H s.heap a (.dT kvs) from I.hok a _ ea)
    exact PySem.W.kia_one PySem.W.kitx_dict I.kIn ⟨o, h1, h2.1⟩ e (fun z => nomatch z) h
  | @ins a C dx fs ea cl ha hn htk hm =>
    cases (show u = Value.ref a from rx)
    obtain ⟨mA, O, _⟩ := ins_get I.hok ea
    obtain ⟨od, J, _⟩ := O.look
    exact PySem.W.kia_one (PySem.W.kitx_own (cl.get _) cl.hd ha hn htk hm) I.kIn J e (fun z => nomatch z) h
end
end L2

namespace L2
open PySem PySem.Spec PyProof.Rows

/-! ### room -/
structure Room (k : Nat) (A : Around) : Prop where
  hd : A.handled = none
  dp : A.depth + 3 * k + 5 < recursionLimit
  un : A.units + 16 * k + 200 < cLine
theorem Room.mono {j k : Nat} {A : Around} (r : Room k A) (h : j ≤ k) : Room j A := ⟨r.hd, by have := r.dp; omega, by have := r.un; omega⟩
theorem Room.deeper {k : Nat} {A : Around} (r : Room (k + 1) A) (env : Env) : Room k (A.deeper env) :=
  ⟨r.hd, by have := r.dp; show A.depth + 1 + 3 * k + 5 < _; omega, by have := r.un; show A.units + 3 + 16 * k + 200 < _; omega⟩
theorem make_depth {A : Around} {C : Addr} {us : List Value} {kw : List (Str × Value)} : (A.under (.builtin "type.__call__" ⟨.ref C :: us, kw⟩)).depth = A.depth + 1 := by
  first | rfl | simp [Around.under, Code.weight, Code.isCreation, Code.isGuard, Code.isCaller, Code.frames, Code.isFrame, guardIds]
theorem make_units {A : Around} {C : Addr} {us : List Value} {kw : List (Str × Value)} : (A.under (.builtin "type.__call__" ⟨.ref C :: us, kw⟩)).units = A.units + 1 := by
  first | rfl | simp [Around.under, Code.cUnits, Code.frames, Code.isFrame]
theorem Room.make {k : Nat} {A : Around} (r : Room (k + 1) A) (C : Addr) (us : List Value) (kw : List (Str × Value)) : Room k (A.under (.builtin "type.__call__" ⟨.ref C :: us, kw⟩)) :=
  ⟨r.hd, by have := r.dp; rw [make_depth]; omega, by have := r.un; rw [make_units]; omega⟩
theorem Room.depth {k : Nat} {A : Around} (r : Room k A) : A.depth < recursionLimit := by have := r.dp; omega
theorem Room.units {k : Nat} {A : Around} (r : Room k A) : A.units + 64 < cLine := by have := r.un; omega
theorem Room.units0 {k : Nat} {A : Around} (r : Room k A) : A.units < cLine := by have := r.un; omega

/-! ### argument lists and displays -/
def tNil : TA := fun _ H Q => Q [] H
def tCons (ta : TE) (tr : TA) : TA := fun σ H Q => ta σ H fun x H1 => tr σ H1 fun xs H2 => Q (x :: xs) H2
section
variable {X : Cx} {e : Expr} {es : List Expr} {te : TE} {t : TA} {pos : Pos}
theorem pa_nil : PA X [] tNil := ⟨fun _ _ _ _ H Q I h => Calls.spliced_nil ⟨[], H, I, .nil, h⟩⟩
theorem pa_cons (ha : PE X e te) (hr : PA X es t) (hs : starEach (e :: es) X.env = (false, eval e X.env) :: starEach es X.env := by rfl) : PA X (e :: es) (tCons te t) := by
  refine ⟨?_⟩
  intro pos pins s σ H Q I h
  rw [hs]
  show wpAny _ _ (spliced ((false, eval e X.env) :: backTo pos (starEach es X.env))) _ _ s
  refine Calls.spliced_cons (thn (ha pins s σ H _ I h) fun u s1 ⟨x, H1, I1, r1, q1⟩ => ?_)
  exact thn (hr pos pins s1 σ H1 _ I1 q1) fun us s2 ⟨xs, H2, I2, r2, q2⟩ => ⟨x :: xs, H2, I2, .cons r1 r2, q2⟩

/-- a tuple, a list of written items -/
def tTup (t : TA) : TE := fun σ H Q => t σ H fun xs H1 => xs.length ≤ sizeLine ∧ ∀ p, H1 p = none → Q (.ref p) (upd H1 p (.tup xs))
def tLst (t : TA) : TE := fun σ H Q => t σ H fun xs H1 => xs.length ≤ sizeLine ∧ ∀ p, H1 p = none → Q (.ref p) (upd H1 p (.lst xs))
theorem pe_tup {x1} (h : PA X es t) : PE X (.Tuple es x1 pos) (tTup t) := by
  refine ⟨?_⟩
  intro pins s σ H Q I hq
  refine wpAny_Tuple_spliced (thn (h pos pins s σ H _ I hq) fun us s1 ⟨xs, H1, I1, r, z, q⟩ => ⟨by rw [← r.length]; exact z, ?_⟩)
  have hf : H1 s1.heap.objs.size = none := I1.hok.fresh (Nat.le_refl _)
  refine ⟨.ref s1.heap.objs.size, upd H1 s1.heap.objs.size (.tup xs), I1.laid (t' := s1.toks) (fun b u e => Heap.get?_push_of_some _ e) (Nat.le_refl _) ?_, rfl, q _ hf⟩
  exact ⟨z, us, r, ⟨_, Heap.get?_push_size _ rfl, rfl, _, rfl⟩⟩
theorem pe_lst (h : PA X es t) : PE X (.List es pos) (tLst t) := by
  refine ⟨?_⟩
  intro pins s σ H Q I hq
  refine wpAny_List_spliced (thn (h pos pins s σ H _ I hq) fun us s1 ⟨xs, H1, I1, r, z, q⟩ => ⟨by rw [← r.length]; exact z, ?_⟩)
  have hf : H1 s1.heap.objs.size = none := I1.hok.fresh (Nat.le_refl _)
  refine ⟨.ref s1.heap.objs.size, upd H1 s1.heap.objs.size (.lst xs), I1.laid (t' := s1.toks) (fun b u e => Heap.get?_push_of_some _ e) (Nat.le_refl _) ?_, rfl, q _ hf⟩
  exact ⟨z, us, 0, r, Heap.get?_push_size _ rfl⟩
end

/-! ### what a def promises -/
/-- a def's promise: the bound arguments in the parameters' order, the heap, the wanted end, the wanted exception -/
abbrev Sp := List V → Hp → VK → XK → Prop
/-- how an exception lies behind a call (file 08 gives it): the callers' frames, abstract heap and state ahead of the call, the wish, the exception, the state -/
abbrev CXT := List Env → Hp → Shared → XK → Value → Shared → Prop

/-- the state at a call -/
structure Env0 (P : Program) (w : World) (K : PySem.W.Frag) (mg : Str → Option Value) (base : Heap) (A : Around) (outer : List Env) (s : Shared) (H : Hp) : Prop where
  frames : A.frames = some outer
  mod : Mod K mg base
  bs : ∀ b o, base.get? b = some o → s.heap.get? b = some o ∧ H b = none
  bsz : base.objs.size ≤ s.heap.objs.size
  funs : s.heap.FunFrames base outer
  frf : ∀ b ∈ frs outer, H b = none
  hok : HOk P w H s.heap
  bare : AllBare s.gens
/-- a call's end -/
def CE (outer : List Env) (P : Program) (w : World) (H : Hp) (s : Shared) (Q : VK) (u : Value) (s' : Shared) : Prop :=
  ∃ v H', s'.os = s.os ∧ AllBare s'.gens ∧ Un (frs outer) [] H H' s.heap s'.heap ∧ HOk P w H' s'.heap ∧ RelV v u ∧ Q v H'
def CR (CX : CXT) (outer : List Env) (P : Program) (w : World) (H : Hp) (s : Shared) (Q : VK) (E : XK) (r : Result) (s' : Shared) : Prop :=
  match r with
  | .ok (.ret u) => CE outer P w H s Q u s'
  | .ok _ => False
  | .error e => CX outer H s E e s'
structure FnOk (P : Program) (w : World) (K : PySem.W.Frag) (mg : Str → Option Value) (base : Heap) (CX : CXT) (k : Nat) (f : Addr) (fd : FuncData) (ps : List Str) (sp : Sp) : Prop where
  len : ∀ vs H Q E, sp vs H Q E → vs.length = ps.length
  run : ∀ (A : Around) (outer : List Env) (s : Shared) (H : Hp) (args : Args) (us : List Value) (vs : List V) (Q : VK) (E : XK), Room k A → Env0 P w K mg base A outer s H → BindsTo s fd args (ps.zip us) → Vals vs us → sp vs H Q E →
    codeAny (model P w) A (.call (.ref f) args) (CR CX outer P w H s Q E) s
theorem Env0.make {P : Program} {w : World} {K : PySem.W.Frag} {mg : Str → Option Value} {base : Heap} {A : Around} {outer : List Env} {s : Shared} {H : Hp} (e : Env0 P w K mg base A outer s H) (C : Addr) (us : List Value) (kw : List (Str × Value)) :
    Env0 P w K mg base (A.under (.builtin "type.__call__" ⟨.ref C :: us, kw⟩)) outer s H := ⟨by first | exact e.frames | (simpa [Around.under, Code.envs, Code.isFrame, pushEnvs] using e.frames), e.mod, e.bs, e.bsz, e.funs, e.frf, e.hok, e.bare⟩
section
variable {X : Cx} {pins : List (Addr × Obj)} {σ : St} {H : Hp} {s s' : Shared}
/-- from a body: what a callee wants -/
theorem Inv.env0 (I : Inv X pins σ H s) : Env0 X.prog X.w X.K X.mg X.base X.A X.stack s H :=
  ⟨I.ok.frames, I.ok.mod, I.bs, Nat.le_trans I.ok.bsz I.sz, I.stack, I.stkFree, I.hok, I.bare⟩
/-- behind a call -/
theorem Inv.after {Q : VK} {u : Value} (I : Inv X pins σ H s) (h : CE X.stack X.prog X.w H s Q u s') : EP X pins σ Q u s' := by
  obtain ⟨v, H', os, bare, un, hok, r, q⟩ := h
  obtain ⟨hh, g, d, t, os'⟩ := s'
  obtain rfl : os' = s.os := os
  exact ⟨v, H', I.call (h' := hh) (g' := g) (d' := d) (t' := t) (ch := []) un hok bare (fun b z => absurd z (by simp)), r, q⟩
end

/-! ### calls -/
/-- f(..): the written arguments, then the defaults dvs; E: what is wanted of an exception -/
def tCall (sp : Sp) (dvs : List V) (E : XK) (t : TA) : TE := fun σ H Q => t σ H fun vs H1 => sp (vs ++ dvs) H1 Q E
/-- o.m(..) of an instance of the class at C -/
def tMeth (C : Addr) (m : Str) (sp : Sp) (dvs : List V) (E : XK) (ta : TE) (t : TA) : TE := fun σ H Q => ta σ H fun x H1 => ∃ a dx fs, x = .ref a ∧ H1 a = some (.ins C dx fs) ∧ fs.lookup m = none ∧
  t σ H1 fun vs H2 => sp (x :: (vs ++ dvs)) H2 Q E
/-- C(..): a new instance and its dict, then __init__ -/
def tMake (C : Addr) (sp : Sp) (dvs : List V) (E : XK) (t : TA) : TE := fun σ H Q => t σ H fun vs H1 => ∀ x dx, H1 x = none → H1 dx = none → dx ≠ x →
  sp (.ref x :: (vs ++ dvs)) (upd (upd H1 dx (.own x)) x (.ins C dx [])) (fun v H2 => v = .non ∧ Q (.ref x) H2) E

/-- how the parameters are bound: us the positional arguments, kw the keywords' values by name, ds the defaults that fill up -/
def Binds (K : PySem.W.Frag) (fd : FuncData) (ps : List Str) (ds : List Value) : Prop :=
  ∀ (s : Shared) (us : List Value), K.In s.heap → (us ++ ds).length = ps.length → BindsTo s fd ⟨us, []⟩ (ps.zip (us ++ ds))
/-- every parameter is given -/
theorem Binds.all {K : PySem.W.Frag} {fd : FuncData} {ps : List Str} (h : ∀ us : List Value, us.length = ps.length → bindArgs fd ⟨us, []⟩ = pure (ps.zip us)) : Binds K fd ps [] := fun s us _ hl => by
  rw [List.append_nil] at hl ⊢
  exact .of_eq (h us hl)

/-- an exception of a callee reaches what this body wants of exceptions -/
def Passes (CX : CXT) (X : Cx) (E : XK) : Prop := ∀ (pins : List (Addr × Obj)) (σ : St) (H : Hp) (s : Shared) (e : Value) (s' : Shared), Inv X pins σ H s → CX X.stack H s E e s' → X.xe e s'

section
variable {X : Cx} {CX : CXT} {k : Nat} {f C : Addr} {fd : FuncData} {ps : List Str} {sp : Sp} {dvs : List V} {ds : List Value} {E : XK} {x m : Str} {p pos apos : Pos} {e o : Expr} {es : List Expr} {ta : TE} {t : TA}

/-- the callee runs -/
theorem run_fn {pins : List (Addr × Obj)} {σ : St} {H : Hp} {s : Shared} {Q : VK} {us : List Value} {vs : List V} (F : FnOk X.prog X.w X.K X.mg X.base CX k f fd ps sp) (hr : Room k X.A) (hb : Binds X.K fd ps ds) (hd : Vals dvs ds) (hx : Passes CX X E)
    (I : Inv X pins σ H s) (r : Vals vs us) (h : sp (vs ++ dvs) H Q E) : wpAny (model X.prog X.w) X.A (call (.ref f) us) (EP X pins σ Q) X.xe s := by
  have r2 : Vals (vs ++ dvs) (us ++ ds) := r.append hd
  have hl : (us ++ ds).length = ps.length := by rw [← r2.length]; exact F.len _ _ _ _ h
  refine wpAny_call (codeAny_mono (F.run X.A X.stack s H ⟨us, []⟩ (us ++ ds) (vs ++ dvs) Q E hr I.env0 (hb s us I.kIn hl) r2 h) fun r s' hq => ?_)
  cases r with
  | error e => exact hx pins σ H s e s' I hq
  | ok fl =>
    cases fl with
    | ret u => exact I.after hq
    | next => exact False.elim hq
    | brk => exact False.elim hq
    | cont => exact False.elim hq

theorem pe_call (F : FnOk X.prog X.w X.K X.mg X.base CX k f fd ps sp) (hr : Room k X.A) (hg : Gl X x) (hm : X.mg x = some (.ref f)) (hk : PySem.W.keepIn X.K (.ref f) = true) (hb : Binds X.K fd ps ds) (hd : Vals dvs ds) (hx : Passes CX X E)
    (ha : PA X (e :: es) t) (hdb : (x == ("__debug__" : Str)) = false := by decide) (he : starEach (e :: es) X.env = (false, eval e X.env) :: starEach es X.env := by rfl) (hpl : (backTo pos (starEach es X.env)).any (·.1) = false := by rfl) :
    PE X (.Call (.Name x p) (e :: es) [] pos) (tCall sp dvs E t) := by
  refine ⟨?_⟩
  intro pins s σ H Q I h
  refine wpAny_Call_Name_kw (ld_glob I hg hm ?_ hdb)
  refine PySem.W.callWith_K (h₀ := X.base) I.ok.mod.kin hk (thn (ha pos pins s σ H _ I h) fun us s1 ⟨vs, H1, I1, r, q⟩ => ⟨I1.kIn, ?_⟩) he hpl
  exact run_fn F hr hb hd hx I1 r q
/-- o.m(e, ..) -/
theorem pe_meth {pl : Sem Bool} (he : PE X o ta) (c : Cls X.K C) (hm : Meth X.K C m f) (F : FnOk X.prog X.w X.K X.mg X.base CX k f fd ps sp) (hr : Room k X.A) (hb : Binds X.K fd ps ds) (hd : Vals dvs ds) (hx : Passes CX X E) (ha : PA X (e :: es) t)
    (hst : starEach (e :: es) X.env = (false, eval e X.env) :: starEach es X.env := by rfl) (hpl : (backTo pos (starEach es X.env)).any (·.1) = false := by rfl)
    (ht : eval (.Call (.Attribute o m apos) (e :: es) [] pos) X.env = (do
      let ov ← eval o X.env
      standAt apos.atName
      let (f, first) ← holding [ov] (getMethod ov m pl)
      callWith pos f first (backTo pos (starEach (e :: es) X.env)) (backToKw pos (keywordEach [] X.env))) := by rfl) :
    PE X (.Call (.Attribute o m apos) (e :: es) [] pos) (tMeth C m sp dvs E ta t) := by
  refine ⟨?_⟩
  intro pins s σ H Q I h
  refine PySem.W.methodCall_KW (pl := pl) (thn (he pins s σ H _ I h) fun u s1 ⟨x, H1, I1, rx, a, dx, fs, ex, ea, l, q⟩ => ?_) ht
  subst ex
  obtain rfl : u = Value.ref a := rx
  refine getmeth_ok I1 ea c hm l ?_
  refine PySem.W.callWith_K (first := [.ref a]) (h₀ := X.base) I.ok.mod.kin hm.kp (thn (ha pos pins s1 σ H1 _ I1 q) fun us s2 ⟨vs, H2, I2, r, q2⟩ => ⟨I2.kIn, ?_⟩) hst hpl
  exact run_fn (us := .ref a :: us) (vs := .ref a :: vs) F hr hb hd hx I2 (.cons rfl r) q2
/-- o.m() -/
theorem pe_meth0 {pl : Sem Bool} (he : PE X o ta) (c : Cls X.K C) (hm : Meth X.K C m f) (F : FnOk X.prog X.w X.K X.mg X.base CX k f fd ps sp) (hr : Room k X.A) (hb : Binds X.K fd ps ds) (hd : Vals dvs ds) (hx : Passes CX X E)
    (ht : eval (.Call (.Attribute o m apos) [] [] pos) X.env = (do
      let ov ← eval o X.env
      standAt apos.atName
      let (f, first) ← holding [ov] (getMethod ov m pl)
      callWith pos f first (backTo pos (starEach [] X.env)) (backToKw pos (keywordEach [] X.env))) := by rfl) :
    PE X (.Call (.Attribute o m apos) [] [] pos) (tMeth C m sp dvs E ta tNil) := by
  refine ⟨?_⟩
  intro pins s σ H Q I h
  refine PySem.W.methodCall_KW (pl := pl) (thn (he pins s σ H _ I h) fun u s1 ⟨x, H1, I1, rx, a, dx, fs, ex, ea, l, q⟩ => ?_) ht
  subst ex
  obtain rfl : u = Value.ref a := rx
  refine getmeth_ok I1 ea c hm l ?_
  exact PySem.W.callWith_K0 (first := [.ref a]) I1.kIn hm.kp (run_fn (us := [.ref a]) (vs := [.ref a]) F hr hb hd hx I1 (.cons rfl .nil) q)

/-- what a class must have to be made -/
structure Mk (K : PySem.W.Frag) (C f : Addr) : Prop where
  makes : PySem.W.makesIn K C = true
  init : PySem.W.findIn K (.ref C) "__init__" = some (some (.ref f))
  fn : PySem.W.isFn K (.ref f) = true
  kp : PySem.W.keepIn K (.ref C) = true

theorem run_make {pins : List (Addr × Obj)} {σ : St} {H : Hp} {s : Shared} {Q : VK} {us : List Value} {vs : List V} (M : Mk X.K C f) (F : FnOk X.prog X.w X.K X.mg X.base CX k f fd ps sp) (hr : Room (k + 1) X.A) (hb : Binds X.K fd ps ds) (hd : Vals dvs ds)
    (hx : Passes CX X E) (I : Inv X pins σ H s) (r : Vals vs us)
    (h : ∀ x dx, H x = none → H dx = none → dx ≠ x → sp (.ref x :: (vs ++ dvs)) (upd (upd H dx (.own x)) x (.ins C dx [])) (fun v H2 => v = .non ∧ Q (.ref x) H2) E) :
    wpAny (model X.prog X.w) X.A (call (.ref C) us) (EP X pins σ Q) X.xe s := by
  have hq := h (s.heap.objs.size + 1) s.heap.objs.size (I.hok.fresh (Nat.le_succ _)) (I.hok.fresh (Nat.le_refl _)) (Nat.ne_of_lt (Nat.lt_succ_self _))
  have I2 := Inv.made (C := C) I
  have r2 : Vals (V.ref (s.heap.objs.size + 1) :: (vs ++ dvs)) (Value.ref (s.heap.objs.size + 1) :: (us ++ ds)) := .cons rfl (r.append hd)
  have hl : (Value.ref (s.heap.objs.size + 1) :: us ++ ds).length = ps.length := by
    have e := r2.length
    rw [F.len _ _ _ _ hq] at e
    exact e.symm
  refine wpAny_call (make_map (f := f) I.kIn M.makes M.init (beq_iff_eq.mp M.fn) (codeAny_mono (F.run _ X.stack _ _ ⟨Value.ref (s.heap.objs.size + 1) :: us, []⟩ (Value.ref (s.heap.objs.size + 1) :: (us ++ ds)) _ _ E (hr.make C us [])
    (I2.env0.make C us []) (hb _ (Value.ref (s.heap.objs.size + 1) :: us) I2.kIn hl) r2 hq) fun r s' hq' => ?_))
  cases r with
  | error e => exact hx pins σ _ _ e s' I2 hq'
  | ok fl =>
    cases fl with
    | ret u =>
      obtain ⟨v, H', I3, rv, ev, q3⟩ := I2.after hq'
      subst ev
      exact ⟨rv, ⟨V.ref (s.heap.objs.size + 1), H', I3, rfl, q3⟩⟩
    | next => exact False.elim hq'
    | brk => exact False.elim hq'
    | cont => exact False.elim hq'
theorem pe_make (M : Mk X.K C f) (F : FnOk X.prog X.w X.K X.mg X.base CX k f fd ps sp) (hr : Room (k + 1) X.A) (hg : Gl X x) (hm : X.mg x = some (.ref C)) (hb : Binds X.K fd ps ds) (hd : Vals dvs ds) (hx : Passes CX X E)
    (ha : PA X (e :: es) t) (hdb : (x == ("__debug__" : Str)) = false := by decide) (he : starEach (e :: es) X.env = (false, eval e X.env) :: starEach es X.env := by rfl) (hpl : (backTo pos (starEach es X.env)).any (·.1) = false := by rfl) :
    PE X (.Call (.Name x p) (e :: es) [] pos) (tMake C sp dvs E t) := by
  refine ⟨?_⟩
  intro pins s σ H Q I h
  refine wpAny_Call_Name_kw (ld_glob I hg hm ?_ hdb)
  refine PySem.W.callWith_K (h₀ := X.base) I.ok.mod.kin M.kp (thn (ha pos pins s σ H _ I h) fun us s1 ⟨vs, H1, I1, r, q⟩ => ⟨I1.kIn, ?_⟩) he hpl
  exact run_make M F hr hb hd hx I1 r q
end

/-! ### keywords -/
section
variable {X : Cx} {CX : CXT} {k : Nat} {f C : Addr} {fd : FuncData} {ps ks : List Str} {sp : Sp} {E : XK} {x m : Str} {p pos apos kpos : Pos} {e o : Expr} {es : List Expr} {kws : List Keyword} {te ta : TE} {t tk : TA} {nm : Option Str}
/-- how a call with keywords binds: g puts the positional values us and the keywords' values ws (names ks) in the parameters' order, defaults among them -/
structure KBinds (K : PySem.W.Frag) (fd : FuncData) (ps ks : List Str) (g : List Value → List Value → List Value) (gV : List V → List V → List V) : Prop where
  to : ∀ (s : Shared) (us ws : List Value), K.In s.heap → (g us ws).length = ps.length → BindsTo s fd ⟨us, ks.zip ws⟩ (ps.zip (g us ws))
  rel : ∀ {vs : List V} {us : List Value} {zs : List V} {ws : List Value}, Vals vs us → Vals zs ws → Vals (gV vs zs) (g us ws)
variable {g : List Value → List Value → List Value} {gV : List V → List V → List V}
end

/-! ### a def's body keeps its promise -/
/-- names: the parameters first -/
structure FnScope (N P : List Str) (sc : Scope) : Prop where
  kind : sc.kind = .function
  co : sc.isCoroutine = false
  gen : sc.isGenerator = false
  nd : N.Nodup
  pre : N.take P.length = P
  par : ∀ x ∈ P, sc.names.lookup x = some .local ∨ sc.names.lookup x = some .cell
  nofree : ∀ y ∈ sc.names, y.2 ≠ .free

theorem bindL_out {kindOf : Str → Option NameKind} {x : Str} : ∀ {binds : List (Str × Value)} {m : Str → Option Value}, (∀ v, (x, v) ∉ binds) → bindL kindOf binds m x = m x
  | [], _, _ => rfl
  | (n, v) :: r, m, h => by
    unfold bindL
    rw [bindL_out fun w hw => h w (List.mem_cons_of_mem _ hw)]
    split
    · have : x ≠ n := by rintro rfl; exact h v List.mem_cons_self
      simp [this]
    · rfl
theorem bindC_out {kindOf : Str → Option NameKind} {x : Str} : ∀ {binds : List (Str × Value)} {m : Str → Option Value}, (∀ v, (x, v) ∉ binds) → bindC kindOf binds m x = m x
  | [], _, _ => rfl
  | (n, v) :: r, m, h => by
    unfold bindC
    rw [bindC_out fun w hw => h w (List.mem_cons_of_mem _ hw)]
    split
    · rfl
    · have : x ≠ n := by rintro rfl; exact h v List.mem_cons_self
      simp [this]
theorem bindL_get {kindOf : Str → Option NameKind} {x : Str} {v : Value} : ∀ {P : List Str} {vs : List Value} {i : Nat} {m : Str → Option Value}, P.Nodup → P[i]? = some x → vs[i]? = some v → kindOf x = some .local →
    bindL kindOf (P.zip vs) m x = some v
  | [], _, _, _, _, h, _, _ => by simp at h
  | _ :: _, [], _, _, _, _, h, _ => by simp at h
  | p :: P, w :: vs, 0, m, nd, h1, h2, hk => by
    simp at h1 h2; subst h1; subst h2
    show bindL kindOf ((p, w) :: P.zip vs) m p = _
    unfold bindL
    rw [bindL_out fun v hv => (List.nodup_cons.mp nd).1 (List.of_mem_zip hv).1, if_pos hk]
    simp
  | p :: P, w :: vs, i + 1, m, nd, h1, h2, hk => by
    show bindL kindOf ((p, w) :: P.zip vs) m x = _
    unfold bindL
    exact bindL_get (i := i) (List.nodup_cons.mp nd).2 (by simpa using h1) (by simpa using h2) hk
theorem bindC_get {kindOf : Str → Option NameKind} {x : Str} {v : Value} : ∀ {P : List Str} {vs : List Value} {i : Nat} {m : Str → Option Value}, P.Nodup → P[i]? = some x → vs[i]? = some v → kindOf x ≠ some .local →
    bindC kindOf (P.zip vs) m x = some v
  | [], _, _, _, _, h, _, _ => by simp at h
  | _ :: _, [], _, _, _, _, h, _ => by simp at h
  | p :: P, w :: vs, 0, m, nd, h1, h2, hk => by
    simp at h1 h2; subst h1; subst h2
    show bindC kindOf ((p, w) :: P.zip vs) m p = _
    unfold bindC
    rw [bindC_out fun v hv => (List.nodup_cons.mp nd).1 (List.of_mem_zip hv).1, if_neg hk]
    simp
  | p :: P, w :: vs, i + 1, m, nd, h1, h2, hk => by
    show bindC kindOf ((p, w) :: P.zip vs) m x = _
    unfold bindC
    exact bindC_get (i := i) (List.nodup_cons.mp nd).2 (by simpa using h1) (by simpa using h2) hk

/-- the names' values at the entry -/
def start (N : List Str) (vs : List V) : St := vs.map some ++ List.replicate (N.length - vs.length) none

/-- the context of a def's body, at its entry; an exception leaves the frame, then lies as CX says -/
def cxOf (CX : CXT) (P : Program) (w : World) (K : PySem.W.Frag) (mg : Str → Option Value) (base : Heap) (N : List Str) (qual : Str) (scope : Scope) (f : Addr) (cd : Value) (A : Around) (outer : List Env) (s : Shared) (H : Hp) (E : XK) : Cx where
  prog := P
  w := w
  K := K
  mg := mg
  base := base
  A := A.deeper (envOfC qual scope s.heap.objs.size f cd)
  N := N
  s₀ := s
  H₀ := H
  env := envOfC qual scope s.heap.objs.size f cd
  outer := outer
  stack := envOfC qual scope s.heap.objs.size f cd :: outer
  ex := []
  calm := true
  fn := fun _ => true
  pn := []
  xe := fun e s' => wpAny (model P w) (A.deeper (envOfC qual scope s.heap.objs.size f cd)) (leaving (envOfC qual scope s.heap.objs.size f cd) e) (fun _ s'' => CX outer H s E e s'') (fun e' s'' => CX outer H s E e' s'') s'

theorem cell_has {sc : Scope} {n : Nat} {x : Str} (h : sc.names.lookup x = some .cell) : ∃ c, (cellsFrom n sc.names []).lookup x = some c := by
  have q := PySem.W.cellsFrom_some sc.names n [] (.inl h)
  exact Option.isSome_iff_exists.mp q

theorem inv_start {CX : CXT} {P : Program} {w : World} {K : PySem.W.Frag} {mg : Str → Option Value} {base : Heap} {N ps : List Str} {qual : Str} {scope : Scope} {f : Addr} {cd : Value} {A : Around} {outer : List Env} {s s1 : Shared} {H : Hp} {E : XK} {us : List Value} {vs : List V}
    (S : FnScope N ps scope) (hd : A.handled = none) (e0 : Env0 P w K mg base A outer s H) (hl : vs.length = ps.length) (r : Vals vs us)
    (x : InCallC s s.heap.objs.size (bindL (envOfC qual scope s.heap.objs.size f cd).kindOf (ps.zip us) fun _ => none) (cellsFrom (s.heap.objs.size + 1) scope.names []) (bindC (envOfC qual scope s.heap.objs.size f cd).kindOf (ps.zip us) fun _ => none) s1) :
    Inv (cxOf CX P w K mg base N qual scope f cd A outer s H E) [] (start N vs) H s1 := by
  have hpl : ps.length ≤ N.length := by have := congrArg List.length S.pre; rw [List.length_take] at this; omega
  obtain ⟨h1, tk, rfl, hk⟩ := x.done
  have noA : ∀ b : Addr, b ∉ (cxOf CX P w K mg base N qual scope f cd A outer s H E).ex := fun b z => absurd (show b ∈ ([] : List Addr) from z) (by simp)
  refine ⟨⟨e0.mod, S.kind, rfl, rfl, Nat.le_refl _, fun y z c h1 h2 => ?_, fun y hy => ?_, fun y c _ h => ?_, fun _ => hd, Around.frames_deeper e0.frames, .inr ⟨rfl, rfl⟩, fun b z => absurd z (noA b), e0.bs, e0.bsz, fun b _ _ => noA b, fun b z => absurd z (noA b), e0.funs, e0.frf⟩,
    rfl, e0.bare, Un.kept hk, ⟨_, x.toInCall.ns, fun i y v h1 h2 h3 => ?_⟩, fun y c h => ⟨_, x.cell y c h⟩, e0.hok.fresh (Nat.le_refl _), fun y c h => ?_, fun p hp => absurd (show p ∈ ([] : List (Addr × Obj)) from hp) (by simp), e0.hok.kept hk, ?_⟩
  · exact name_of_addr x.apart (PySem.mem_of_lookup h1) (PySem.mem_of_lookup h2)
  · have hy : scope.names.lookup y = some .cell ∨ scope.names.lookup y = some .free := hy
    rcases hy with hy | hy
    · exact cell_has hy
    · exact absurd rfl (S.nofree _ (PySem.mem_of_lookup hy))
  · exact Nat.le_of_lt (x.above y c (PySem.mem_of_lookup h))
  · have hi : i < vs.length := by
      unfold start at h2
      by_cases hi : i < vs.length
      · exact hi
      · rw [List.getElem?_append_right (by simpa using hi)] at h2
        rw [List.getElem?_replicate] at h2
        split at h2 <;> cases h2
    have ha : vs[i]? = some v := by
      unfold start at h2
      rw [List.getElem?_append_left (by simpa using hi), List.getElem?_map] at h2
      cases e : vs[i]? with
      | none => rw [e] at h2; cases h2
      | some a => rw [e] at h2; cases h2; rfl
    obtain ⟨u, hu, rv⟩ := r.get ha
    have hp : ps[i]? = some y := by
      rw [← S.pre, List.getElem?_take_of_lt (by omega)]; exact h1
    have ndP : ps.Nodup := by rw [← S.pre]; exact S.nd.sublist (List.take_sublist _ _)
    refine ⟨u, rv, ?_⟩
    rcases S.par y (List.mem_of_getElem? hp) with k | k
    · exact .inl ⟨k, bindL_get ndP hp hu k⟩
    · obtain ⟨c, e⟩ := cell_has (n := s.heap.objs.size + 1) k
      refine .inr ⟨.inl k, c, e, ?_⟩
      have q := x.cell y c e
      rw [bindC_get ndP hp hu (by show scope.names.lookup y ≠ _; rw [k]; decide)] at q
      exact q
  · exact e0.hok.fresh (Nat.le_of_lt (x.above y c (PySem.mem_of_lookup h)))
  · unfold start
    show _ = N.length
    rw [List.length_append, List.length_map, List.length_replicate]
    omega

/-- THE RULE: a def (or a method) of the text, by its body. The body's reading t is chosen for each entry; it is run at the parameters' values -/
theorem fn_of {CX : CXT} {P : Program} {w : World} {K : PySem.W.Frag} {mg : Str → Option Value} {base : Heap} {k : Nat} {f : Addr} {name qual : Str} {params : Arguments} {body : List Stmt} {scope : Scope} {dV kV doc pm cdv ct oc : Value} {an od : Option Addr}
    {osl : Array (Option Value)} {N ps : List Str} {sp : Sp} (lk : K.lookup f = some ⟨oc, od, .func (PySem.W.fnOf name qual params body scope dV kV doc pm an cdv ct), osl⟩) (hcd : PySem.W.codeIn K cdv qual = true) (S : FnScope N ps scope)
    (len : ∀ vs H Q E, sp vs H Q E → vs.length = ps.length)
    (hbody : ∀ (A : Around) (outer : List Env) (s : Shared) (H : Hp) (vs : List V) (Q : VK) (E : XK), Room k (A.deeper (envOfC qual scope s.heap.objs.size f cdv)) → sp vs H Q E →
      ∃ t, PSs (cxOf CX P w K mg base N qual scope f cdv A outer s H E) body t ∧ t { nx := fun _ H' => Q .non H', rt := Q } (start N vs) H) :
    FnOk P w K mg base CX (k + 1) f (PySem.W.fnOf name qual params body scope dV kV doc pm an cdv ct) ps sp := by
  refine ⟨len, fun A outer s H args us vs Q E hr e0 hb r hsp => ?_⟩
  have hl := len _ _ _ _ hsp
  have KX : K.In s.heap := e0.mod.kin.keeps fun b o e => (e0.bs b o e).1
  have lim : s.heap.NoLimit := e0.mod.nolimit.keeps fun b o e => (e0.bs b o e).1
  have hkind : ∀ y ∈ ps.zip us, scope.names.lookup y.1 = some .local ∨ (scope.names.lookup y.1 = some .cell ∧ ((cellsFrom (s.heap.objs.size + 1) scope.names []).lookup y.1).isSome = true) := fun ⟨n, v⟩ hy => by
    rcases S.par n (List.of_mem_zip hy).1 with q | q
    · exact .inl q
    · exact .inr ⟨q, PySem.W.cellsFrom_some _ _ _ (.inl q)⟩
  refine codeAny_call_function hr.depth (KX _ _ lk) rfl S.co S.gen rfl (PySem.W.codeRec_of KX hcd) (hb _ _ _ _ ?_)
  refine wpAny_newFunctionEnv_cells S.kind hkind fun env he s1 x => ?_
  subst he
  refine ⟨lim.keeps x.toInCall.keep, codeAny_func ?_⟩
  obtain ⟨t, ht, hq⟩ := hbody A outer s H vs Q E (hr.deeper _) hsp
  have I : Inv (cxOf CX P w K mg base N qual scope f cdv A outer s H E) [] (start N vs) H s1 := inv_start S hr.hd e0 hl r x
  refine wpAny_mono (ht [] s1 (start N vs) H _ I hq) (fun fl s' hs => ?_) fun e s' hs => hs
  have fin : ∀ {σ' : St} {H' : Hp} {v : V} {u : Value}, Inv (cxOf CX P w K mg base N qual scope f cdv A outer s H E) [] σ' H' s' → RelV v u → Q v H' → CE outer P w H s Q u s' :=
    fun {σ' H' v u} J rv q => ⟨v, H', J.os, J.bare, J.base, J.hok, rv, q⟩
  cases fl with
  | ret u =>
    obtain ⟨v, σ', H', J, rv, q⟩ := hs
    exact fin J rv q
  | next =>
    obtain ⟨σ', H', J, q⟩ := hs
    exact fin (v := V.non) (u := Value.none) J rfl q
  | brk =>
    obtain ⟨_, _, _, q⟩ := hs
    exact False.elim q
  | cont =>
    obtain ⟨_, _, _, q⟩ := hs
    exact False.elim q
end L2

namespace L2
open PySem PySem.Spec PyProof.Rows
section
variable {X : Cx} {x : Str} {p pos : Pos} {e : Expr} {es : List Expr} {t : TA} {id T : String} {r : List V → Hp → VK → Prop}

def tCB (r : List V → Hp → VK → Prop) (t : TA) : TE := fun σ H Q => t σ H fun vs H1 => r vs H1 Q
/-- f(e, ..), f a built-in function -/
theorem pe_callB (hc : CallR X (.builtin id) r) (hg : Gl X x) (hm : X.mg x = none) (hv : bootBuiltins x = some (.builtin id)) (ha : PA X (e :: es) t) (hn : x ≠ "__name__" := by decide) (hdb : (x == ("__debug__" : Str)) = false := by decide)
    (he : starEach (e :: es) X.env = (false, eval e X.env) :: starEach es X.env := by rfl) (hpl : (backTo pos (starEach es X.env)).any (·.1) = false := by rfl) : PE X (.Call (.Name x p) (e :: es) [] pos) (tCB r t) := by
  refine ⟨?_⟩
  intro pins s σ H Q I h
  refine wpAny_Call_Name_kw (ld_blt I hg hm hv ?_ hn hdb)
  exact PyProof.Rows.callWith_builtin1 (thn (ha pos pins s σ H _ I h) fun us s1 ⟨vs, H1, I1, r1, q1⟩ => hc pins s1 σ H1 vs us Q I1 r1 q1) he hpl
/-- T(e, ..), T a built-in type -/
theorem pe_callTy (hc : CallR X (.type T) r) (hg : Gl X x) (hm : X.mg x = none) (hv : bootBuiltins x = some (.type T)) (ha : PA X (e :: es) t) (hn : x ≠ "__name__" := by decide) (hdb : (x == ("__debug__" : Str)) = false := by decide)
    (he : starEach (e :: es) X.env = (false, eval e X.env) :: starEach es X.env := by rfl) (hpl : (backTo pos (starEach es X.env)).any (·.1) = false := by rfl) : PE X (.Call (.Name x p) (e :: es) [] pos) (tCB r t) := by
  refine ⟨?_⟩
  intro pins s σ H Q I h
  refine wpAny_Call_Name_kw (ld_blt I hg hm hv ?_ hn hdb)
  exact PyProof.Rows.callWith_type1 (thn (ha pos pins s σ H _ I h) fun us s1 ⟨vs, H1, I1, r1, q1⟩ => hc pins s1 σ H1 vs us Q I1 r1 q1) he hpl
/-- T() -/
theorem pe_callTy0 (hc : CallR X (.type T) r) (hg : Gl X x) (hm : X.mg x = none) (hv : bootBuiltins x = some (.type T)) (hn : x ≠ "__name__" := by decide) (hdb : (x == ("__debug__" : Str)) = false := by decide) :
    PE X (.Call (.Name x p) [] [] pos) (tCB r tNil) := by
  refine ⟨?_⟩
  intro pins s σ H Q I h
  refine wpAny_Call_Name_kw (ld_blt I hg hm hv ?_ hn hdb)
  exact PyProof.Rows.callWith_type0 (hc pins s σ H [] [] Q I .nil h)
end
end L2

namespace HT
open PySem PyProof.Rows

section
open PySem.SeqAt
open PySem.AutoSeq1 (wpAny_loadPart')
open PySem.MeetsSeq PySem.MeetsSeq2 PySem.MeetsSeq3

end

section
variable {prog : Program} {w : World} {A : Around} {E : Value → Shared → Prop} {s : Shared}

/-- t + u, t not empty -/
theorem cat_tup {t b : Addr} {vs ws : List Value} {Q : Value → Shared → Prop} (ht : IsTup s.heap t vs.toArray) (hb : IsTup s.heap b ws.toArray) (hv : vs ≠ [])
    (h1 : ws = [] → Q (.ref t) s) (h2 : ws ≠ [] → Q (.ref s.heap.objs.size) { s with heap := s.heap.push { cls := .type "tuple", data := .seq (vs ++ ws).toArray } })
    (hsz : vs.length + ws.length ≤ sizeLine) : wpAny (model prog w) A (binaryOp .Add (.ref t) (.ref b)) Q E s := by
  obtain ⟨⟨cls, dd, data, sl⟩, ho, hc, n, hd⟩ := id ht
  obtain ⟨⟨cls2, dd2, data2, sl2⟩, ho2, hc2, n2, hd2⟩ := id hb
  simp only at hc hd hc2 hd2
  subst hc hd hc2 hd2
  have e : vs.toArray ++ ws.toArray = (vs ++ ws).toArray := by simp
  by_cases hw : ws = []
  · exact concat_meets ⟨_, ho, rfl⟩ ⟨_, ho2, rfl⟩ noFill_tuple_add seq_tuple_add PySem.F.slot_tuple_add PySem.F.entry_tuple_add (PySem.F.args_tuple_add_2 _ _)
      (tuple_addW1 t b vs.toArray ws.toArray n n2 dd dd2 sl sl2 (by simpa using hv) (by simp [hw])) ⟨ho, ho2, h1 hw⟩
  · refine concat_meets ⟨_, ho, rfl⟩ ⟨_, ho2, rfl⟩ noFill_tuple_add seq_tuple_add PySem.F.slot_tuple_add PySem.F.entry_tuple_add (PySem.F.args_tuple_add_2 _ _)
      (tuple_addW2 t b vs.toArray ws.toArray n n2 dd dd2 sl sl2 (by simpa using hv) (by simpa using hw) (by rw [List.size_toArray, List.size_toArray]; exact hsz)) ⟨ho, ho2, ?_⟩
    rw [e]
    exact h2 hw

/-! ### t[a:b], not the whole -/
/-- a slice's bound as a place among n (d where it is left out) -/
def sIx (n d : Nat) : Option Int → Nat
  | none => d
  | some v => if v < 0 then (v + (n : Int)).toNat else min v.toNat n
theorem sIx_le (n d : Nat) (hd : d ≤ n) (o : Option Int) : sIx n d o ≤ n := by
  cases o with
  | none => exact hd
  | some v =>
    show (if v < 0 then (v + (n : Int)).toNat else min v.toNat n) ≤ n
    by_cases hv : v < 0
    · rw [if_pos hv]; omega
    · rw [if_neg hv]; exact Nat.min_le_right _ _
theorem clip_eq (v : Int) (n d : Nat) : (if v < 0 then max (v + (n : Int)) 0 else min v (n : Int)) = ((sIx n d (some v) : Nat) : Int) := by
  show (if v < 0 then max (v + (n : Int)) 0 else min v (n : Int)) = (((if v < 0 then (v + (n : Int)).toNat else min v.toNat n) : Nat) : Int)
  by_cases hv : v < 0
  · simp only [if_pos hv]; omega
  · simp only [if_neg hv]; omega
theorem adjust_gen (lo hi : Option Int) (n : Nat) : Builtin.Slice.sliceAdjust lo hi 1 (n : Int) = (((sIx n 0 lo : Nat) : Int), ((sIx n n hi : Nat) : Int)) := by
  have h1 : ¬ ((1 : Int) < 0) := by omega
  unfold Builtin.Slice.sliceAdjust
  simp only [h1, if_false]
  refine Prod.ext ?_ ?_
  · cases lo with
    | none => rfl
    | some v => exact clip_eq v n 0
  · cases hi with
    | none => rfl
    | some v => exact clip_eq v n n
theorem places_gen (i j : Nat) : Builtin.Slice.slicePlaces (i : Int) (j : Int) 1 = j - i := by
  unfold Builtin.Slice.slicePlaces
  have h1 : (1 : Int) > 0 := by omega
  simp only [h1, if_true, Int.ediv_one]
  split <;> omega
theorem slicePart_ {v : Value} {o : Option Int} {Q : Option Int → Shared → Prop} (p : IsPart v o) (h : Q o s) : wpAny (model prog w) A (Builtin.Slice.slicePartIndex v) Q E s := by
  cases p with
  | none => exact slicePart_none h
  | int i t => exact slicePart_int h
theorem sliceApplied_gen {sl : Addr} {vl vu : Value} {lo hi : Option Int} {n : Nat} {Q : Int × Int × Nat → Shared → Prop} (hs : s.heap.IsSliceOf sl vl vu .none) (pl : IsPart vl lo) (pu : IsPart vu hi)
    (h : Q (((sIx n 0 lo : Nat) : Int), 1, sIx n n hi - sIx n 0 lo) s) : wpAny (model prog w) A (Builtin.Slice.sliceApplied (.ref sl) (pure (n : Int))) Q E s := by
  obtain ⟨os, hos, hcs, hds⟩ := id hs
  unfold Builtin.Slice.sliceApplied Builtin.Slice.sliceFields
  refine wpAny_bind (wpAny_bind (wpAny_field hos hds (x := vl) rfl (wpAny_bind (wpAny_field hos hds (x := vu) rfl (wpAny_bind (wpAny_field hos hds (x := .none) rfl (wpAny_pure ?_)))))))
  refine wpAny_bind (slicePart_none ?_)
  show wpAny _ _ (if ((1 : Int) == 0) = true then _ else _) _ _ s
  rw [if_neg (by decide)]
  refine wpAny_bind (slicePart_ pl (wpAny_bind (slicePart_ pu (wpAny_bind (wpAny_pure ?_)))))
  show wpAny _ _ (match Builtin.Slice.sliceAdjust lo hi 1 (n : Int) with | (lo, hi) => pure (lo, (1 : Int), Builtin.Slice.slicePlaces lo hi 1)) _ _ s
  rw [adjust_gen lo hi n]
  show wpAny _ _ (pure (((sIx n 0 lo : Nat) : Int), (1 : Int), Builtin.Slice.slicePlaces ((sIx n 0 lo : Nat) : Int) ((sIx n n hi : Nat) : Int) 1)) _ _ s
  rw [places_gen]
  exact wpAny_pure h
theorem pick_gen (xs : Array Value) (i k : Nat) : ((List.range k).filterMap fun (m : Nat) => xs[((i : Int) + (m : Int) * 1).toNat]?).toArray = ((xs.toList.drop i).take k).toArray := by
  have e : (fun (m : Nat) => xs[((i : Int) + (m : Int) * 1).toNat]?) = fun m => xs[i + m]? := by
    funext m
    have : ((i : Int) + (m : Int) * 1).toNat = i + m := by omega
    rw [this]
  rw [e]
  have := pick_run xs i k
  rw [List.filterMap_map] at this
  have e2 : ((fun x => xs[x]?) ∘ fun x => i + x) = fun m => xs[i + m]? := rfl
  rw [e2] at this
  rw [this]

theorem getItem_tuple_cut {t sl : Addr} {items : Array Value} {vl vu : Value} {lo hi : Option Int} {Q : Value → Shared → Prop} (ht : IsTup s.heap t items) (hs : s.heap.IsSliceOf sl vl vu .none) (pl : IsPart vl lo) (pu : IsPart vu hi)
    (hw : ¬ (sIx items.size 0 lo = 0 ∧ sIx items.size items.size hi = items.size))
    (h : Q (.ref s.heap.objs.size) { s with heap := s.heap.push { cls := .type "tuple", data := .seq ((items.toList.drop (sIx items.size 0 lo)).take (sIx items.size items.size hi - sIx items.size 0 lo)).toArray } })
    (hsz : items.size ≤ sizeLine) : wpAny (model prog w) A (getItem (.ref t) (.ref sl)) Q E s := by
  have htake : sizeOk (.seq ((items.toList.drop (sIx items.size 0 lo)).take (sIx items.size items.size hi - sIx items.size 0 lo)).toArray) := by
    show ((items.toList.drop (sIx items.size 0 lo)).take (sIx items.size items.size hi - sIx items.size 0 lo)).toArray.size ≤ sizeLine
    rw [List.size_toArray, List.length_take, List.length_drop, Array.length_toList]
    omega
  have hj : sIx items.size items.size hi ≤ items.size := sIx_le _ _ (Nat.le_refl _) hi
  obtain ⟨os, hos, hcs, hds⟩ := id hs
  have hTs : s.TypeIs (.ref sl) "slice" := ⟨os, hos, hcs⟩
  unfold getItem
  try with_reducible refine wpAny_holding ?_
  first | refine wpAny_bind (wpAny_pure ?_) | skip
  refine wpAny_bind (wpAny_sequenceKey ht.typeIs (by decide) ?_)
  refine wpAny_bind (wpAny_callSpecial?_slot (name := Str.ofString "__getitem__") ht.typeIs PyProof.Rows.slot_tuple_getitem
    (wpAny_call_entry PyProof.Rows.slot_tuple_getitem ht.typeIs entry_tuple_getitem ?_ (args_tuple_getitem _ _)))
  show wpAny _ _ (Builtin.Tuple.tupleItemsOf (.ref t) >>= _) _ _ s
  refine wpAny_bind (tupleItemsOf_ ht ?_)
  refine wpAny_bind (wpAny_typeOf hTs ?_)
  rw [if_pos (by decide)]
  refine wpAny_bind (sliceApplied_gen hs pl pu ?_)
  have hno : ¬ ((((sIx items.size 0 lo : Nat) : Int) == 0 && (1 : Int) == 1 && (sIx items.size items.size hi - sIx items.size 0 lo) == items.size) = true) := by
    intro q
    rw [Bool.and_eq_true, Bool.and_eq_true] at q
    have q1 : ((sIx items.size 0 lo : Nat) : Int) = 0 := eq_of_beq q.1.1
    have q2 : sIx items.size items.size hi - sIx items.size 0 lo = items.size := eq_of_beq q.2
    exact hw ⟨by omega, by omega⟩
  show wpAny _ _ (if (((sIx items.size 0 lo : Nat) : Int) == 0 && (1 : Int) == 1 && (sIx items.size items.size hi - sIx items.size 0 lo) == items.size) = true then _ else _) _ _ s
  rw [if_neg hno, pick_gen]
  first
    | exact wpAny_bind (m := Builtin.Tuple.tupleExact _) (wpAny_newObj_type (wpAny_pure ⟨_, rfl, wpAny_pure h⟩) htake)
    | exact wpAny_bind (m := Builtin.Tuple.tupleExact _) (wpAny_newObj_type (wpAny_bind (wpAny_pure (wpAny_pure ⟨_, rfl, wpAny_pure h⟩))) htake)
    | exact wpAny_bind (wpAny_bind (m := Builtin.Tuple.tupleExact _) (wpAny_newObj_type (wpAny_pure (wpAny_pure ⟨_, rfl, wpAny_pure h⟩)) htake))
    | exact wpAny_bind (wpAny_bind (m := Builtin.Tuple.tupleExact _) (wpAny_newObj_type (wpAny_pure ⟨_, rfl, wpAny_pure h⟩) htake))
end
end HT

namespace L2
open PySem PySem.Spec PyProof.Rows

/-! ### the parts of a slice -/
abbrev TO := St → Hp → (Option Int → Hp → Prop) → Prop
/-- a slice's part (left out, or an int) -/
structure PO (X : Cx) (e : Option Expr) (t : TO) : Prop where
  run : ∀ (pins : List (Addr × Obj)) (s : Shared) (σ : St) (H : Hp) (Q : Option Int → Hp → Prop), Inv X pins σ H s → t σ H Q →
    wpAny (model X.prog X.w) X.A (evalPart e X.env) (fun u s' => ∃ o H', Inv X pins σ H' s' ∧ IsPart u o ∧ Q o H') X.xe s
instance {X : Cx} {e : Option Expr} {t : TO} : CoeFun (PO X e t) (fun _ => ∀ (pins : List (Addr × Obj)) (s : Shared) (σ : St) (H : Hp) (Q : Option Int → Hp → Prop), Inv X pins σ H s → t σ H Q →
    wpAny (model X.prog X.w) X.A (evalPart e X.env) (fun u s' => ∃ o H', Inv X pins σ H' s' ∧ IsPart u o ∧ Q o H') X.xe s) := ⟨PO.run⟩

def tNoPart : TO := fun _ H Q => Q none H
def tPart (t : TE) : TO := fun σ H Q => t σ H fun x H1 => ∃ i, x = .int i ∧ Q (some i) H1

section
variable {X : Cx} {e : Expr} {te : TE} {lo hi : Option Expr} {tl th : TO} {pos p2 : Pos}

theorem po_none : PO X none tNoPart := by
  refine ⟨?_⟩
  intro pins s σ H Q I h
  rw [evalPart_none]
  exact wpAny_pure ⟨none, H, I, .none, h⟩
theorem po_some (h : PE X e te) : PO X (some e) (tPart te) := by
  refine ⟨?_⟩
  intro pins s σ H Q I hw
  rw [evalPart_some]
  refine thn (h pins s σ H _ I hw) fun u s1 ⟨x, H1, I1, r1, q1⟩ => ?_
  obtain ⟨i, rfl, q⟩ := q1
  obtain ⟨t, rfl⟩ := r1
  exact ⟨some i, H1, I1, .int i t, q⟩

/-- what a slice of a value is, by values: the slice object stands at sl -/
def SlR (X : Cx) (r : V → Option Int → Option Int → Hp → VK → Prop) : Prop :=
  ∀ (pins : List (Addr × Obj)) (s : Shared) (σ : St) (H : Hp) (x : V) (v vl vu : Value) (lo hi : Option Int) (sl : Addr) (Q : VK), Inv X pins σ H s → RelV x v → s.heap.IsSliceOf sl vl vu .none → IsPart vl lo → IsPart vu hi → r x lo hi H Q →
    ∃ T id, typeLookup (.type T) "__getitem__" = pure (some (.builtin id)) ∧ s.TypeIs v T ∧ wpAny (model X.prog X.w) X.A (getItem v (.ref sl)) (EP X pins σ Q) X.xe s
def tSl (r : V → Option Int → Option Int → Hp → VK → Prop) (te : TE) (tl th : TO) : TE := fun σ H Q => te σ H fun x H1 => tl σ H1 fun l H2 => th σ H2 fun u H3 => r x l u H3 Q
/-- a[lo:hi], any a -/
theorem pe_slice {r : V → Option Int → Option Int → Hp → VK → Prop} (hr : SlR X r) (he : PE X e te) (hl : PO X lo tl) (hu : PO X hi th) : PE X (.Subscript e (.Slice lo hi none p2) pos) (tSl r te tl th) := by
  refine ⟨?_⟩
  intro pins s σ H Q I h
  refine Subscript_ (thn (he pins s σ H _ I h) fun v s1 ⟨x, H1, I1, r1, q1⟩ => ?_)
  refine wpAny_Slice (thn (hl pins s1 σ H1 _ I1 q1) fun vl s2 ⟨l, H2, I2, pl, q2⟩ => thn (hu pins s2 σ H2 _ I2 q2) fun vu s3 ⟨u, H3, I3, pu, q3⟩ => ?_)
  rw [evalPart_none]
  refine wpAny_pure ?_
  have I4 : Inv X pins σ H3 { s3 with heap := s3.heap.push { cls := .type "slice", data := .fields #[vl, vu, .none] } } := I3.kept (t' := s3.toks) fun b ob q => Heap.get?_push_of_some _ q
  obtain ⟨T, id, hT, ht, hg⟩ := hr pins { s3 with heap := s3.heap.push { cls := .type "slice", data := .fields #[vl, vu, .none] } } σ H3 x v vl vu l u s3.heap.objs.size Q I4 r1 (Heap.IsSliceOf.new ..) pl pu q3
  show wpAny (model X.prog X.w) X.A (subscriptTail e (.Slice lo hi none p2) v (.ref s3.heap.objs.size)) (EP X pins σ Q) X.xe { s3 with heap := s3.heap.push { cls := .type "slice", data := .fields #[vl, vu, .none] } }
  exact tail_any (ops := [.ref s3.heap.objs.size, v]) ht hT hg (by with_unfolding_all rfl)

/-- the items of xs[lo:hi] -/
def cutV (xs : List V) (lo hi : Option Int) : List V := (xs.drop (HT.sIx xs.length 0 lo)).take (HT.sIx xs.length xs.length hi - HT.sIx xs.length 0 lo)
theorem cutV_length (xs : List V) (lo hi : Option Int) : (cutV xs lo hi).length ≤ xs.length := by
  unfold cutV
  rw [List.length_take, List.length_drop]
  omega
/-- t[lo:hi], not the whole of it (the whole would be t itself) -/
def rSlT (K : PySem.W.Frag) : V → Option Int → Option Int → Hp → VK → Prop := fun x lo hi H Q => ∃ a xs, x = .ref a ∧ SqT K H a xs ∧
  ¬ (HT.sIx xs.length 0 lo = 0 ∧ HT.sIx xs.length xs.length hi = xs.length) ∧ ∀ p, H p = none → Q (.ref p) (upd H p (.tup (cutV xs lo hi)))
theorem sl_tup : SlR X (rSlT X.K) := by
  intro pins s σ H x v vl vu lo hi sl Q I rx hs pl pu h
  obtain ⟨a, xs, rfl, hx, hw, q⟩ := h
  cases rx
  obtain ⟨its, r, ht, hz⟩ := I.tuple hx
  have hlen : its.toArray.size = xs.length := by rw [List.size_toArray]; exact r.length.symm
  refine ⟨"tuple", _, PyProof.Rows.slot_tuple_getitem.lookup, ht.typeIs, ?_⟩
  refine HT.getItem_tuple_cut ht hs pl pu (by rw [hlen]; exact hw) ?_ (by rw [hlen]; exact hz)
  rw [hlen]
  refine ⟨.ref s.heap.objs.size, _, I.laid (t' := s.toks) (o := .tup (cutV xs lo hi)) (fun b ob q => Heap.get?_push_of_some _ q) (Nat.le_refl _) ?_, rfl, q _ (I.hok.fresh (Nat.le_refl _))⟩
  exact ⟨Nat.le_trans (cutV_length xs lo hi) hz, _, (r.drop (HT.sIx xs.length 0 lo)).take (HT.sIx xs.length xs.length hi - HT.sIx xs.length 0 lo), IsTup.new _ _⟩

/-! ### t < u, t + u -/
/-- t + u, t not empty: u empty gives t itself -/
def rCatT (K : PySem.W.Frag) : R2 := fun x y H Q => ∃ a b xs ys, x = .ref a ∧ y = .ref b ∧ SqT K H a xs ∧ SqT K H b ys ∧ xs ≠ [] ∧ xs.length + ys.length ≤ sizeLine ∧
  (ys = [] → Q (.ref a) H) ∧ (ys ≠ [] → ∀ p, H p = none → Q (.ref p) (upd H p (.tup (xs ++ ys))))
theorem Vals.nil_iff {xs : List V} {us : List Value} (r : Vals xs us) : us = [] ↔ xs = [] := by
  cases r with
  | nil => simp
  | cons _ _ => simp
theorem op_catT : OpR X (binaryOp .Add) (rCatT X.K) := by
  intro pins s σ H x y v u Q I rx ry h
  obtain ⟨a, b, xs, ys, rfl, rfl, ha, hb, hx, hz, q1, q2⟩ := h
  cases rx
  cases ry
  obtain ⟨its, r1, p1, _⟩ := I.tuple ha
  obtain ⟨its2, r2, p2, _⟩ := I.tuple hb
  refine HT.cat_tup p1 p2 (fun z => hx (r1.nil_iff.mp z)) (fun z => ⟨.ref a, H, I, rfl, q1 (r2.nil_iff.mp z)⟩) (fun z => ?_) (by rw [← r1.length, ← r2.length]; exact hz)
  refine ⟨.ref s.heap.objs.size, _, I.laid (t' := s.toks) (o := .tup (xs ++ ys)) (fun b ob q => Heap.get?_push_of_some _ q) (Nat.le_refl _) ?_, rfl, q2 (fun w => z (r2.nil_iff.mpr w)) _ (I.hok.fresh (Nat.le_refl _))⟩
  exact ⟨by rw [List.length_append]; exact hz, _, r1.append r2, IsTup.new _ _⟩
end
end L2

namespace L2
open PySem PySem.Spec PyProof.Rows

/-! ### places -/
/-- the place that an index of any sign means -/
def ixN (n : Nat) (i : Int) : Option Nat := if 0 ≤ i then (if i < n then some i.toNat else none) else if -(n : Int) ≤ i then some (i + n).toNat else none
def atI {α : Type} (xs : List α) (i : Int) : Option α := (ixN xs.length i).bind fun j => xs[j]?
theorem ixN_seq {n : Nat} {i : Int} {j : Nat} (h : ixN n i = some j) : seqIndex? i n = some j ∧ j < n ∧ -(n : Int) ≤ i ∧ i < n := by
  unfold ixN at h
  by_cases h0 : 0 ≤ i
  · rw [if_pos h0] at h
    by_cases h1 : i < n
    · rw [if_pos h1] at h
      have e : i.toNat = j := Option.some.inj h
      exact ⟨by rw [seqIndex_of h0 h1, e], by omega, by omega, h1⟩
    · rw [if_neg h1] at h; cases h
  · rw [if_neg h0] at h
    by_cases h1 : -(n : Int) ≤ i
    · rw [if_pos h1] at h
      have e : (i + n).toNat = j := Option.some.inj h
      exact ⟨by rw [seqIndex_neg (by omega) h1, e], by omega, h1, by omega⟩
    · rw [if_neg h1] at h; cases h
theorem atI_get {α : Type} {xs : List α} {i : Int} {v : α} (h : atI xs i = some v) : ∃ j, seqIndex? i xs.length = some j ∧ xs[j]? = some v ∧ j < xs.length ∧ -(xs.length : Int) ≤ i ∧ i < xs.length := by
  unfold atI at h
  cases e : ixN xs.length i with
  | none => rw [e] at h; cases h
  | some j =>
    rw [e] at h
    obtain ⟨h1, h2, h3, h4⟩ := ixN_seq e
    exact ⟨j, h1, h, h2, h3, h4⟩
theorem atI_nat {α : Type} {xs : List α} {j : Nat} {v : α} (h : xs[j]? = some v) : atI xs (j : Int) = some v := by
  have hj : j < xs.length := (List.getElem?_eq_some_iff.mp h).1
  have e : ixN xs.length (j : Int) = some j := by
    unfold ixN
    rw [if_pos (by omega), if_pos (by omega)]; simp
  unfold atI; rw [e]; exact h
/-! ### what may be subscripted -/
/-- what stands as an index of a plain subscript -/
def PlainIx (b : Expr) : Prop := ∀ o i, subscripted b false o i = operate [o, i] (getItem o i)
/-- a subscript by values -/
def IxR (X : Cx) (r : R2) : Prop :=
  ∀ (value slice : Expr) (pins : List (Addr × Obj)) (s : Shared) (σ : St) (H : Hp) (x y : V) (v u : Value) (Q : VK), Inv X pins σ H s → RelV x v → RelV y u → r x y H Q →
    subscripted slice false v u = operate [v, u] (getItem v u) → wpAny (model X.prog X.w) X.A (subscriptTail value slice v u) (EP X pins σ Q) X.xe s
/-- a call of a builtin's method by values: the receiver, the arguments -/
def MtR (X : Cx) (id : String) (r : V → List V → Hp → VK → Prop) : Prop :=
  ∀ (pins : List (Addr × Obj)) (s : Shared) (σ : St) (H : Hp) (x : V) (xs : List V) (v : Value) (us : List Value) (Q : VK), Inv X pins σ H s → RelV x v → Vals xs us → r x xs H Q →
    wpAny (model X.prog X.w) X.A (call (.builtin id) (v :: us)) (EP X pins σ Q) X.xe s
section
variable {X : Cx} {a b : Expr} {ta tb : TE} {pos : Pos}
/-- a[b] -/
theorem pe_ix {r : R2} (hr : IxR X r) (ha : PE X a ta) (hb : PE X b tb) (hs : PlainIx b) : PE X (.Subscript a b pos) (tOp r ta tb) := by
  refine ⟨?_⟩
  intro pins s σ H Q I h
  exact Subscript_ (binT ha hb I h fun v u s2 x y H2 I2 rx ry q => hr a b pins s2 σ H2 x y v u Q I2 rx ry q (hs _ _))

def rIxL (K : PySem.W.Frag) : R2 := fun x y H Q => ∃ p xs i v, x = .ref p ∧ y = .int i ∧ SqL K H p xs ∧ atI xs i = some v ∧ Q v H
def rIxT (K : PySem.W.Frag) : R2 := fun x y H Q => ∃ p xs i v, x = .ref p ∧ y = .int i ∧ SqT K H p xs ∧ atI xs i = some v ∧ Q v H
def rIxS : R2 := fun x y H Q => ∃ z i c, x = .str z ∧ y = .int i ∧ z.length ≤ sizeLine ∧ atI z.cps.toList i = some c ∧ Q (.str ⟨#[c]⟩) H
theorem ix_list : IxR X (rIxL X.K) := by
  intro value slice pins s σ H x y v u Q I rx ry h hs
  obtain ⟨p, xs, i, z, rfl, rfl, hq, he, q⟩ := h
  cases rx
  obtain ⟨t, rfl⟩ := ry
  obtain ⟨its, r, pl, hz⟩ := I.list hq
  obtain ⟨j, h1, h2, h3, h4, h5⟩ := atI_get he
  obtain ⟨w, ew, rw'⟩ := r.get h2
  have hl := r.length
  have hn := line63
  have fin : EP X pins σ Q w s := ⟨z, H, I, rw', q⟩
  by_cases h0 : 0 ≤ i
  · have hj : i.toNat = j := by
      rw [seqIndex_of h0 h5] at h1
      exact Option.some.inj h1
    exact item_listR pl.isList h0 (by omega) (by rw [hj]; simpa using ew) fin hs
  · have hj : (i + (its.toArray.size : Int)).toNat = j := by
      rw [seqIndex_neg (by omega) h4] at h1
      rw [List.size_toArray, ← hl]
      exact Option.some.inj h1
    exact subscriptTail_builtinR (x := w) pl.isList.typeIs slot_list_getitem.lookup
      (wpAny_getItem_list_neg (Q := fun r s' => r = w ∧ EP X pins σ Q r s') pl.isList (by omega) (by rw [List.size_toArray] <;> omega) (by omega) (by rw [hj]; simpa using ew) ⟨rfl, fin⟩) hs
theorem ix_tup : IxR X (rIxT X.K) := by
  intro value slice pins s σ H x y v u Q I rx ry h hs
  obtain ⟨p, xs, i, z, rfl, rfl, hq, he, q⟩ := h
  cases rx
  obtain ⟨t, rfl⟩ := ry
  obtain ⟨its, r, pl, hz⟩ := I.tuple hq
  obtain ⟨j, h1, h2, h3, h4, h5⟩ := atI_get he
  obtain ⟨w, ew, rw'⟩ := r.get h2
  have hl := r.length
  have hn := line63
  have fin : EP X pins σ Q w s := ⟨z, H, I, rw', q⟩
  exact subscriptTail_builtinR (x := w) pl.typeIs slot_tuple_getitem.lookup
    (getItem_tuple (j := j) (Q := fun r s' => r = w ∧ EP X pins σ Q r s') pl (by omega) (by omega) (by rw [List.size_toArray, ← hl]; exact h1) (by simpa using ew) ⟨rfl, fin⟩) hs
theorem ix_str : IxR X rIxS := by
  intro value slice pins s σ H x y v u Q I rx ry h hs
  obtain ⟨z, i, c, rfl, rfl, hz, he, q⟩ := h
  obtain ⟨t, rfl⟩ := rx
  obtain ⟨t', rfl⟩ := ry
  obtain ⟨j, h1, h2, h3, h4, h5⟩ := atI_get he
  have hl : z.cps.toList.length = z.length := by simp [Str.length]
  rw [hl] at h1 h4 h5
  have hn := line63
  exact tail_any (typeIs_str s z t) slot_str_getitem.lookup (getItem_str (c := c) (by
    have e1 : decide (i < -(2 ^ 63 : Int)) = false := decide_eq_false (by omega)
    have e2 : decide (i ≥ 2 ^ 63) = false := decide_eq_false (by omega)
    rw [e1, e2, Bool.or_false]) (by rw [h1]; simpa using h2) ⟨.str ⟨#[c]⟩, H, I.tok _, ⟨_, rfl⟩, q⟩) hs
/-! ### xs[i] = v, any sign -/
/-- the list's object behind a store -/
theorem mapSeq_set (its : List Value) (n j : Nat) (u : Value) : Obj.mapSeq (·.setIfInBounds j u) { cls := .type "list", data := .seq its.toArray n } = { cls := .type "list", data := .seq (its.set j u).toArray n } := by
  simp [Obj.mapSeq]
theorem Inv.lst {pins : List (Addr × Obj)} {σ : St} {H : Hp} {s : Shared} {p : Addr} {xs : List V} (I : Inv X pins σ H s) (h : H p = some (.lst xs)) :
    ∃ (its : List Value) (n : Nat), Vals xs its ∧ s.heap.get? p = some { cls := .type "list", data := .seq its.toArray n } ∧ xs.length ≤ sizeLine := by
  obtain ⟨z, its, n, r, e⟩ := I.hok p _ h
  exact ⟨its, n, r, e, z⟩
/-- the list at p is written by an update of its object -/
theorem Inv.lstUpd {pins : List (Addr × Obj)} {σ : St} {H : Hp} {s : Shared} {p : Addr} {xs ys : List V} {its its' : List Value} {n n' : Nat} {f : Obj → Obj} (I : Inv X pins σ H s) (h : H p = some (.lst xs))
    (ho : s.heap.get? p = some { cls := .type "list", data := .seq its.toArray n }) (hf : f { cls := .type "list", data := .seq its.toArray n } = { cls := .type "list", data := .seq its'.toArray n' }) (r : Vals ys its') (hz : ys.length ≤ sizeLine) (t : Nat) :
    Inv X pins σ (upd H p (.lst ys)) { s with heap := s.heap.update p f, toks := t } := by
  have e : (s.heap.update p f).get? p = some { cls := .type "list", data := .seq its'.toArray n' } := by
    rw [Heap.get?_update_self f ho (by rw [hf] <;> rfl), hf]
  refine I.write (x := p) (e := p) (by rw [h]; trivial) (.inl rfl) (fun b u hb q => (Heap.get?_update_other _ _ (Ne.symm hb)).trans q) ⟨_, e⟩ ?_
  exact ⟨hz, its', n', r, e⟩
def rSetL : V → V → V → Hp → (Hp → Prop) → Prop := fun o i v H Q => ∃ p xs k j, o = .ref p ∧ i = .int k ∧ H p = some (.lst xs) ∧ ixN xs.length k = some j ∧ Q (upd H p (.lst (xs.set j v)))
theorem set_list : PSet X rSetL := by
  intro pins s σ H o i v ov iv u Q I ro ri rv h
  obtain ⟨p, xs, k, j, rfl, rfl, hp, hj, q⟩ := h
  cases ro
  obtain ⟨t, rfl⟩ := ri
  obtain ⟨its, n, r, ho, hz⟩ := I.lst hp
  obtain ⟨h1, h2, h3, h4⟩ := ixN_seq hj
  have hl := r.length
  have hn := line63
  have I' : Inv X pins σ (upd H p (.lst (xs.set j v))) { s with heap := s.heap.update p (Obj.mapSeq (·.setIfInBounds j u)) } :=
    I.lstUpd hp ho (mapSeq_set its n j u) (r.set rv j) (by rw [List.length_set]; exact hz) s.toks
  by_cases h0 : 0 ≤ k
  · have hk : k.toNat = j := by
      rw [seqIndex_of h0 h4] at h1
      exact Option.some.inj h1
    exact PySem.W.ki_setAt ho h0 (by omega) (by rw [List.size_toArray, ← hl]; exact h4) (by rw [hk]; exact ⟨_, I', q⟩)
  · have hk : (k + (its.toArray.size : Int)).toNat = j := by
      rw [seqIndex_neg (by omega) h3] at h1
      rw [List.size_toArray, ← hl]
      exact Option.some.inj h1
    exact PySem.W.ki_setBack ho (by omega) (by rw [List.size_toArray, ← hl]; exact h3) (by omega) (by rw [hk]; exact ⟨_, I', q⟩)

/-! ### slices -/
theorem slice_bounds (lo hi : Option Int) (n : Nat) : (sliceBounds lo hi none n).1 = ((HT.sIx n 0 lo : Nat) : Int) ∧ (sliceBounds lo hi none n).2.1 = ((HT.sIx n n hi : Nat) : Int) ∧ (sliceBounds lo hi none n).2.2 = 1 := by
  refine ⟨?_, ?_, rfl⟩
  · cases lo with
    | none => simp [sliceBounds, HT.sIx]
    | some i =>
      simp only [sliceBounds, HT.sIx, Option.getD_none, show (1 : Int) > 0 by decide, if_true]
      by_cases h : i < 0
      · simp only [h, if_true] <;> omega
      · simp only [h, if_false] <;> omega
  · cases hi with
    | none => simp [sliceBounds, HT.sIx]
    | some i =>
      simp only [sliceBounds, HT.sIx, Option.getD_none, show (1 : Int) > 0 by decide, if_true]
      by_cases h : i < 0
      · simp only [h, if_true] <;> omega
      · simp only [h, if_false] <;> omega
theorem slicePick_cut (its : List Value) (lo hi : Option Int) : slicePick its.toArray lo hi none = ((its.drop (HT.sIx its.length 0 lo)).take (HT.sIx its.length its.length hi - HT.sIx its.length 0 lo)).toArray := by
  obtain ⟨h1, h2, h3⟩ := slice_bounds lo hi its.toArray.size
  unfold slicePick
  rw [h1, h2, h3]
  simp only [sliceRange_one, pick_run, List.size_toArray] <;> rfl
/-- xs[lo:hi] of a list: a new list -/
def rSlL (K : PySem.W.Frag) : V → Option Int → Option Int → Hp → VK → Prop := fun x lo hi H Q => ∃ a xs, x = .ref a ∧ SqL K H a xs ∧ ∀ p, H p = none → Q (.ref p) (upd H p (.lst (cutV xs lo hi)))
theorem sl_list : SlR X (rSlL X.K) := by
  intro pins s σ H x v vl vu lo hi sl Q I rx hs pl pu h
  obtain ⟨a, xs, rfl, hx, q⟩ := h
  cases rx
  obtain ⟨its, r, ht, hz⟩ := I.list hx
  have hlen := r.length
  refine ⟨"list", _, slot_list_getitem.lookup, ht.isList.typeIs, ?_⟩
  refine wpAny_getItem_list_slice ht.isList hs pl pu .none (by simp) ?_ (by rw [List.size_toArray] <;> omega)
  rw [slicePick_cut, ← hlen]
  refine ⟨.ref s.heap.objs.size, _, I.laid (t' := s.toks) (o := .lst (cutV xs lo hi)) (fun b ob q => Heap.get?_push_of_some _ q) (Nat.le_refl _) ?_, rfl, q _ (I.hok.fresh (Nat.le_refl _))⟩
  exact ⟨Nat.le_trans (cutV_length xs lo hi) hz, _, 0, (r.drop (HT.sIx xs.length 0 lo)).take (HT.sIx xs.length xs.length hi - HT.sIx xs.length 0 lo), Heap.get?_push_size _ rfl⟩

/-! ### in, not in: flat items -/
def flatV : V → Bool
  | .non => true
  | .bl _ => true
  | .int _ => true
  | .str _ => true
  | _ => false
/-- == of flat values -/
def eqV : V → V → Bool
  | .non, .non => true
  | .bl a, .bl b => a == b
  | .bl a, .int b => (if a then 1 else 0) == b
  | .int a, .bl b => a == (if b then 1 else 0)
  | .int a, .int b => a == b
  | .str a, .str b => a == b
  | _, _ => false
theorem eqAt_V {A : Around} {s : Shared} {y x : V} {u v : Value} (ry : RelV y u) (rx : RelV x v) (fy : flatV y = true) (fx : flatV x = true) : SeqAt.EqAt A s u v (eqV y x) := by
  cases y with
  | non =>
    cases ry
    cases x with
    | non => cases rx; exact SeqAt.EqAt.same _
    | bl b => cases rx; exact SeqAt.EqAt.none_bool b
    | int b => obtain ⟨t, rfl⟩ := rx; exact SeqAt.EqAt.none_int b t
    | str b => obtain ⟨t, rfl⟩ := rx; exact SeqAt.EqAt.none_str b t
    | _ => exact absurd (show false = true from fx) Bool.false_ne_true
  | bl a =>
    cases ry
    cases x with
    | non => cases rx; exact SeqAt.EqAt.bool_none a
    | bl b => cases rx; exact SeqAt.EqAt.bool_bool a b
    | int b => obtain ⟨t, rfl⟩ := rx; exact SeqAt.EqAt.bool_int a b t
    | str b => obtain ⟨t, rfl⟩ := rx; exact SeqAt.EqAt.bool_str a b t
    | _ => exact absurd (show false = true from fx) Bool.false_ne_true
  | int a =>
    obtain ⟨t', rfl⟩ := ry
    cases x with
    | non => cases rx; exact SeqAt.EqAt.int_none a t'
    | bl b => cases rx; exact SeqAt.EqAt.int_bool a t' b
    | int b => obtain ⟨t, rfl⟩ := rx; exact SeqAt.EqAt.int_int a t' b t
    | str b => obtain ⟨t, rfl⟩ := rx; exact SeqAt.EqAt.int_str a t' b t
    | _ => exact absurd (show false = true from fx) Bool.false_ne_true
  | str a =>
    obtain ⟨t', rfl⟩ := ry
    cases x with
    | non => cases rx; exact SeqAt.EqAt.str_none a t'
    | bl b => cases rx; exact SeqAt.EqAt.str_bool a t' b
    | int b => obtain ⟨t, rfl⟩ := rx; exact SeqAt.EqAt.str_int a t' b t
    | str b => obtain ⟨t, rfl⟩ := rx; exact SeqAt.EqAt.str_str a t' b t
    | _ => exact absurd (show false = true from fx) Bool.false_ne_true
  | _ => exact absurd (show false = true from fy) Bool.false_ne_true
/-- the items' answers, read off the values (a value's own answer does not lean on its token) -/
def eqU (x : V) (u : Value) : Bool := match u with
  | .none => eqV .non x
  | .bool b => eqV (.bl b) x
  | .int i _ => eqV (.int i) x
  | .str z _ => eqV (.str z) x
  | _ => false
theorem eqU_of {x y : V} {u : Value} (r : RelV y u) (f : flatV y = true) : eqU x u = eqV y x := by
  cases y with
  | non => cases r; rfl
  | bl b => cases r; rfl
  | int i => obtain ⟨t, rfl⟩ := r; rfl
  | str z => obtain ⟨t, rfl⟩ := r; rfl
  | _ => exact absurd (show false = true from f) Bool.false_ne_true
theorem any_eqU {x : V} : ∀ {xs : List V} {us : List Value}, Vals xs us → xs.all flatV = true → us.any (eqU x) = xs.any fun y => eqV y x
  | _, _, .nil, _ => rfl
  | y :: xs, u :: us, .cons r t, f => by
    rw [List.all_cons, Bool.and_eq_true] at f
    rw [List.any_cons, List.any_cons, eqU_of r f.1, any_eqU t f.2]
theorem mem_eqAt {A : Around} {s : Shared} {x : V} {v : Value} (rx : RelV x v) (fx : flatV x = true) : ∀ {xs : List V} {us : List Value}, Vals xs us → xs.all flatV = true → ∀ u ∈ us, SeqAt.EqAt A s u v (eqU x u)
  | _, _, .nil, _ => fun u hu => by cases hu
  | y :: xs, u :: us, .cons r t, f => fun u' hu => by
    rw [List.all_cons, Bool.and_eq_true] at f
    rcases List.mem_cons.mp hu with rfl | hu
    · rw [eqU_of r f.1]; exact eqAt_V r rx f.1 fx
    · exact mem_eqAt rx fx t f.2 u' hu
def inV (x : V) (xs : List V) : Bool := xs.any fun y => eqV y x
/-- x in a list or tuple of flat items -/
def rIn (K : PySem.W.Frag) (neg : Bool) : R2 := fun x y H Q => ∃ p xs, y = .ref p ∧ (SqL K H p xs ∨ SqT K H p xs) ∧ flatV x = true ∧ xs.all flatV = true ∧ Q (.bl (if neg then !inV x xs else inV x xs)) H
theorem op_in_seq : OpR X (compareOp .In) (rIn X.K false) := by
  intro pins s σ H x y v u Q I rx ry h
  obtain ⟨p, xs, rfl, hq, fx, fs, q⟩ := h
  cases ry
  rcases hq with hq | hq
  · obtain ⟨its, r, pl, hz⟩ := I.list hq
    refine SeqAt.in_listAt (eqU x) pl.isList (fun w hw => mem_eqAt rx fx r fs w (by simpa using hw)) ⟨.bl _, H, I, rfl, ?_⟩
    rw [show its.toArray.any (eqU x) = its.any (eqU x) by simp, any_eqU r fs]
    exact q
  · obtain ⟨its, r, pl, hz⟩ := I.tuple hq
    refine SeqAt.in_tupleAt (eqU x) pl (fun w hw => mem_eqAt rx fx r fs w (by simpa using hw)) ⟨.bl _, H, I, rfl, ?_⟩
    rw [show its.toArray.any (eqU x) = its.any (eqU x) by simp, any_eqU r fs]
    exact q
theorem op_notIn_seq : OpR X (compareOp .NotIn) (rIn X.K true) := by
  intro pins s σ H x y v u Q I rx ry h
  obtain ⟨p, xs, rfl, hq, fx, fs, q⟩ := h
  cases ry
  rcases hq with hq | hq
  · obtain ⟨its, r, pl, hz⟩ := I.list hq
    refine SeqAt.notIn_listAt (eqU x) pl.isList (fun w hw => mem_eqAt rx fx r fs w (by simpa using hw)) ⟨.bl _, H, I, rfl, ?_⟩
    rw [show its.toArray.any (eqU x) = its.any (eqU x) by simp, any_eqU r fs]
    exact q
  · obtain ⟨its, r, pl, hz⟩ := I.tuple hq
    refine SeqAt.notIn_tupleAt (eqU x) pl (fun w hw => mem_eqAt rx fx r fs w (by simpa using hw)) ⟨.bl _, H, I, rfl, ?_⟩
    rw [show its.toArray.any (eqU x) = its.any (eqU x) by simp, any_eqU r fs]
    exact q
theorem op_notIn_str : OpR X (compareOp .NotIn) (fun x y H Q => ∃ i j, x = .str i ∧ y = .str j ∧ Q (.bl (!(!(Builtin.Str.occurrences j i 0 j.length 1).isEmpty))) H) := by
  intro pins s σ H x y v u Q I rx ry h
  obtain ⟨i, j, rfl, rfl, q⟩ := h
  obtain ⟨t, rfl⟩ := rx
  obtain ⟨t', rfl⟩ := ry
  exact notIn_str ⟨.bl _, H, I, rfl, q⟩

/-! ### len, list(x), tuple(x) of any list or tuple that is read -/
theorem call_len_seq : CallR X (.builtin "len") (fun xs H Q => ∃ p ys, xs = [.ref p] ∧ (SqL X.K H p ys ∨ SqT X.K H p ys) ∧ Q (.int ys.length) H) := by
  intro pins s σ H xs us Q I r h
  obtain ⟨p, ys, rfl, hq, q⟩ := h
  obtain ⟨u, rfl, rx⟩ := vals1 r
  cases rx
  have hn := line63
  rcases hq with hq | hq
  · obtain ⟨its, r', pl, hz⟩ := I.list hq
    have hlen := r'.length
    exact Calls.call_len_list pl.isList (by simp only [List.size_toArray] <;> omega) ⟨.int ys.length, H, I.tok _, ⟨s.toks + 1, by rw [List.size_toArray, hlen]⟩, q⟩
  · obtain ⟨its, r', pl, hz⟩ := I.tuple hq
    have hlen := r'.length
    exact len_tuple pl (by simp only [List.size_toArray] <;> omega) ⟨.int ys.length, H, I.tok _, ⟨s.toks + 1, by rw [List.size_toArray, hlen]⟩, q⟩
theorem call_len_str : CallR X (.builtin "len") (fun xs H Q => ∃ z, xs = [.str z] ∧ z.length ≤ sizeLine ∧ Q (.int z.length) H) := by
  intro pins s σ H xs us Q I r h
  obtain ⟨z, rfl, hz, q⟩ := h
  obtain ⟨u, rfl, t, rfl⟩ := vals1 r
  have hn := line63
  exact len_str (by omega) ⟨.int z.length, H, I.tok _, ⟨_, rfl⟩, q⟩
theorem call_list_of : CallR X (.type "list") (fun xs H Q => ∃ p ys, xs = [.ref p] ∧ (SqL X.K H p ys ∨ SqT X.K H p ys) ∧ ∀ l, H l = none → Q (.ref l) (upd H l (.lst ys))) := by
  intro pins s σ H xs us Q I r h
  obtain ⟨p, ys, rfl, hq, q⟩ := h
  obtain ⟨u, rfl, rx⟩ := vals1 r
  cases rx
  have fin : ∀ (its : List Value), Vals ys its → ys.length ≤ sizeLine → ∀ (h' : Heap) (c' : Nat), (∀ b o', s.heap.get? b = some o' → h'.get? b = some o') →
      h'.get? s.heap.objs.size = some { cls := .type "list", dict := none, data := .seq its.toArray c', slots := #[] } → EP X pins σ Q (.ref s.heap.objs.size) { s with heap := h' } := fun its r' hz h' c' kp e =>
    ⟨.ref s.heap.objs.size, _, I.laid (t' := s.toks) kp (Nat.le_refl _) (show ObjOk X.prog X.w _ h' _ (.lst ys) from ⟨hz, its, c', r', e⟩), rfl, q _ (I.hok.fresh (Nat.le_refl _))⟩
  rcases hq with hq | hq
  · obtain ⟨its, r', pl, hz⟩ := I.list hq
    have hlen := r'.length
    obtain ⟨o, ho, hc, n, hd⟩ := pl.isList
    exact call_list_seq p (.inl rfl) ho hc hd (fun h' c' kp e => fin its r' hz h' c' kp e) (by simp only [List.size_toArray] <;> omega)
  · obtain ⟨its, r', pl, hz⟩ := I.tuple hq
    have hlen := r'.length
    obtain ⟨o, ho, hc, n, hd⟩ := pl
    exact call_list_seq p (.inr rfl) ho hc hd (fun h' c' kp e => fin its r' hz h' c' kp e) (by simp only [List.size_toArray] <;> omega)
/-! ### the call of a builtin's method: o.m(..) -/
/-- the value is of that builtin type -/
def tyV (K : PySem.W.Frag) (T : String) (x : V) (H : Hp) : Prop := match x with
  | .str _ => T = "str"
  | .int _ => T = "int"
  | .ref p => (T = "list" ∧ ∃ xs, SqL K H p xs) ∨ (T = "tuple" ∧ ∃ o, K.lookup p = some o ∧ o.cls = .type "tuple" ∧ o.dict = none) ∨
      (T = "dict" ∧ ((∃ kvs, H p = some (.dK kvs)) ∨ ∃ kvs, H p = some (.dT kvs))) ∨ (T = "set" ∧ ∃ S n, H p = some (.set S n))
  | _ => False
theorem tyV_is {pins : List (Addr × Obj)} {σ : St} {H : Hp} {s : Shared} {T : String} {x : V} {v : Value} (I : Inv X pins σ H s) (r : RelV x v) (ty : tyV X.K T x H) :
    s.TypeIs v T ∧ ∀ a, v = .ref a → ∃ ob, s.heap.get? a = some ob ∧ ob.dict = none := by
  cases x with
  | str z =>
    obtain ⟨t, rfl⟩ := r
    cases (show T = "str" from ty)
    exact ⟨typeIs_str s z t, fun _ e => nomatch e⟩
  | int i =>
    obtain ⟨t, rfl⟩ := r
    cases (show T = "int" from ty)
    exact ⟨typeIs_int s i t, fun _ e => nomatch e⟩
  | ref p =>
    cases r
    rcases ty with ⟨rfl, xs, hq⟩ | ⟨rfl, o, hk, hc, hd⟩ | ⟨rfl, hk⟩ | ⟨rfl, S, n, hk⟩
    · obtain ⟨its, _, pl, _⟩ := I.list hq
      refine ⟨pl.isList.typeIs, fun a e => ?_⟩
      cases e
      obtain ⟨o, n, e, c, hd, _⟩ := pl
      exact ⟨o, e, hd⟩
    · refine ⟨⟨o, I.kIn p o hk, hc⟩, fun a e => ?_⟩
      cases e
      exact ⟨o, I.kIn _ o hk, hd⟩
    · have z : ∃ o, s.heap.get? p = some o ∧ o.ExactDict := by
        rcases hk with ⟨kvs, hk⟩ | ⟨kvs, hk⟩
        · obtain ⟨_, _, _, _, o, _, _, e, ex, _⟩ := I.hok p _ hk
          exact ⟨o, e, ex⟩
        · obtain ⟨_, _, _, _, o, _, _, e, ex, _⟩ := I.hok p _ hk
          exact ⟨o, e, ex⟩
      obtain ⟨o, e, ex⟩ := z
      refine ⟨⟨o, e, ex.1⟩, fun a e2 => ?_⟩
      cases e2
      exact ⟨o, e, ex.2.1⟩
    · obtain ⟨o, _, _, _, e, ex, _⟩ := I.hok p _ hk
      refine ⟨⟨o, e, ex.1⟩, fun a e2 => ?_⟩
      cases e2
      exact ⟨o, e, ex.2.1⟩
  | _ => exact False.elim ty
def tBM (K : PySem.W.Frag) (T : String) (r : V → List V → Hp → VK → Prop) (to : TE) (t : TA) : TE := fun σ H Q => to σ H fun x H1 => tyV K T x H1 ∧ t σ H1 fun xs H2 => r x xs H2 Q
variable {o e : Expr} {es : List Expr} {to : TE} {t : TA} {name : Str} {apos cpos : Pos} {T id : String} {r : V → List V → Hp → VK → Prop}
theorem pe_bm (pa : PlainAttrs T) (slot : Slot T name id) (hty : typeOf (.builtin id) = pure (.type "method_descriptor")) (hm : MtR X id r) (ho : PE X o to) (ha : PA X (e :: es) t)
    (hbase : attributeBase o name X.env (eval o X.env) = eval o X.env := by rfl)
    (hfew : ((backTo cpos (starEach (e :: es) X.env)).all (fun x => !x.1) && (backToKw cpos (keywordEach [] X.env)).all (fun x => x.1.isSome)
      && decide ((e :: es).length + ([] : List Keyword).length + (if ([] : List Keyword).isEmpty then 0 else 1) < 30)) = true := by rfl)
    (hline : (apos.endLine == cpos.line) = true := by rfl) (hs : starEach (e :: es) X.env = (false, eval e X.env) :: starEach es X.env := by rfl) (hplain : (backTo cpos (starEach es X.env)).any (·.1) = false := by rfl) :
    PE X (.Call (.Attribute o name apos) (e :: es) [] cpos) (tBM X.K T r to t) := by
  refine ⟨?_⟩
  intro pins s σ H Q I h
  refine wpAny_Call_method_late hbase hfew hline rfl (thn (ho pins s σ H _ I h) fun v s1 ⟨x, H1, I1, r1, ty, q1⟩ => ?_)
  obtain ⟨h1, h2⟩ := tyV_is I1 r1 ty
  refine ⟨T, id, pa, slot, hty, h1, h2, ?_⟩
  have hA := ha cpos pins s1 σ H1 _ I1 q1
  rw [hs] at hA ⊢
  refine Calls.callWith_builtin (by show (false || (backTo cpos (starEach es X.env)).any (·.1)) = false; rw [hplain] <;> rfl) (Calls.evalArgs_plain ?_)
  exact thn hA fun us s2 ⟨vs, H2, I2, r2, q2⟩ => hm pins s2 σ H2 x vs v us Q I2 r1 r2 q2
/- xs.append(e), list.index on a module's tuple .. are MtR facts of 06m -/
end
end L2

namespace L2
open PySem PySem.Spec PyProof.Rows

def MtM (X : Cx) (id : String) (r : V → List V → Hp → VK → Prop) : Prop :=
  ∀ (pins : List (Addr × Obj)) (s : Shared) (σ : St) (H : Hp) (x : V) (xs : List V) (v : Value) (us : List Value) (Q : VK), Inv X pins σ H s → RelV x v → Vals xs us → r x xs H Q →
    wpAny (model X.prog X.w) X.A (call (.builtin id) (v :: us)) (EP X pins σ Q) X.xe s

/-! ### lists of values -/
theorem Vals.one : ∀ {x : V} {us : List Value}, Vals [x] us → ∃ u, us = [u] ∧ RelV x u
  | _, _, .cons r .nil => ⟨_, rfl, r⟩
theorem Vals.rep {xs : List V} {us : List Value} (h : Vals xs us) : ∀ k : Nat, Vals (List.replicate k xs).flatten (List.replicate k us).flatten
  | 0 => .nil
  | k + 1 => by
    rw [List.replicate_succ, List.replicate_succ, List.flatten_cons, List.flatten_cons]
    exact Vals.append h (Vals.rep h k)
theorem foldl_rep (its : List Value) : ∀ (k : Nat) (acc : List Value),
    List.foldl (fun x1 x2 => x1 ++ x2) acc.toArray (List.replicate k its.toArray) = (acc ++ (List.replicate k its).flatten).toArray
  | 0, acc => by simp
  | k + 1, acc => by
    have e : acc.toArray ++ its.toArray = (acc ++ its).toArray := by simp
    have e2 : (acc ++ its) ++ (List.replicate k its).flatten = acc ++ (List.replicate (k + 1) its).flatten := by
      rw [List.replicate_succ, List.flatten_cons, List.append_assoc]
    rw [← e2, ← foldl_rep its k (acc ++ its), ← e, List.replicate_succ, List.foldl_cons]

section
variable {X : Cx} {pins : List (Addr × Obj)} {σ : St} {H : Hp} {s : Shared} {l b : Addr} {xs ys zs : List V}

/-! ### the two steps: a tracked list is rewritten, a new list is laid -/
theorem Inv.lset {its its' : List Value} {n : Nat} {f : Array Value → Array Value} {t' : Nat} (I : Inv X pins σ H s) (hH : H l = some (.lst xs))
    (e : s.heap.get? l = some { cls := .type "list", data := .seq its.toArray n }) (hf : f its.toArray = its'.toArray) (hv : Vals ys its') (hz : ys.length ≤ sizeLine) :
    Inv X pins σ (upd H l (.lst ys)) { s with heap := s.heap.update l (Obj.mapSeq f), toks := t' } := by
  have q := PySem.IsL.update e f
  rw [hf] at q
  refine I.write (x := l) (e := l) (by rw [hH]; exact trivial) (.inl rfl) (fun b' u hb hu => (Heap.get?_update_other s.heap (Obj.mapSeq f) (Ne.symm hb)).trans hu) ⟨_, q⟩ ?_
  exact ⟨hz, its', _, hv, q⟩
theorem Inv.lnew {its : List Value} {t' : Nat} (I : Inv X pins σ H s) (hv : Vals ys its) (hz : ys.length ≤ sizeLine) :
    Inv X pins σ (upd H s.heap.objs.size (.lst ys)) { s with heap := s.heap.push { cls := .type "list", data := .seq its.toArray }, toks := t' } :=
  I.laid (fun _ _ q => Heap.get?_push_of_some _ q) (Nat.le_refl _) ⟨hz, its, 0, hv, Heap.get?_push_size _ rfl⟩
theorem Inv.fresh (I : Inv X pins σ H s) : H s.heap.objs.size = none := I.hok.fresh (Nat.le_refl _)
theorem Inv.lstM (I : Inv X pins σ H s) (hH : H l = some (.lst xs)) : xs.length ≤ sizeLine ∧ ∃ (its : List Value) (n : Nat), Vals xs its ∧ xs.length = its.length ∧ s.heap.get? l = some { cls := .type "list", data := .seq its.toArray n } := by
  obtain ⟨z, its, n, r, e⟩ := I.hok l _ hH
  exact ⟨z, its, n, r, r.length, e⟩

theorem notLongL {n : Nat} (h : n ≤ sizeLine) : Builtin.List.listTooLong n = false := by
  unfold Builtin.List.listTooLong
  exact decide_eq_false (by omega)
end

section
variable {X : Cx}

/-! ### methods -/
def rAppend : V → List V → Hp → VK → Prop := fun x vs H Q => ∃ l xs y, x = .ref l ∧ vs = [y] ∧ H l = some (.lst xs) ∧ xs.length < sizeLine ∧ Q .non (upd H l (.lst (xs ++ [y])))
theorem mt_append : MtM X "list.append" rAppend := by
  intro pins s σ H x vs v us Q I rx rv h
  obtain ⟨l, xs, y, rfl, rfl, hH, hz, q⟩ := h
  cases rx
  obtain ⟨u, rfl, ru⟩ := rv.one
  obtain ⟨z, its, n, r, hl, e⟩ := I.lstM hH
  refine call_meets F.slot_list_append ⟨_, e, rfl⟩ F.entry_list_append (F.args_list_append_2 _ _) (PySem.list_append l its.toArray n u (by rw [List.size_toArray]; omega)) ⟨e, ?_⟩
  refine ⟨.non, _, I.lset (its' := its ++ [u]) hH e (by simp) (r.append (.cons ru .nil)) ?_, rfl, q⟩
  rw [List.length_append, List.length_singleton]
  omega

/-! ### list + list, list += list, list * int -/
def rCat : R2 := fun x y H Q => ∃ l b xs zs, x = .ref l ∧ y = .ref b ∧ H l = some (.lst xs) ∧ H b = some (.lst zs) ∧ xs.length + zs.length ≤ sizeLine ∧ ∀ p, H p = none → Q (.ref p) (upd H p (.lst (xs ++ zs)))
theorem op_cat : OpR X (binaryOp .Add) rCat := by
  intro pins s σ H x y v u Q I rx ry h
  obtain ⟨l, b, xs, zs, rfl, rfl, hH, hB, hz, q⟩ := h
  cases rx
  cases ry
  obtain ⟨z, its, n, r, hl, e⟩ := I.lstM hH
  obtain ⟨z2, its2, n2, r2, hl2, e2⟩ := I.lstM hB
  refine PySem.P.add_list e e2 ?_ (by rw [List.size_toArray, List.size_toArray]; omega)
  have ea : its.toArray ++ its2.toArray = (its ++ its2).toArray := by simp
  rw [ea]
  exact ⟨.ref _, _, I.lnew (t' := s.toks) (r.append r2) (by rw [List.length_append]; omega), rfl, q _ I.fresh⟩
/-- a list times an int (a negative one is nothing) -/
def rRep : R2 := fun x y H Q => ∃ l k xs, x = .ref l ∧ y = .int k ∧ H l = some (.lst xs) ∧ -(2 ^ 63) ≤ k ∧ k < 2 ^ 63 ∧ xs.length * k.toNat ≤ sizeLine ∧
  ∀ p, H p = none → Q (.ref p) (upd H p (.lst (List.replicate k.toNat xs).flatten))
theorem len_rep {α : Type} (xs : List α) (k : Nat) : (List.replicate k xs).flatten.length = k * xs.length := by
  induction k with
  | zero => simp
  | succ k ih => rw [List.replicate_succ, List.flatten_cons, List.length_append, ih, Nat.succ_mul, Nat.add_comm]
theorem op_rep : OpR X (binaryOp .Mult) rRep := by
  intro pins s σ H x y v u Q I rx ry h
  obtain ⟨l, k, xs, rfl, rfl, hH, h1, h2, hz, q⟩ := h
  cases rx
  obtain ⟨t, rfl⟩ := ry
  obtain ⟨z, its, n, r, hl, e⟩ := I.lstM hH
  have hlen : its.toArray.size * k.toNat ≤ sizeLine := by rw [List.size_toArray, ← hl]; exact hz
  have hcap : ¬ its.toArray.size * k.toNat > (2 ^ 63 - 1) / 8 := by
    have : (sizeLine : Nat) ≤ (2 ^ 63 - 1) / 8 := by decide
    omega
  have hfit : ¬ (!Builtin.List.listFitsIndex k) = true := by
    rw [fitsIndex_both h1 h2]
    exact Bool.false_ne_true
  have hlong : ¬ Builtin.List.listTooLong (its.toArray.size * k.toNat) = true := by
    rw [notLongL hlen]
    exact Bool.false_ne_true
  have hnew : List.foldl (fun x1 x2 => x1 ++ x2) #[] (List.replicate (if its.toArray.isEmpty = true then 0 else k.toNat) its.toArray) = (List.replicate k.toNat its).flatten.toArray := by
    have f0 : ∀ m : Nat, List.foldl (fun x1 x2 => x1 ++ x2) #[] (List.replicate m its.toArray) = (List.replicate m its).flatten.toArray := fun m => by
      have := foldl_rep its m []
      rw [List.nil_append] at this
      exact this
    rw [f0]
    cases its with
    | nil => simp
    | cons a r' => rw [if_neg (by simp)]
  refine wpAny_binaryOp_repeat_ref (T := "list") (U := "int") (by decide) ⟨_, e, rfl⟩ (fun s' => typeIs_int s' k t) noFill_list_mul F.fills_int_mul F.slot_int_rmul repeat_list F.slot_int_index.lookup
    (call_meets F.slot_int_rmul (typeIs_int s k t) F.entry_int_rmul (F.args_int_rmul_2 _ _) (int___rmul___int_list k t l its.toArray n)
      ⟨e, rfl, ⟨_, e, rfl⟩, call_meets F.slot_list_mul ⟨_, e, rfl⟩ F.entry_list_mul (F.args_list_mul_2 _ _) (AutoListH.list___mul___list_int_3 l its.toArray n k t hfit hcap hlong) ⟨e, ?_⟩⟩)
  rw [hnew]
  exact ⟨.ref _, _, I.lnew (t' := s.toks) (r.rep k.toNat) (by rw [len_rep, Nat.mul_comm]; exact hz), rfl, q _ I.fresh⟩

/-! ### del xs[i] -/
end

/-! ### xs[a:b] = ys -/
section
variable {prog : Program} {w : World} {A : Around} {E : Value → Shared → Prop} {s : Shared}
end

section
variable {X : Cx}
end
end L2

namespace L2
open PySem PySem.Spec PyProof.Rows

/-! ### lists of pairs as tables -/
section
variable {κ : Type} [DecidableEq κ]
def valV (kvs : List (κ × V)) (k : κ) : Option V := (kvs.find? fun kv => decide (kv.1 = k)).map (·.2)
/-- in its place, or at the end -/
def putK (kvs : List (κ × V)) (k : κ) (v : V) : List (κ × V) :=
  if (kvs.any fun kv => decide (kv.1 = k)) = true then kvs.map (fun kv => if kv.1 = k then (kv.1, v) else kv) else kvs ++ [(k, v)]
theorem valV_pos {p : κ × V} {r : List (κ × V)} {k : κ} (e : p.1 = k) : valV (p :: r) k = some p.2 := by simp [valV, List.find?_cons, e]
theorem valV_neg {p : κ × V} {r : List (κ × V)} {k : κ} (e : ¬ p.1 = k) : valV (p :: r) k = valV r k := by simp [valV, List.find?_cons, e]
theorem length_putK (kvs : List (κ × V)) (k : κ) (v : V) : (putK kvs k v).length ≤ kvs.length + 1 := by
  unfold putK
  split
  · rw [List.length_map]; omega
  · rw [List.length_append, List.length_cons, List.length_nil]; omega
/-- raw tables of the same keys -/
theorem KV.val {kvs : List (κ × V)} {vs : List (κ × Value)} (r : KV kvs vs) (k : κ) : RelO (valV kvs k) (valueAt vs k) := by
  unfold KV at r
  induction r with
  | nil => exact True.intro
  | @cons p q ps qs h t ih =>
    obtain ⟨h1, h2⟩ := h
    by_cases e : p.1 = k
    · have e' : q.1 = k := h1.symm.trans e
      have b : valueAt (q :: qs) k = some q.2 := by simp [valueAt, List.find?_cons, e']
      rw [valV_pos e, b]; exact h2
    · have e' : ¬ q.1 = k := fun z => e (h1.trans z)
      have b : valueAt (q :: qs) k = valueAt qs k := by simp [valueAt, List.find?_cons, e']
      rw [valV_neg e, b]; exact ih
theorem KV.any {kvs : List (κ × V)} {vs : List (κ × Value)} (r : KV kvs vs) (k : κ) : (kvs.any fun kv => decide (kv.1 = k)) = vs.any fun kv => decide (kv.1 = k) := by
  unfold KV at r
  induction r with
  | nil => rfl
  | cons h t ih => rw [List.any_cons, List.any_cons, ih, h.1]
theorem KV.repl {kvs : List (κ × V)} {vs : List (κ × Value)} (r : KV kvs vs) (k : κ) {y : V} {u : Value} (ry : RelV y u) :
    KV (kvs.map fun kv => if kv.1 = k then (kv.1, y) else kv) (vs.map fun kv => if kv.1 = k then (kv.1, u) else kv) := by
  unfold KV at r ⊢
  induction r with
  | nil => exact .nil
  | @cons p q ps qs h t ih =>
    rw [List.map_cons, List.map_cons]
    refine .cons ?_ ih
    obtain ⟨h1, h2⟩ := h
    by_cases e : p.1 = k
    · rw [if_pos e, if_pos (h1.symm.trans e)]; exact ⟨h1, ry⟩
    · rw [if_neg e, if_neg (fun z => e (h1.trans z))]; exact ⟨h1, h2⟩
theorem KV.put {kvs : List (κ × V)} {vs : List (κ × Value)} (r : KV kvs vs) (k : κ) {y : V} {u : Value} (ry : RelV y u) : KV (putK kvs k y) (stored vs k u) := by
  unfold putK stored
  rw [r.any k]
  by_cases e : (vs.any fun kv => decide (kv.1 = k)) = true
  · rw [if_pos e, if_pos e]; exact r.repl k ry
  · rw [if_neg e, if_neg e]; exact Paired.snoc r ⟨rfl, ry⟩
theorem KV.length {kvs : List (κ × V)} {vs : List (κ × Value)} (r : KV kvs vs) : kvs.length = vs.length := Paired.length r
end


/-! ### a tracked dict, its keys ints and texts or tuples of these -/
theorem kV_is {P : Program} {w : World} {k : Key} {u : Value} (r : RelV (kV k) u) : (mixKind P w).is k u = true := by
  cases k with
  | inl i => obtain ⟨t, e⟩ := (show ∃ t, u = Value.int i t from r); subst e; exact mixKind_int P w i t
  | inr x => obtain ⟨t, e⟩ := (show ∃ t, u = Value.str x t from r); subst e; exact mixKind_str P w x t
theorem items_are {P : Program} {w : World} : ∀ {ks : List Key} {us : List Value}, Vals (ks.map kV) us → ItemsAre (mixKind P w) ks us
  | [], _, r => by rw [List.map_nil] at r; cases r; exact .nil
  | k :: ks, _, r => by
    rw [List.map_cons] at r
    cases r with
    | cons h t => exact .cons (kV_is h) (items_are t)

/-- raw entries of a dict with tuple keys -/
abbrev KT (H : Hp) : List (List Key × V) → List (List Key × Addr × Value) → Prop := Paired fun p q => p.1 = q.1 ∧ H q.2.1 = some (.tup (p.1.map kV)) ∧ RelV p.2 q.2.2
theorem KT.val {H : Hp} {kvs : List (List Key × V)} {xs : List (List Key × Addr × Value)} (r : KT H kvs xs) (k : List Key) : RelO (valV kvs k) ((atKey xs k).map (·.2)) := by
  induction r with
  | nil => exact True.intro
  | @cons p q ps qs h t ih =>
    obtain ⟨h1, _, h2⟩ := h
    by_cases e : p.1 = k
    · have e' : q.1 = k := h1.symm.trans e
      have b : atKey (q :: qs) k = some q.2 := by simp [atKey, List.find?_cons, e']
      rw [valV_pos e, b]; exact h2
    · have e' : ¬ q.1 = k := fun z => e (h1.trans z)
      have b : atKey (q :: qs) k = atKey qs k := by simp [atKey, List.find?_cons, e']
      rw [valV_neg e, b]; exact ih
section
variable {P : Program} {w : World} {H : Hp} {h : Heap} {a : Addr}
theorem rd_of {u : HO} (ok : HOk P w H h) (e : Rd H a u) : ObjOk P w H h a u := e.ok ok
theorem dk_rd {kvs : List (Key × V)} (ok : HOk P w H h) (e : Rd H a (.dK kvs)) : kvs.length ≤ sizeLine ∧ (a == sysModules) = false ∧ ∃ vs, KV kvs vs ∧ h.DictOf (mixKind P w) a vs :=
  show ObjOk P w H h a (.dK kvs) from rd_of ok e
theorem dk_of {kvs : List (Key × V)} (ok : HOk P w H h) (e : H a = some (.dK kvs)) : kvs.length ≤ sizeLine ∧ (a == sysModules) = false ∧ ∃ vs, KV kvs vs ∧ h.DictOf (mixKind P w) a vs := dk_rd ok (.inl e)
/-- a tracked tuple of ints and texts is a key -/
theorem key_of {ks : List Key} (ok : HOk P w H h) (e : H a = some (.tup (ks.map kV))) : (tupleKind (mixKind P w)).is h ks a := by
  obtain ⟨_, its, r, o, h1, h2, n, h3⟩ := (show ObjOk P w H h a (.tup (ks.map kV)) from ok a _ e)
  exact ⟨o, its.toArray, n, h1, h2, h3, by simpa using items_are r⟩
theorem dt_rd {kvs : List (List Key × V)} (ok : HOk P w H h) (e : Rd H a (.dT kvs)) : kvs.length ≤ sizeLine ∧ (a == sysModules) = false ∧
    ∃ xs, KT H kvs xs ∧ h.DictOfH (tupleKind (mixKind P w)) a xs := by
  obtain ⟨z, y, xs, r, o, es, ep, h1, h2, h3, h4, h5⟩ := (show ObjOk P w H h a (.dT kvs) from rd_of ok e)
  refine ⟨z, y, xs, r, o, es, ep, h1, h2, h3, h4, fun x hx => ?_, h5⟩
  have all : ∀ {l : List (List Key × V)} {m : List (List Key × Addr × Value)}, KT H l m → ∀ x ∈ m, (tupleKind (mixKind P w)).is h x.1 x.2.1 := by
    intro l m q
    induction q with
    | nil => intro x hx; exact nomatch hx
    | @cons p q ps qs hq t ih =>
      intro x hx
      rcases List.mem_cons.mp hx with e | hx
      · subst e
        exact key_of ok (by rw [← hq.1]; exact hq.2.1)
      · exact ih x hx
  exact all r x hx
end

/-- what the dict at a holds at the key y -/
def DGet (H : Hp) (a : Addr) (y : V) (r : Option V) : Prop :=
  (∃ kvs k, Rd H a (.dK kvs) ∧ y = kV k ∧ r = valV kvs k) ∨ ∃ kvs k b, Rd H a (.dT kvs) ∧ y = .ref b ∧ H b = some (.tup (k.map kV)) ∧ r = valV kvs k
section
variable {X : Cx} {pins : List (Addr × Obj)} {σ : St} {H : Hp} {s : Shared} {a : Addr} {y v : V} {u r : Value} {o : Option V} {A : Around} {E : Value → Shared → Prop}

theorem Inv.big (I : Inv X pins σ H s) : sysModules < s.heap.objs.size := by
  have h : mainGlobals < s.heap.objs.size := (I.mod.glob.keeps I.bk).lt
  exact Nat.lt_trans (by decide) h

/-- d[y], there -/
theorem d_getItem {Q : Value → Shared → Prop} (hu : A.units + 1 < cLine) (I : Inv X pins σ H s) (g : DGet H a y (some v)) (ry : RelV y u) (h : ∀ w' s', Inv X pins σ H s' → RelV v w' → Q w' s') :
    wpAny (model X.prog X.w) A (getItem (.ref a) u) Q E s := by
  rcases g with ⟨kvs, k, e, ey, l⟩ | ⟨kvs, k, b, e, ey, eb, l⟩
  · subst ey
    obtain ⟨z, hd, vs, rel, dd⟩ := dk_rd I.hok e
    obtain ⟨w', hw, rw'⟩ := RelO.some_of (v := v) (o := valueAt vs k) (by rw [l]; exact rel.val k)
    exact wpAny_getItem_of (kV_is ry) dd.mapOf hw (h w' _ (I.tok _) rw')
  · subst ey
    cases (show u = Value.ref b from ry)
    obtain ⟨z, hd, xs, rel, dd⟩ := dt_rd I.hok e
    obtain ⟨w', hw, rw'⟩ := RelO.some_of (v := v) (o := (atKey xs k).map (·.2)) (by rw [l]; exact rel.val k)
    obtain ⟨p, hp, hp2⟩ := Option.map_eq_some_iff.mp hw
    refine wpAny_getItem_heap (tupleKind_room_in1 hu) (key_of I.hok eb) dd hp ?_
    rw [hp2]
    exact h w' _ (I.tok _) rw'
/-- a dict's object is replaced -/
theorem d_write {h' : Heap} {t' : Nat} {ob : HO} (I : Inv X pins σ H s) (mu : Mut (H a)) (hs : Heap.SameBut a s.heap h') (he : ∃ q, h'.get? a = some q) (new : ObjOk X.prog X.w (upd H a ob) h' a ob) :
    Inv X pins σ (upd H a ob) { s with heap := h', toks := t' } :=
  I.write (x := a) (e := a) mu (.inl rfl) (fun b q hb z => (hs.2 b hb).trans z) he new
theorem dk_new {P : Program} {w : World} {H' : Hp} {h' : Heap} {kvs : List (Key × V)} {vs : List (Key × Value)} (z : kvs.length ≤ sizeLine) (hd : (a == sysModules) = false) (rel : KV kvs vs) (dd : h'.DictOf (mixKind P w) a vs) :
    ObjOk P w H' h' a (.dK kvs) := ⟨z, hd, vs, rel, dd⟩
end

section
variable {X : Cx} {pins : List (Addr × Obj)} {σ : St} {H : Hp} {s : Shared} {a : Addr} {kvs : List (Key × V)} {k : Key} {u : Value} {A : Around} {E : Value → Shared → Prop}
end


/-! ### readings and rules -/
/-- the element of a subscription, not a slice -/
def NoSl (i : Expr) : Prop := ∀ ov iv, subscripted i false ov iv = operate [ov, iv] (getItem ov iv)
theorem subD_of {prog : Program} {w : World} {A : Around} {E : Value → Shared → Prop} {s : Shared} {env : Env} {value slice : Expr} {pos : Pos} {T id : String} {Q : Value → Shared → Prop}
    (hl : typeLookup (.type T) "__getitem__" = pure (some (.builtin id))) (hs : NoSl slice)
    (h : wpAny (model prog w) A (eval value env) (fun o s₁ => wpAny (model prog w) A (eval slice env) (fun i s₂ => s₂.TypeIs o T ∧ wpAny (model prog w) A (getItem o i) Q E s₂) E s₁) E s) :
    wpAny (model prog w) A (eval (.Subscript value slice pos) env) Q E s := by
  refine Subscript_ (wpAny_mono h (fun o s₁ h₁ => wpAny_mono h₁ (fun i s₂ h₂ => ?_) fun _ _ x => x) fun _ _ x => x)
  obtain ⟨hT, h₂⟩ := h₂
  unfold subscriptTail
  refine wpAny_bind ?_
  rw [getitemInPython_of_ne hT.not_modules]
  refine wpAny_bind (wpAny_specialOf hT hl ?_)
  have fin : wpAny (model prog w) A (subscripted slice false o i) (fun r s₃ => wpAny (model prog w) A (letTemporaryGo value o r >>= fun _ => pure r) Q E s₃) E s₂ := by
    rw [hs o i]
    exact wpAny_operating (wpAny_mono h₂ (fun r s₃ h₃ => wpAny_bind (wpAny_letTemporaryGo (wpAny_pure h₃))) fun _ _ x => x)
  first
    | exact wpAny_pure (wpAny_bind fin)
    | exact wpAny_bind (wpAny_pure (wpAny_bind fin))
    | exact wpAny_bind fin

theorem dict_typeIs {X : Cx} {pins : List (Addr × Obj)} {σ : St} {H : Hp} {s : Shared} {a : Addr} {y : V} {o : Option V} (I : Inv X pins σ H s) (g : DGet H a y o) : s.TypeIs (.ref a) "dict" := by
  rcases g with ⟨kvs, k, e, _, _⟩ | ⟨kvs, k, b, e, _, _, _⟩
  · obtain ⟨_, _, vs, _, dd⟩ := dk_rd I.hok e
    exact dd.typeIs
  · obtain ⟨_, _, xs, _, dd⟩ := dt_rd I.hok e
    exact dd.typeIs
/-- d[y] -/
def tDGet (td ty : TE) : TE := fun σ H Q => td σ H fun x H1 => ty σ H1 fun y H2 => ∃ a v, x = .ref a ∧ DGet H2 a y (some v) ∧ Q v H2
section
variable {X : Cx} {o i e value : Expr} {pos pos' tpos : Pos} {td ty tv : TE}
theorem pe_dget (hu : X.A.units + 1 < cLine) (ho : PE X o td) (hi : PE X i ty) (hs : NoSl i) : PE X (.Subscript o i pos) (tDGet td ty) := by
  refine ⟨?_⟩
  intro pins s σ H Q I h
  refine subD_of PySem.F.slot_dict_getitem.lookup hs (thn (ho pins s σ H _ I h) fun u s1 ⟨x, H1, I1, rx, q1⟩ => thn (hi pins s1 σ H1 _ I1 q1) fun iv s2 ⟨y, H2, I2, ry, a, v, ex, g, q2⟩ => ?_)
  subst ex
  obtain rfl : u = Value.ref a := rx
  exact ⟨dict_typeIs I2 g, d_getItem hu I2 g ry fun w' s3 I3 rw' => ⟨v, H2, I3, rw', q2⟩⟩
end


/-! ### displays -/
theorem dk_empty {P : Program} {w : World} {H : Hp} (h : Heap) (hb : sysModules < h.objs.size) : ObjOk P w H (h.push { cls := .type "dict", data := .dict #[] }) h.objs.size (.dK []) :=
  ⟨Nat.zero_le _, beq_eq_false_iff_ne.mpr (Ne.symm (Nat.ne_of_lt hb)), [], .nil, Heap.DictOf.new h⟩
section
variable {X : Cx} {pos : Pos}
end

/-- the pairs of a display, from the left -/
def tPairs : List (TE × TE) → St → Hp → (List (V × V) → Hp → Prop) → Prop
  | [], _, H, Q => Q [] H
  | (tk, tv) :: r, σ, H, Q => tk σ H fun x H1 => tv σ H1 fun y H2 => tPairs r σ H2 fun ps H3 => Q ((x, y) :: ps) H3
abbrev VV : List (V × V) → List (Value × Value) → Prop := Paired fun p q => RelV p.1 q.1 ∧ RelV p.2 q.2
structure PPs (X : Cx) (pos : Pos) (keys : List (Option Expr)) (values : List Expr) (trs : List (TE × TE)) : Prop where
  run : ∀ (pins : List (Addr × Obj)) (s : Shared) (σ : St) (H : Hp) (Q : List (V × V) → Hp → Prop), Inv X pins σ H s → tPairs trs σ H Q →
    wpAny (model X.prog X.w) X.A (evalPairs (pairTrees keys values X.env pos)) (fun vs s' => ∃ ps H', Inv X pins σ H' s' ∧ VV ps vs ∧ Q ps H') X.xe s
instance {X : Cx} {pos : Pos} {keys : List (Option Expr)} {values : List Expr} {trs : List (TE × TE)} : CoeFun (PPs X pos keys values trs) (fun _ => ∀ (pins : List (Addr × Obj)) (s : Shared) (σ : St) (H : Hp) (Q : List (V × V) → Hp → Prop), Inv X pins σ H s → tPairs trs σ H Q →
    wpAny (model X.prog X.w) X.A (evalPairs (pairTrees keys values X.env pos)) (fun vs s' => ∃ ps H', Inv X pins σ H' s' ∧ VV ps vs ∧ Q ps H') X.xe s) := ⟨PPs.run⟩

theorem pps_nil {X : Cx} {pos : Pos} : PPs X pos [] [] [] := ⟨fun pins s σ H Q I h => pairTrees_nil_walk ⟨[], H, I, .nil, h⟩⟩
theorem pps_cons {X : Cx} {pos : Pos} {k v : Expr} {ks : List (Option Expr)} {vs : List Expr} {tk tv : TE} {trs : List (TE × TE)} (hk : PE X k tk) (hv : PE X v tv) (hr : PPs X pos ks vs trs) :
    PPs X pos (some k :: ks) (v :: vs) ((tk, tv) :: trs) := ⟨fun pins s σ H Q I h =>
  pairTrees_cons_walk (thn (hk pins s σ H _ I h) fun u s1 ⟨x, H1, I1, rx, q1⟩ => thn (hv pins s1 σ H1 _ I1 q1) fun w2 s2 ⟨y, H2, I2, ry, q2⟩ =>
    thn (hr pins s2 σ H2 _ I2 q2) fun ws s3 ⟨ps, H3, I3, rel, q3⟩ => ⟨(x, y) :: ps, H3, I3, .cons ⟨rx, ry⟩ rel, q3⟩)⟩

def mergeK (kvs more : List (Key × V)) : List (Key × V) := more.foldl (fun acc kv => putK acc kv.1 kv.2) kvs
theorem KV.merge : ∀ {more : List (Key × V)} {rs : List (Key × Value)} {kvs : List (Key × V)} {vs : List (Key × Value)}, KV more rs → KV kvs vs → KV (mergeK kvs more) (merged vs rs) := by
  intro more rs kvs vs r
  unfold KV at r
  induction r generalizing kvs vs with
  | nil => intro q; exact q
  | @cons p q ps qs h t ih =>
    intro r0
    have e : KV (putK kvs p.1 p.2) (stored vs q.1 q.2) := by
      have := r0.put p.1 h.2
      rw [← h.1]; exact this
    exact ih e
theorem length_mergeK : ∀ (more kvs : List (Key × V)), (mergeK kvs more).length ≤ kvs.length + more.length
  | [], kvs => by show kvs.length ≤ kvs.length + 0; omega
  | p :: r, kvs => by
    have h1 := length_mergeK r (putK kvs p.1 p.2)
    have h2 := length_putK kvs p.1 p.2
    show (mergeK (putK kvs p.1 p.2) r).length ≤ _
    rw [List.length_cons]; omega
theorem carries_of {P : Program} {w : World} : ∀ {kvs : List (Key × V)} {ws : List (Value × Value)}, VV (kvs.map fun kv => (kV kv.1, kv.2)) ws → ∃ rs, Carries (mixKind P w) ws rs ∧ KV kvs rs
  | [], _, r => by rw [List.map_nil] at r; cases r; exact ⟨[], True.intro, .nil⟩
  | p :: kvs, _, r => by
    rw [List.map_cons] at r
    cases r with
    | @cons a b as bs h t =>
      obtain ⟨rs, c, q⟩ := carries_of (P := P) (w := w) t
      obtain ⟨b1, b2⟩ := b
      exact ⟨(p.1, b2) :: rs, ⟨kV_is h.1, rfl, c⟩, .cons ⟨rfl, h.2⟩ q⟩
/-- {k: v, ..} with keys ints and texts; the new dict stands empty while the pairs are made -/
def tDisp (trs : List (TE × TE)) : TE := fun σ H Q => ∀ p, H p = none → tPairs trs σ (upd H p (.dK [])) fun ps H2 => H2 p = some (.dK []) ∧ ∃ kvs : List (Key × V), ps = kvs.map (fun kv => (kV kv.1, kv.2)) ∧ kvs.length ≤ 15 ∧ Q (.ref p) (upd H2 p (.dK (mergeK [] kvs)))
theorem pe_disp {X : Cx} {pos : Pos} {keys : List (Option Expr)} {values : List Expr} {trs : List (TE × TE)} (h : PPs X pos keys values trs) (hall : keys.all (·.isSome) = true) (hl : keys.length = values.length) (h0 : keys ≠ [])
    (h15 : keys.length ≤ 15) : PE X (.Dict keys values pos) (tDisp trs) := by
  refine ⟨?_⟩
  intro pins s σ H Q I q
  have hn := I.hok.fresh (Nat.le_refl s.heap.objs.size)
  have I1 := I.laid (a := s.heap.objs.size) (o := .dK []) (h' := s.heap.push { cls := .type "dict", data := .dict #[] }) (t' := s.toks) (fun _ _ q => Heap.get?_push_of_some _ q) (Nat.le_refl _) (dk_empty s.heap I.big)
  refine wpAny_Dict_walk (knd := mixKind X.prog X.w) hall hl h0 h15 (thn (h pins _ σ _ _ I1 (q _ hn)) fun ws s2 ⟨ps, H2, I2, rel, e, kvs, ep, lk, q2⟩ => ?_)
  subst ep
  obtain ⟨rs, c, rk⟩ := carries_of (P := X.prog) (w := X.w) rel
  obtain ⟨z, hd, vs0, r0, dd⟩ := dk_of I2.hok e
  cases r0
  refine ⟨rs, c, dd, fun h' dd' hs => ⟨.ref s.heap.objs.size, _, ?_, rfl, q2⟩⟩
  have hz : (mergeK [] kvs).length ≤ sizeLine := by
    have h1 := length_mergeK kvs []
    rw [List.length_nil] at h1
    rw [sizeLine_eq]; omega
  have he : ∃ q, h'.get? s.heap.objs.size = some q := let ⟨q, _, _, hq, _⟩ := dd'; ⟨q, hq⟩
  exact d_write I2 (by rw [e]; exact True.intro) hs he (dk_new hz hd (rk.merge .nil) dd')


/-! ### methods -/
/-- a method call o.m(e) of a built-in, with one argument: what must be seen of the text -/
structure M1 (X : Cx) (o : Expr) (m : Str) (apos : Pos) (e : Expr) (cpos : Pos) : Prop where
  base : attributeBase o m X.env (eval o X.env) = eval o X.env
  few : ((backTo cpos (starEach [e] X.env)).all (fun x => !x.1) && (backToKw cpos (keywordEach [] X.env)).all (fun x => x.1.isSome)
    && decide (([e] : List Expr).length + ([] : List Keyword).length + (if ([] : List Keyword).isEmpty then 0 else 1) < 30)) = true
  line : (apos.endLine == cpos.line) = true
  trees : backTo cpos (starEach [e] X.env) = [(false, eval e X.env)]
section
variable {X : Cx} {pins : List (Addr × Obj)} {σ : St} {H : Hp} {s : Shared} {a : Addr} {y d : V} {u r : Value} {o : Option V} {A : Around} {E : Value → Shared → Prop}
end

section
variable {X : Cx} {o e f : Expr} {apos cpos : Pos} {td ty tx : TE}
end

/-! ### dict(d): a copy -/
section
variable {X : Cx} {pins : List (Addr × Obj)} {σ : St} {H : Hp} {s : Shared} {a : Addr} {kvs : List (Key × V)} {A : Around} {E : Value → Shared → Prop}
end


section
variable {X : Cx} {pins : List (Addr × Obj)} {σ : St} {H : Hp} {s : Shared} {a : Addr} {y : V} {u : Value} {A : Around} {E : Value → Shared → Prop}
end
end L2
namespace Att
open PySem PySem.W PySem.Calls PyProof.Rows

/-! ### the script -/
theorem ints_of_wellAll {P : Params} {h : Heap} : ∀ (ns : List Int) (vs : List Value), WellAll P h vs (ns.map WData.int) → IntsAre vs ns := by
  intro ns
  induction ns with
  | nil =>
    intro vs w
    rw [List.map_nil] at w
    cases w
    exact .nil
  | cons n ns ih =>
    intro vs w
    rw [List.map_cons] at w
    cases w with
    | cons a b =>
      cases a
      exact .cons _ _ (ih _ b)

theorem script_of {l : OpenLaw} {n : Nat} (hn : l.most = some n) {P : Params} {h : Heap} {args : List WData} {vals : List Value}
    (hpre : l.row.toRowW.claim.pre args = true) (hwl : WellAll P h vals args) :
    ∃ a vs ns, vals = [Value.ref a] ∧ args = [WData.list (ns.map WData.int)] ∧ h.get? a = some { cls := .type "list", data := .seq vs.toArray } ∧ IntsAre vs ns ∧ ns.length ≤ n := by
  have hsh : WShape.hasAll [] args [.list .int] = true := (pre_splitW hpre).1
  have hc : l.pre.holds [] { args := args } = true := (pre_splitW hpre).2
  obtain ⟨d, r, rfl, h1, h2⟩ := hasAllW_cons hsh
  obtain rfl := hasAllW_nil h2
  obtain ⟨xs, rfl, h3⟩ := hasW_list h1
  obtain ⟨ns, rfl⟩ := items_int h3
  have hlen : ns.length ≤ n := by
    unfold OpenLaw.pre at hc
    have h4 : (WTm.not (.lt (.lit (.int (n : Int))) (.len (.arg 0)))).holds [] { args := [.list (ns.map .int)] } = true := by
      have h4 := (holds_andW hc).1
      rw [hn] at h4
      exact h4
    have h5 := condW_of h4 (w_not (w_lt w_lit (w_len_list (w_arg rfl))))
    rw [List.length_map] at h5
    refine Nat.le_of_not_lt fun q => ?_
    have q' : (n : Int) < ((ns.length : Nat) : Int) := by omega
    first
      | (rw [decide_eq_true q'] at h5; exact absurd h5 (by decide))
      | (simp at h5; omega)
  cases hwl with
  | cons w1 w2 =>
    cases w2
    cases w1 with
    | list ho hall => exact ⟨_, _, ns, rfl, rfl, ho, ints_of_wellAll ns _ hall, hlen⟩

theorem post_true (l : OpenLaw) (args : List WData) : l.row.toRowW.claim.post args (.bool true) args = true :=
  postW_of (r := l.row.toRowW) (X := (true == true))
    (show WShape.has [] (.bool true) .bool = true by first | rfl | decide | simp [WShape.has, WShape.arms, WShape.armsAll])
    (show (WTm.eq .res (.lit (.bool true))).value [] { args := args, res := some (.bool true), after := args } = some (.bool (true == true)) from w_eq_bool (w_res rfl) w_lit) rfl

/-! ### the attachment: holds_open's last premise (the goal 'hc' behind k_head) from a wpAny of the law's body -/
/-- the same from a codeAny of the CALL (for a layer whose function contracts speak of calls) -/
theorem attach_call {l : OpenLaw} {n : Nat} {q : Program} {loose : List Str} {XP : (Str → Option Value) → Heap → Prop} {YP : World → Heap → Prop} {d : DefRec}
    (hn : l.most = some n) (hdf : d.params.defaults = [])
    (call : ∀ (w : World) (s₀ s₁ : Shared) (mg mb : Str → Option Value) (fa : Addr) (o : Obj) (pm cd doc : Value) (a : Addr) (vs : List Value) (ns : List Int),
      Ground q loose [] XP w s₀ mg mb s₁.heap → YP w s₁.heap →
      s₁.heap.get? fa = some o → o.data = .func (docDef d.name d.params d.body d.scope pm cd doc) → s₁.heap.CodeRec cd d.name → mg d.name = some (.ref fa) →
      s₁.heap.get? a = some { cls := .type "list", data := .seq vs.toArray } → IntsAre vs ns → ns.length ≤ n → s₁.gens = #[] →
      codeAny (model l.prog w) callerA (.call (.ref fa) ⟨[.ref a], []⟩) (fun r s' => r = .ok (.ret (.bool true)) ∧ OldK s₁.heap s'.heap ∧ s'.os = s₁.os ∧ AllBare s'.gens) s₁) :
    WalkO q loose XP YP l.row.toRowW d [] (fun f vs => PySem.call f vs) := by
  intro w s₀ s₁ mg mb G Y fa o pm cd doc dV kV ho hd hcd hD hmg hg args vals as hpre hlay hrd hwl hlo
  obtain rfl : dV = .none := Dflts.none hD hdf
  obtain rfl : kV = .none := Dflts.noKw hD
  obtain ⟨a, vs, ns, rfl, rfl, hobj, hints, hlen⟩ := script_of hn hpre hwl
  refine enter_call (codeAny_mono (call w s₀ s₁ mg mb fa o pm cd doc a vs ns G Y ho (fd_plain hd) hcd hmg hobj hints hlen hg) fun r s' hq => ?_)
  obtain ⟨rfl, h2, h3, h4⟩ := hq
  exact ⟨.inl ⟨.bool true, .bool true, [], rfl, fun _ => rfl, .bool true, post_true l _, fun _ => ⟨List.Pairwise.nil, fun _ hm => (nomatch hm)⟩⟩, h2, h3, h4⟩

/-! ### rules over ANY heap (no ledger) from facts about the written part K: the library's own take a ledger (News) for what they write -/
section
variable {prog : Program} {w : World} {A : Around} {E : Value → Shared → Prop} {s : Shared} {K : Frag}

/-! the whole heap as the ledger: makes every rule that writes through a ledger a rule over any heap -/
def ledger (h : Heap) (L d : Addr) : List (Addr × Obj) := (List.range h.objs.size).filterMap fun a => if a = L ∨ a = d then none else (h.get? a).map fun o => (a, o)
end
end Att

namespace L2
open PySem PySem.Spec PyProof.Rows

theorem vals_ints : ∀ {vs : List Value} {ns : List Int}, IntsAre vs ns → Vals (ns.map V.int) vs
  | _, _, .nil => .nil
  | _, _, .cons n t h => .cons ⟨t, rfl⟩ (vals_ints h)

/-- nothing is tracked but the script, known to the object (or it is an object of the module) -/
def Only (H : Hp) : Prop := ∀ b, H b = none ∨ ∃ o xs, H b = some (.frz o (.lst xs))

/-- THE HEAD: the law's promise, at the heap behind the top. F, the promise of the law's def, may use that base is part of the heap (so K.In base, base.Ns mainGlobals mg stand in Mod) -/
theorem law_call {P : Program} {w : World} {K : PySem.W.Frag} {mg mb : Str → Option Value} {CX : CXT} {k : Nat} {fa a : Addr} {fd : FuncData} {x : Str} {sp : Sp} {s₁ : Shared} {vs : List Value} {ns : List Int}
    (KX : K.In s₁.heap) (hns : s₁.heap.Ns mainGlobals mg) (hb : s₁.heap.Ns builtinsNs mb) (hbb : ∀ x : Str, x ≠ "__name__" → mb x = bootBuiltins x) (hlim : s₁.heap.NoLimit) (hg : s₁.gens = #[])
    (ha : s₁.heap.get? a = some { cls := .type "list", data := .seq vs.toArray }) (hi : IntsAre vs ns) (hl : ns.length ≤ sizeLine) (hr : Room k callerA)
    (F : ∀ base : Heap, K.In base → base.Ns mainGlobals mg → FnOk P w K mg base CX k fa fd [x] sp) (hbind : ∀ (s : Shared) (u : Value), BindsTo s fd ⟨[u], []⟩ [(x, u)])
    (hsp : ∀ H : Hp, Only H → SqL K H a (ns.map V.int) → sp [.ref a] H (fun v _ => v = .bl true) fun _ _ _ => False)
    (hCX : ∀ H e s', CX [] H s₁ (fun _ _ _ => False) e s' → False) :
    codeAny (model P w) callerA (.call (.ref fa) ⟨[.ref a], []⟩) (fun r s' => r = .ok (.ret (.bool true)) ∧ OldK s₁.heap s'.heap ∧ s'.os = s₁.os ∧ AllBare s'.gens) s₁ := by
  have rv := vals_ints hi
  have lenV := hi.length
  -- from an abstract heap in which nothing but the script may be tracked
  have core : ∀ H : Hp, Only H → SqL K H a (ns.map V.int) → HOk P w H s₁.heap → (∀ b, H b ≠ none → b = a) → (H a ≠ none → K.lookup a = none) →
      codeAny (model P w) callerA (.call (.ref fa) ⟨[.ref a], []⟩) (fun r s' => r = .ok (.ret (.bool true)) ∧ OldK s₁.heap s'.heap ∧ s'.os = s₁.os ∧ AllBare s'.gens) s₁ := by
    intro H hO hS hok hA hK
    have base_of : ∀ {b : Addr} {o : Obj}, s₁.heap.get? b = some o → H b = none → (hidT s₁.heap H).get? b = some o := fun e n => hidT_get e n
    have noA : ∀ {b : Addr} {o : Obj} {es : Array DictEntry} {ep : Nat}, s₁.heap.get? b = some o → o.data = .dict es ep → H b = none := fun {b o es ep} e d => by
      cases q : H b with
      | none => rfl
      | some u =>
        have e' : b = a := hA b (by rw [q]; simp)
        subst e'
        rw [ha] at e; cases e
        have d' : Data.seq vs.toArray _ = Data.dict es ep := d
        cases d'
    have nsK : ∀ {b : Addr} {m : Str → Option Value}, s₁.heap.Ns b m → (hidT s₁.heap H).Ns b m := fun {b m} ⟨o, es, ep, e, d, r⟩ => ⟨o, es, ep, base_of e (noA e d), d, r⟩
    have hKb : K.In (hidT s₁.heap H) := fun b o e => base_of (KX b o e) (by
      cases q : H b with
      | none => rfl
      | some u =>
        have e' : b = a := hA b (by rw [q]; simp)
        subst e'
        rw [hK (by rw [q]; simp)] at e; cases e)
    have hM : Mod K mg (hidT s₁.heap H) := ⟨hKb, nsK hns, ⟨mb, nsK hb, hbb⟩, let ⟨mc, h1, h2⟩ := hlim; ⟨mc, nsK h1, h2⟩⟩
    have e0 : Env0 P w K mg (hidT s₁.heap H) callerA [] s₁ H := ⟨rfl, hM, fun b o e => of_hidT e, Nat.le_of_eq (hidT_size _ _), trivial, fun b hb => absurd (show b ∈ ([] : List Addr) from hb) (by simp), hok, .of_eq hg⟩
    refine codeAny_mono ((F _ hKb (nsK hns)).run callerA [] s₁ H ⟨[.ref a], []⟩ [.ref a] [.ref a] _ _ hr e0 (hbind s₁ (.ref a)) (.cons rfl .nil) (hsp H hO hS)) fun r s' h => ?_
    cases r with
    | error e => exact (hCX H e s' h).elim
    | ok fl =>
      cases fl with
      | next => exact False.elim h
      | brk => exact False.elim h
      | cont => exact False.elim h
      | ret u =>
        obtain ⟨v, H', os, bare, un, hok', r', q⟩ := h
        have q' : v = .bl true := q
        subst q'
        obtain rfl : u = Value.bool true := r'
        refine ⟨rfl, OldK.of_keep fun b o e => ?_, os, bare⟩
        cases q : H b with
        | none => exact un.keep b o e q (by intro z; exact absurd (show b ∈ ([] : List Addr) from z) (by simp)) (by simp)
        | some u =>
          rcases hO b with z | ⟨ob, xs, z⟩
          · rw [q] at z; cases z
          · have z2 := un.frzs b ob _ z
            obtain ⟨e1, _⟩ := hok b _ z
            obtain ⟨e2, _⟩ := hok' b _ z2
            rw [e] at e1; cases e1
            exact e2
  cases hk : K.lookup a with
  | some o =>
    -- the script is one of the module's own objects
    have e := KX a o hk
    rw [ha] at e
    cases e
    refine core (fun _ => none) (fun _ => .inl rfl) (.inr ⟨_, vs.toArray, _, hk, rfl, rfl, rfl, by rw [List.size_toArray, lenV]; exact hl, by simpa using rv⟩) (fun b u z => by have z' : (none : Option HO) = some u := z; cases z') (fun b z => absurd rfl z) fun z => absurd rfl z
  | none =>
    refine core (fun b => if b = a then some (.frz { cls := .type "list", data := .seq vs.toArray } (.lst (ns.map V.int))) else none) (fun b => ?_) (.inl (.inr ⟨{ cls := .type "list", data := .seq vs.toArray }, if_pos rfl⟩)) (fun b u z => ?_) (fun b z => ?_) fun _ => hk
    · by_cases hb : b = a
      · exact .inr ⟨_, _, if_pos hb⟩
      · exact .inl (if_neg hb)
    · by_cases hb : b = a
      · have z' := (if_pos hb).symm.trans z
        cases z'
        subst hb
        exact ⟨ha, by rw [List.length_map]; exact hl, vs, _, rv, ha⟩
      · have z' := (if_neg hb).symm.trans z
        cases z'
    · by_cases hb : b = a
      · exact hb
      · exact absurd (if_neg hb) z
end L2

namespace L2
open PySem PySem.Spec PyProof.Rows

/-- the goal that k_head leaves (case hc), from the law's promise. F gives the function object fd (K's own) once, then the promise over every base -/
theorem walk_of {l : PySem.W.OpenLaw} {n k : Nat} {q : Program} {loose : List Str} {XP : (Str → Option Value) → Heap → Prop} {YP : World → Heap → Prop} {d : DefRec} {K : Params → PySem.W.Frag} {CX : World → CXT} {sp : World → Sp} {x : Str}
    (hn : l.most = some n) (hn2 : n ≤ sizeLine) (hdf : d.params.defaults = []) (hr : Room k callerA)
    (hY : ∀ (w : World) (h : Heap), YP w h → (K w.params).In h)
    (F : ∀ (w : World) (mg : Str → Option Value) (fa : Addr) (h : Heap), (K w.params).In h → h.Ns mainGlobals mg → mg d.name = some (.ref fa) →
      ∃ fd : FuncData, (∀ (s : Shared) (u : Value), BindsTo s fd ⟨[u], []⟩ [(x, u)]) ∧
        ∀ base : Heap, (K w.params).In base → base.Ns mainGlobals mg → FnOk l.prog w (K w.params) mg base (CX w) k fa fd [x] (sp w))
    (hsp : ∀ (w : World) (H : Hp) (a : Addr) (ns : List Int), ns.length ≤ n → Only H → SqL (K w.params) H a (ns.map V.int) → sp w [.ref a] H (fun v _ => v = .bl true) fun _ _ _ => False)
    (hCX : ∀ (w : World) (H : Hp) (s : Shared) (e : Value) (s' : Shared), CX w [] H s (fun _ _ _ => False) e s' → False) :
    PySem.W.WalkO q loose XP YP l.row.toRowW d [] (fun f vs => PySem.call f vs) := by
  refine Att.attach_call hn hdf fun w s₀ s₁ mg mb fa o pm cd doc a vs ns G Y ho hd hcd hmg hobj hints hlen hg => ?_
  have KX := hY w _ Y
  obtain ⟨fd, hb, hF⟩ := F w mg fa _ KX G.T.g hmg
  exact law_call KX G.T.g G.T.b G.T.builtins G.T.nolimit hg hobj hints (Nat.le_trans hlen hn2) hr hF hb (fun H hO hS => hsp w H a ns hlen hO hS) fun H e s' => hCX w H s₁ e s'
end L2


/-! SHORT WORDS over the layer: a def of the text, its body, what a loop and a test want. -/
namespace L2
open PySem PySem.Spec PyProof.Rows

/-! ### the text by places -/
/-- the j-th statement of a class's body -/
def inClass (s : Stmt) (j : Nat) : Stmt := match s with
  | .ClassDef _ _ _ body _ _ _ _ _ _ _ => body.getD j (.Pass ⟨0, 0, 0, 0⟩)
  | _ => .Pass ⟨0, 0, 0, 0⟩
def defArgs (s : Stmt) : Arguments := match s with
  | .FunctionDef _ a _ _ _ _ _ _ _ _ => a
  | _ => { posonlyargs := [], args := [], vararg := none, kwonlyargs := [], kw_defaults := [], kwarg := none, defaults := [] }
def defBody (s : Stmt) : List Stmt := match s with
  | .FunctionDef _ _ b _ _ _ _ _ _ _ => b
  | _ => []
def defScope (s : Stmt) : Scope := match s with
  | .FunctionDef _ _ _ _ _ _ sc _ _ _ => sc
  | _ => { kind := .function, names := [], isGenerator := false, isCoroutine := false }

/-! ### no exception leaves a def -/
abbrev CX0 : CXT := fun _ _ _ _ _ _ => False
abbrev E0 : XK := fun _ _ _ => False
theorem pass0 {X : Cx} : Passes CX0 X E0 := fun _ _ _ _ _ _ _ h => h.elim

/-! ### a def (or method) of the text as it stands behind the top -/
structure Fun (K : PySem.W.Frag) (x qual : Str) (st : Stmt) (f : Addr) (fd : FuncData) : Prop where
  ex : ∃ (oc : Value) (od : Option Addr) (kV doc pm : Value) (an : Option Addr) (cdv ct : Value) (osl : Array (Option Value)),
    fd = PySem.W.fnOf x qual (defArgs st) (defBody st) (defScope st) .none kV doc pm an cdv ct ∧ K.lookup f = some ⟨oc, od, .func fd, osl⟩ ∧ PySem.W.codeIn K cdv qual = true
  kp : PySem.W.keepIn K (.ref f) = true
section
variable {P : Program} {w : World} {K : PySem.W.Frag} {mg : Str → Option Value} {base : Heap}
/-- THE RULE for a def: its body as a term of rules, and the reading of that term -/
theorem Fun.ok {x qual : Str} {st : Stmt} {f : Addr} {fd : FuncData} {N ps : List Str} {k : Nat} {sp : Sp} (F : Fun K x qual st f fd) (S : FnScope N ps (defScope st)) (len : ∀ vs H Q E, sp vs H Q E → vs.length = ps.length)
    (hbody : ∀ (cdv : Value) (A : Around) (outer : List Env) (s : Shared) (H : Hp) (vs : List V) (Q : VK) (E : XK), Room k (A.deeper (envOfC qual (defScope st) s.heap.objs.size f cdv)) → sp vs H Q E →
      ∃ t, PSs (cxOf CX0 P w K mg base N qual (defScope st) f cdv A outer s H E).nox (defBody st) t ∧ t { nx := fun _ H' => Q .non H', rt := Q } (start N vs) H) : FnOk P w K mg base CX0 (k + 1) f fd ps sp := by
  obtain ⟨oc, od, kV, doc, pm, an, cdv, ct, osl, rfl, lk, hcd⟩ := F.ex
  refine fn_of lk hcd S len fun A outer s H vs Q E hr hsp => ?_
  obtain ⟨t, h, q⟩ := hbody cdv A outer s H vs Q E hr hsp
  exact ⟨t, h.nox, q⟩
/-- how its arguments bind (no defaults): h is «fun _ _ _ _ _ _ us hl => match us, hl with | [_, _], _ => rfl», one _ a parameter -/
theorem Fun.binds {x qual : Str} {st : Stmt} {f : Addr} {fd : FuncData} {ps : List Str} (F : Fun K x qual st f fd)
    (h : ∀ (kV doc pm : Value) (an : Option Addr) (cdv ct : Value) (us : List Value), us.length = ps.length → bindArgs (PySem.W.fnOf x qual (defArgs st) (defBody st) (defScope st) .none kV doc pm an cdv ct) ⟨us, []⟩ = pure (ps.zip us)) : Binds K fd ps [] := by
  obtain ⟨oc, od, kV, doc, pm, an, cdv, ct, osl, rfl, lk, hcd⟩ := F.ex
  exact .all (h kV doc pm an cdv ct)
theorem fun_mk {x qual : Str} {st : Stmt} {f : Addr} {oc : Value} {od an : Option Addr} {osl : Array (Option Value)} {kV doc pm cdv ct : Value} (l : K.lookup f = some ⟨oc, od, .func (PySem.W.fnOf x qual (defArgs st) (defBody st) (defScope st) .none kV doc pm an cdv ct), osl⟩)
    (c : PySem.W.codeIn K cdv qual = true) (k : PySem.W.keepIn K (.ref f) = true) : Fun K x qual st f (PySem.W.fnOf x qual (defArgs st) (defBody st) (defScope st) .none kV doc pm an cdv ct) := ⟨⟨oc, od, kV, doc, pm, an, cdv, ct, osl, rfl, l, c⟩, k⟩
end
theorem hu_of {A : Around} {k : Nat} (hr : Room k A) : A.units + 1 < cLine := Nat.lt_of_le_of_lt (Nat.add_le_add_left (by decide : 1 ≤ 64) _) hr.units
theorem small1000 {n : Nat} (h : n ≤ 1000) : n < sizeLine := Nat.lt_of_le_of_lt h (by decide)

/-! ### expressions in short: the name that stands in the i-th slot -/
section
variable {X : Cx}
theorem pv (i : Nat) {x : Str} {pos : Pos} (hN : X.N[i]? = some x := by rfl) (hv : Vis X.env.scope x := by first | exact Or.inl rfl | exact Or.inr (Or.inl rfl) | exact Or.inr (Or.inr rfl)) (hd : (x == ("__debug__" : Str)) = false := by decide)
    (hcd : (x == ("__classdict__" : Str)) = false := by decide) : PE X (.Name x pos) (tVar i) := pe_var hN hv hd hcd
end

/-! ### tests -/
theorem iteF {A B : Prop} (h : B) : if false = true then A else B := by
  rw [if_neg Bool.false_ne_true]
  exact h
theorem iteT {A B : Prop} (h : A) : if true = true then A else B := by
  rw [if_pos rfl]
  exact h
theorem ite2 {c A B : Prop} [Decidable c] (h1 : c → A) (h2 : ¬ c → B) : if c then A else B := by
  by_cases h : c
  · rw [if_pos h]
    exact h1 h
  · rw [if_neg h]
    exact h2 h
/-! ### heaps -/
/-- all that was tracked is as it was -/
def Same (H H' : Hp) : Prop := ∀ b o, H b = some o → H' b = some o
theorem Same.refl (H : Hp) : Same H H := fun _ _ h => h
theorem Same.trans {H H1 H2 : Hp} (a : Same H H1) (b : Same H1 H2) : Same H H2 := fun c o h => b c o (a c o h)
theorem Same.free {H H' : Hp} (e : Same H H') {l : Addr} (h : H' l = Option.none) : H l = Option.none := by
  cases q : H l with
  | none => rfl
  | some o =>
    rw [e l o q] at h
    cases h
theorem Same.seq {K : PySem.W.Frag} {H H' : Hp} {a : Addr} {xs : List V} (e : Same H H') (h : SqL K H a xs) : SqL K H' a xs := by
  rcases h with (h | ⟨o, h⟩) | h
  · exact .inl (.inl (e _ _ h))
  · exact .inl (.inr ⟨o, e _ _ h⟩)
  · exact .inr h

end L2

namespace L2
open PySem PySem.Spec PyProof.Rows
section
variable {X : Cx}
end
/-! ### a dict's pairs: keys that differ -/
section
variable {κ : Type} [DecidableEq κ]
end
end L2

set_option Elab.async false
set_option linter.all false
set_option maxRecDepth 100000
set_option maxHeartbeats 4000000
namespace L2
open PySem PySem.Spec PyProof.Rows

/-! ### a comprehension's block -/
/-- the cells that a block takes along -/
def clB (env : Env) (fr : List Str) : List (Str × Addr) := fr.map fun n => (n, (env.cells.lookup n).getD 0)
theorem clB_look {env : Env} : ∀ {fr : List Str} {x : Str} {c : Addr}, (clB env fr).lookup x = some c → x ∈ fr ∧ c = (env.cells.lookup x).getD 0
  | [], x, c, h => by simp [clB] at h
  | n :: r, x, c, h => by
    have h' : List.lookup x ((n, (env.cells.lookup n).getD 0) :: clB env r) = some c := h
    rw [List.lookup_cons] at h'
    cases e : x == n with
    | true =>
      rw [e] at h'
      have e' : x = n := by simpa using e
      subst e'
      exact ⟨List.mem_cons_self, (Option.some.inj h').symm⟩
    | false =>
      rw [e] at h'
      obtain ⟨h1, h2⟩ := clB_look h'
      exact ⟨List.mem_cons_of_mem _ h1, h2⟩
theorem clB_in {env : Env} : ∀ {fr : List Str} {x : Str}, x ∈ fr → (clB env fr).lookup x = some ((env.cells.lookup x).getD 0)
  | n :: r, x, h => by
    show List.lookup x ((n, (env.cells.lookup n).getD 0) :: clB env r) = _
    rw [List.lookup_cons]
    cases e : x == n with
    | true =>
      have e' : x = n := by simpa using e
      subst e'
      rfl
    | false =>
      rcases List.mem_cons.mp h with z | z
      · subst z; simp at e
      · exact clB_in z
/-- the names of the block as it runs -/
theorem relabel_mem {env : Env} : ∀ {names : List (Str × NameKind)} {x : Str} {k : NameKind},
    (names.map fun (n, k) => if (k == NameKind.free && env.scope.kind == .function && env.kindOf n == some .cell) then (n, NameKind.cell) else (n, k)).lookup x = some k →
    ∃ k0, (x, k0) ∈ names ∧ (k = k0 ∨ (k0 = .free ∧ k = .cell))
  | [], _, _, h => by simp at h
  | (n, k0) :: r, x, k, h => by
    have h' : List.lookup x ((if (k0 == NameKind.free && env.scope.kind == .function && env.kindOf n == some .cell) = true then (n, NameKind.cell) else (n, k0)) ::
      (r.map fun (n, k) => if (k == NameKind.free && env.scope.kind == .function && env.kindOf n == some .cell) then (n, NameKind.cell) else (n, k))) = some k := h
    by_cases hc : (k0 == NameKind.free && env.scope.kind == .function && env.kindOf n == some .cell) = true
    · rw [if_pos hc, List.lookup_cons] at h'
      cases e : x == n with
      | true =>
        rw [e] at h'
        have e' : x = n := by simpa using e
        subst e'
        simp only [Bool.and_eq_true] at hc
        exact ⟨k0, List.mem_cons_self, .inr ⟨by simpa using hc.1.1, (Option.some.inj h').symm⟩⟩
      | false =>
        rw [e] at h'
        obtain ⟨k1, h1, h2⟩ := relabel_mem h'
        exact ⟨k1, List.mem_cons_of_mem _ h1, h2⟩
    · rw [if_neg hc, List.lookup_cons] at h'
      cases e : x == n with
      | true =>
        rw [e] at h'
        have e' : x = n := by simpa using e
        subst e'
        exact ⟨k0, List.mem_cons_self, .inl (Option.some.inj h').symm⟩
      | false =>
        rw [e] at h'
        obtain ⟨k1, h1, h2⟩ := relabel_mem h'
        exact ⟨k1, List.mem_cons_of_mem _ h1, h2⟩
theorem relabel_free {env : Env} (hk : env.scope.kind = .function) : ∀ {names : List (Str × NameKind)} {x : Str}, names.lookup x = some .free → env.kindOf x = some .cell →
    (names.map fun (n, k) => if (k == NameKind.free && env.scope.kind == .function && env.kindOf n == some .cell) then (n, NameKind.cell) else (n, k)).lookup x = some .cell
  | [], _, h, _ => by simp at h
  | (n, k0) :: r, x, h, hx => by
    show List.lookup x ((if (k0 == NameKind.free && env.scope.kind == .function && env.kindOf n == some .cell) = true then (n, NameKind.cell) else (n, k0)) ::
      (r.map fun (n, k) => if (k == NameKind.free && env.scope.kind == .function && env.kindOf n == some .cell) then (n, NameKind.cell) else (n, k))) = some .cell
    rw [List.lookup_cons] at h
    cases e : x == n with
    | true =>
      rw [e] at h
      have e' : x = n := by simpa using e
      subst e'
      have h0 : k0 = .free := Option.some.inj h
      subst h0
      rw [if_pos (by rw [hk, hx]; decide), List.lookup_cons]
      simp
    | false =>
      rw [e] at h
      have ih := relabel_free hk h hx
      split
      · rw [List.lookup_cons, e]; exact ih
      · rw [List.lookup_cons, e]; exact ih

/-- the block's context: entered at s (the iterator and the list stand), its frame at C -/
abbrev compCx (X : Cx) (pins : List (Addr × Obj)) (sc : Scope) (fr Nc : List Str) (fp : List Addr) (s : Shared) (H : Hp) (C : Addr) : Cx :=
  { prog := X.prog, w := X.w, K := X.K, mg := X.mg, base := X.base, A := X.A, N := Nc, s₀ := s, H₀ := H, env := compEnvC sc (clB X.env fr) C X.env,
    outer := X.stack, stack := X.stack, ex := fp, fn := fun _ => false, calm := X.calm, pn := X.pn ++ pins, xe := fun _ _ => False }
/-- what is asked of the block's names -/
structure BlockOk (env : Env) (sc : Scope) (fr : List Str) : Prop where
  kind : sc.kind = .function
  clos : closureFor sc env = pure (clB env fr)
  cells : (fr.all fun n => (env.cells.lookup n).isSome) = true
  names : (sc.names.all fun y => (y.2 != .cell) && (y.2 != .free || fr.contains y.1) && (y.2 != .local || sc.names.lookup y.1 == some .local)) = true
/-- which of the block's names are the def's, at which slot -/
def capChk (N Nc : List Str) (caps : List (Option Nat)) (env : Env) (sc : Scope) (fr : List Str) : Bool :=
  (Nc.zip caps).all fun p => match p.2 with
    | none => true
    | some j => (N[j]? == some p.1) && (env.kindOf p.1 == some .cell) && (sc.names.lookup p.1 == some .free) && fr.contains p.1
def capS (caps : List (Option Nat)) (σ : St) : St := caps.map fun o => match o with
  | none => none
  | some j => (σ[j]?).join
section
variable {X : Cx} {pins : List (Addr × Obj)} {σ : St} {H : Hp} {s : Shared} {sc : Scope} {fr Nc : List Str} {fp : List Addr} {C : Addr}
theorem BlockOk.sub {env : Env} (B : BlockOk env sc fr) {x : Str} {c : Addr} (h : (clB env fr).lookup x = some c) : env.cells.lookup x = some c := by
  obtain ⟨h1, h2⟩ := clB_look h
  have h3 := List.all_eq_true.mp B.cells x h1
  obtain ⟨d, hd⟩ := Option.isSome_iff_exists.mp h3
  rw [hd] at h2 ⊢
  rw [h2]; rfl
theorem BlockOk.free {env : Env} (B : BlockOk env sc fr) {x : Str} {k : NameKind} (h : (relabel sc env).names.lookup x = some k) (hk : k = .cell ∨ k = .free) : x ∈ fr := by
  obtain ⟨k0, h1, h2⟩ := relabel_mem h
  have h3 := List.all_eq_true.mp B.names _ h1
  simp only [Bool.and_eq_true, Bool.or_eq_true, bne_iff_ne, ne_eq, List.contains_iff_mem] at h3
  have h4 : k0 = .free := by
    rcases h2 with h2 | ⟨h2, _⟩
    · subst h2
      rcases hk with z | z
      · exact absurd z h3.1.1
      · exact z
    · exact h2
  rcases h3.1.2 with z | z
  · exact absurd h4 z
  · exact z
theorem comp_ok (I : Inv X pins σ H s) (B : BlockOk X.env sc fr) (hf : ∀ b ∈ fp, FpOk X pins H b) (ho : ∀ b ∈ fp, ∃ o, s.heap.get? b = some o) (hC : s.heap.objs.size ≤ C) : (compCx X pins sc fr Nc fp s H C).Ok where
  mod := I.ok.mod
  kind := B.kind
  glob := I.ok.glob
  blt := I.ok.blt
  above := hC
  inj := fun x y c h1 h2 => I.ok.inj x y c (B.sub h1) (B.sub h2)
  has := fun x h => by
    have hx : x ∈ fr := by
      rcases h with h | h
      · exact B.free h (.inl rfl)
      · exact B.free h (.inr rfl)
    exact ⟨_, clB_in hx⟩
  cab := fun x c h => absurd h (by simp)
  hd := I.ok.hd
  frames := I.ok.frames
  stk := .inl rfl
  exf := fun b hb => by
    obtain ⟨o, e⟩ := ho b hb
    refine ⟨fun z => ?_, fun x c h => (hf b hb).2.2.2.2.1 x c (B.sub h)⟩
    have z' : b = C := z
    have := Heap.lt_size e
    rw [z'] at this
    exact absurd (Nat.lt_of_lt_of_le this hC) (Nat.lt_irrefl _)
  bs := I.bs
  bsz := Nat.le_trans I.ok.bsz I.sz
  noex := fun b o e hb => by
    rcases (hf b hb).2.2.2.1 with z | z
    · exact I.ok.noex b o e z
    · exact absurd (Nat.lt_of_lt_of_le (Heap.lt_size (I.ok.bs b o e).1) z) (Nat.lt_irrefl _)
  exfs := fun b hb h => by
    rcases List.mem_cons.mp (I.stkSub b h) with z | z
    · exact (hf b hb).2.1 z
    · exact (hf b hb).2.2.1 z
  funs := I.stack
  frf := I.stkFree
theorem Inv.pin_lt (I : Inv X pins σ H s) {p : Addr × Obj} (hp : p ∈ X.pn ++ pins) : p.1 < s.heap.objs.size := Heap.lt_size (I.pin p hp).1
/-- the block at its entry: the list at D, the frame at C, both new -/
theorem comp_start {caps : List (Option Nat)} {h' : Heap} {D : Addr} {m : Str → Option Value} {t' n0 : Nat} (I : Inv X pins σ H s) (B : BlockOk X.env sc fr) (hf : ∀ b ∈ fp, FpOk X pins H b) (ho : ∀ b ∈ fp, ∃ o, s.heap.get? b = some o)
    (hC : s.heap.objs.size ≤ C) (hD : s.heap.objs.size ≤ D) (hDC : D ≠ C) (keep : ∀ b o, s.heap.get? b = some o → h'.get? b = some o) (hl : h'.get? D = some { cls := .type "list", data := .seq ([] : List Value).toArray n0 }) (hn : h'.Ns C m)
    (hcap : capChk X.N Nc caps X.env sc fr = true) (hlen : caps.length = Nc.length) :
    Inv (compCx X pins sc fr Nc fp s H C) [] (capS caps σ) (upd H D (.lst [])) { s with heap := h', toks := t' } := by
  have hk : X.env.scope.kind = .function := I.ok.kind
  have fresh : ∀ a, s.heap.objs.size ≤ a → H a = none := fun a ha => I.hok.fresh ha
  refine ⟨comp_ok I B hf ho hC, rfl, I.bare, Un.laid keep hD (fresh D hD), ⟨m, hn, fun i x v e1 e2 e3 => ?_⟩, fun x c h => ?_, ?_, fun x c h => ?_, fun p hp => ?_, ?_, ?_⟩
  · -- a captured name
    have e2' : (caps[i]?).map (fun o => match o with | none => none | some j => (σ[j]?).join) = some (some v) := by
      have : (capS caps σ)[i]? = some (some v) := e2
      unfold capS at this
      rw [List.getElem?_map] at this
      exact this
    cases hc : caps[i]? with
    | none => rw [hc] at e2'; cases e2'
    | some o =>
      rw [hc] at e2'
      cases o with
      | none => simp at e2'
      | some j =>
        have e4 : (σ[j]?).join = some v := by simpa using e2'
        have e5 : σ[j]? = some (some v) := by
          cases q : σ[j]? with
          | none => rw [q] at e4; cases e4
          | some w' => rw [q] at e4; simp at e4; rw [e4]
        have e6 : (Nc.zip caps)[i]? = some (x, some j) := by
          rw [List.getElem?_zip_eq_some]
          exact ⟨e1, hc⟩
        have e7 := List.all_eq_true.mp hcap _ (List.mem_of_getElem? e6)
        simp only [Bool.and_eq_true, beq_iff_eq, List.contains_iff_mem] at e7
        obtain ⟨⟨⟨a1, a2⟩, a3⟩, a4⟩ := e7
        obtain ⟨m0, hn0, hl0⟩ := I.loc
        obtain ⟨u, r, l⟩ := hl0 j x v a1 e5 (.inr (.inl a2))
        refine ⟨u, r, .inr ⟨.inl (relabel_free hk a3 a2), _, clB_in a4, ?_⟩⟩
        rcases l with ⟨z, _⟩ | ⟨_, c, ec, hcell⟩
        · rw [a2] at z; cases z
        · have : (X.env.cells.lookup x).getD 0 = c := by rw [ec]; rfl
          rw [this]
          exact hcell.keeps keep
  · obtain ⟨v, hv⟩ := I.cell x c (B.sub h)
    exact ⟨v, hv.keeps keep⟩
  · show upd H D (.lst []) C = none
    rw [upd_ne (Ne.symm hDC)]; exact fresh C hC
  · obtain ⟨v, hv⟩ := I.cell x c (B.sub h)
    have : c ≠ D := fun z => by have := hv.lt; rw [z] at this; exact absurd (Nat.lt_of_lt_of_le this hD) (Nat.lt_irrefl _)
    rw [upd_ne this]; exact I.freeC x c (B.sub h)
  · have hp' : p ∈ X.pn ++ pins := by simpa using hp
    obtain ⟨e, n, ne, nf, d⟩ := I.pin p hp'
    have hlt := I.pin_lt hp'
    refine ⟨keep _ _ e, ?_, ?_, fun z => ?_, d⟩
    · rw [upd_ne (fun z => by rw [z] at hlt; exact absurd (Nat.lt_of_lt_of_le hlt hD) (Nat.lt_irrefl _))]; exact n
    · intro z
      have z' : p.1 = C := z
      rw [z'] at hlt; exact absurd (Nat.lt_of_lt_of_le hlt hC) (Nat.lt_irrefl _)
    · rcases List.mem_cons.mp (I.stkSub p.1 z) with q | q
      · exact ne q
      · exact nf q
  · exact I.hok.laid keep hD ⟨Nat.zero_le _, [], n0, .nil, hl⟩
  · show (capS caps σ).length = Nc.length
    unfold capS
    rw [List.length_map, hlen]
/-- back in the def -/
theorem comp_back {pl : List (Addr × Obj)} {σ' : St} {H' : Hp} {s' : Shared} (I : Inv X pins σ H s) (hf : ∀ b ∈ fp, FpOk X pins H b) (J : Inv (compCx X pins sc fr Nc fp s H C) pl σ' H' s') : Inv X pins σ H' s' :=
  I.call' J.os J.base J.hok J.bare fun b hb => ⟨(hf b hb).2.2.2.1, (hf b hb).2.1, (hf b hb).2.2.2.2.1, (hf b hb).2.2.2.2.2⟩
/-- .. the block's frame let go -/
theorem comp_gone {pl : List (Addr × Obj)} {σ' σ2 : St} {H' : Hp} {s' : Shared} {h2 : Heap} {t2 : Nat} (I : Inv X pins σ H s) (J : Inv (compCx X pins sc fr Nc fp s H C) pl σ' H' s') (J2 : Inv X pins σ2 H' s') (hs : Heap.SameBut C s'.heap h2) : Inv X pins σ2 H' { s' with heap := h2, toks := t2 } := by
  have hC : s.heap.objs.size ≤ C := J.ok.above
  refine J2.turned (it := C) (fun b o hb e => (hs.2 b hb).trans e) J.free ?_ (.inr (Nat.le_trans I.sz hC)) (fun x c h z => ?_) fun p hp z => ?_
  · intro z
    have := I.lt
    rw [← z] at this
    exact absurd (Nat.lt_of_lt_of_le this hC) (Nat.lt_irrefl _)
  · obtain ⟨v, hv⟩ := I.cell x c h
    have := hv.lt
    rw [z] at this
    exact absurd (Nat.lt_of_lt_of_le this hC) (Nat.lt_irrefl _)
  · have := I.pin_lt hp
    rw [z] at this
    exact absurd (Nat.lt_of_lt_of_le this hC) (Nat.lt_irrefl _)
end
end L2

set_option Elab.async false
set_option linter.all false
set_option maxRecDepth 100000
set_option maxHeartbeats 4000000
namespace L2
open PySem PySem.Spec PyProof.Rows

/-! ### the tests of a clause -/
def tTrue : TT := fun _ H Q => Q true H
structure PIf (X : Cx) (ifs : List Expr) (t : TT) : Prop where
  run : ∀ (pins : List (Addr × Obj)) (s : Shared) (σ : St) (H : Hp) (Q : Bool → Hp → Prop), Inv X pins σ H s → t σ H Q →
    wpAny (model X.prog X.w) X.A (forIn ifs true fun c r => if r = true then do let ok ← isTrue c X.env (eval c X.env); pure (ForInStep.yield ok) else pure (ForInStep.yield r)) (TP X pins σ Q) X.xe s
instance {X : Cx} {ifs : List Expr} {t : TT} : CoeFun (PIf X ifs t) (fun _ => ∀ (pins : List (Addr × Obj)) (s : Shared) (σ : St) (H : Hp) (Q : Bool → Hp → Prop), Inv X pins σ H s → t σ H Q →
    wpAny (model X.prog X.w) X.A (forIn ifs true fun c r => if r = true then do let ok ← isTrue c X.env (eval c X.env); pure (ForInStep.yield ok) else pure (ForInStep.yield r)) (TP X pins σ Q) X.xe s) := ⟨PIf.run⟩

theorem pif_nil {X : Cx} : PIf X [] tTrue := ⟨fun _ _ _ H _ I h => wpAny_tests_nil ⟨H, I, h⟩⟩
theorem pif_one {X : Cx} {c : Expr} {t : TT} (hc : PT X c t) : PIf X [c] t := ⟨fun pins s σ H Q I h => wpAny_tests_one (hc pins s σ H Q I h)⟩

/-! ### targets that write their own slots alone -/
def GOwn (g : TG) (ow : List Nat) : Prop :=
  ∀ (v : V) (σ : St) (H : Hp) (Q : St → Hp → Prop), g v σ H Q → g v σ H fun σ2 H2 => Q σ2 H2 ∧ σ2.length = σ.length ∧ ∀ i, i ∉ ow → σ2[i]? = σ[i]?
theorem gown_name (i : Nat) : GOwn (gName i) [i] := fun v σ H Q h => ⟨h, List.length_set .., fun j hj => List.getElem?_set_ne (fun e => hj (by simp [e]))⟩
theorem gown_tup2 {K : PySem.W.Frag} {n : Nat} (i j : Nat) : GOwn (gTup K n (gCons (gName i) (gCons (gName j) gNil))) [i, j] := by
  rintro v σ H Q ⟨a, xs, e1, e2, e3, v1, r1, e4, v2, r2, e5, e6, q⟩
  refine ⟨a, xs, e1, e2, e3, v1, r1, e4, v2, r2, e5, e6, q, by rw [List.length_set, List.length_set], fun k hk => ?_⟩
  have h1 : i ≠ k := fun e => hk (by simp [e])
  have h2 : j ≠ k := fun e => hk (by simp [e])
  rw [List.getElem?_set_ne h2, List.getElem?_set_ne h1]

/-! ### the loop of a comprehension -/
section
variable {prog : Program} {w : World} {A : Around} {R : Result → Shared → Prop} {s : Shared}
theorem compLoop_any {elt target iter : Expr} {ifs : List Expr} {scope : Scope} {pos : Pos} {it acc : Value} {env : Env} (I : Nat → Shared → Prop)
    (turn : ∀ n s, I n s → wpAny (model prog w) A (pyNext it) (fun r s₁ => match r with
      | none => R (.ok .next) s₁
      | some v => wpAny (model prog w) A (letOwnedTupleGo target it v) (fun _ s₀ => wpAny (model prog w) A (assign target env v) (fun _ s₂ =>
          wpAny (model prog w) A (forIn ifs true fun c r => if r = true then do let ok ← isTrue c env (eval c env); pure (ForInStep.yield ok) else pure (ForInStep.yield r)) (fun ok s₃ =>
            if ok = true then wpAny (model prog w) A (eval elt env) (fun x s₄ =>
              wpAny (model prog w) A (call (.builtin "list.append") [acc, x]) (fun _ s₅ => ∃ m, m < n ∧ I m s₅) (fun _ _ => False) s₄) (fun _ _ => False) s₃
            else ∃ m, m < n ∧ I m s₃) (fun _ _ => False) s₂) (fun _ _ => False) s₀) (fun _ _ => False) s₁) (fun _ _ => False) s)
    (n : Nat) (h : I n s) :
    codeAny (model prog w) A (.compLoop (.ListComp elt [⟨target, iter, ifs, 0⟩] scope pos) 0 it acc env) R s := by
  refine codeAny_loop rfl I (fun n s hI => ?_) n h
  show wpAny _ A ((compTurn (.ListComp elt [⟨target, iter, ifs, 0⟩] scope pos) 0 it acc env).onRaise (fun x => do noteFrame x env; theTreesLotGoes x)) _ _ s
  refine wpAny_noted ?_
  rw [compTurn_list]
  refine wpAny_bind (wpAny_standAt (wpAny_bind (wpAny_mono (turn n s hI) (fun r s₁ h₁ => ?_) fun _ _ z => z.elim)))
  cases r with
  | none => exact wpAny_pure h₁
  | some v =>
    refine wpAny_bind (wpAny_mono h₁ (fun _ s₀ h₀ => ?_) fun _ _ z => z.elim)
    refine wpAny_bind (wpAny_mono h₀ (fun _ s₂ h₂ => wpAny_bind (wpAny_mono h₂ (fun ok s₃ h₃ => ?_) fun _ _ z => z.elim)) fun _ _ z => z.elim)
    cases ok with
    | false => exact wpAny_pure ⟨rfl, h₃⟩
    | true =>
      exact wpAny_bind (wpAny_bind (wpAny_mono h₃ (fun x s₄ h₄ => wpAny_bind (wpAny_mono h₄ (fun _ s₅ h₅ => wpAny_pure (wpAny_pure ⟨rfl, h₅⟩)) fun _ _ z => z.elim)) fun _ _ z => z.elim))
end

/-! ### a list comprehension of one clause -/
/-- what is asked of a block that makes the list at D -/
def LCr (J : It) (caps : List (Option Nat)) (g : TG) (tt : TT) (te : TE) (σ : St) (H1 : Hp) (Q : VK) (D : Addr) : Prop :=
  ∃ W : Nat → Nat → List V → Hp → Prop, (∃ m, W 0 m [] (upd H1 D (.lst []))) ∧ ∀ i m ys H, W i m ys H →
    (J.stop i H ∧ Q (.ref D) H) ∨
    (J.go i H ∧ ∀ x H', J.yld i H x H' → g x (capS caps σ) H' fun σ2 H2 => tt σ2 H2 fun ok H3 =>
      (ok = true → te σ2 H3 fun v H4 => H4 D = some (.lst ys) ∧ ys.length < sizeLine ∧ ∃ m', m' < m ∧ W (i + 1) m' (ys ++ [v]) (upd H4 D (.lst (ys ++ [v])))) ∧
      (ok = false → ∃ m', m' < m ∧ W (i + 1) m' ys H3))
def tLC (wi : TI) (caps : List (Option Nat)) (g : TG) (tt : TT) (te : TE) : TE := fun σ H Q => wi σ H fun J H1 => ∀ D, H1 D = none → LCr J caps g tt te σ H1 Q D
section
variable {X : Cx} {pins : List (Addr × Obj)} {σ : St} {s : Shared} {sc : Scope} {fr Nc : List Str} {caps : List (Option Nat)} {elt tg iter : Expr} {ifs : List Expr} {g : TG} {tt : TT} {te : TE} {ow : List Nat} {pos pos2 : Pos} {E : Value → Shared → Prop}
theorem comp_run {H2 : Hp} {it : Addr} {fp : List Addr} {tn : Nat → Heap → Prop} {J : It} {Q : VK} {RR : Value → Addr → Result → Shared → Prop}
    (hc : X.calm = true) (B : BlockOk X.env sc fr) (go : GOwn g ow) (how : (ow.all fun i => caps[i]? == some none) = true) (hcap : capChk X.N Nc caps X.env sc fr = true) (hlen : caps.length = Nc.length)
    (hb : ∀ (pins : List (Addr × Obj)) (fp : List Addr) (s : Shared) (H : Hp) (C : Addr), PG (compCx X pins sc fr Nc fp s H C) tg g ∧ PIf (compCx X pins sc fr Nc fp s H C) ifs tt ∧ PE (compCx X pins sc fr Nc fp s H C) elt te)
    (I2 : Inv X pins σ H2 s) (T : Turn X.prog X.w X.K tg J fp it tn) (st2 : tn 0 s.heap) (f2 : ∀ b ∈ fp, FpOk X pins H2 b) (h : ∀ D, H2 D = none → LCr J caps g tt te σ H2 Q D)
    (fin : ∀ (D C : Addr) (σ' : St) (H' : Hp) (s' : Shared), Inv (compCx X pins sc fr Nc fp s H2 C) [] σ' H' s' → Q (.ref D) H' → RR (.ref D) C (.ok .next) s') :
    wpAny (model X.prog X.w) X.A (newList []) (fun acc s₃ => wpAny (model X.prog X.w) X.A (newFunctionEnv sc X.env.globals (clB X.env fr) [] X.env.qual none .none (some X.env)) (fun cenv s₄ =>
      codeAny (model X.prog X.w) X.A (.compStart (.ListComp elt [⟨tg, iter, ifs, 0⟩] sc pos) 0 (.ref it) acc { cenv with scope := relabel sc X.env }) (RR acc cenv.locals) s₄) E s₃) E s := by
  have hcell : ∀ y ∈ sc.names, y.2 ≠ .cell := fun y hy => by
    have h3 := List.all_eq_true.mp B.names _ hy
    simp only [Bool.and_eq_true, bne_iff_ne, ne_eq] at h3
    exact h3.1.1
  refine wpAny_newObj_type (wpAny_newFunctionEnv hcell (by intro y hy; simp at hy) (fun h₁ hns₁ hsb₁ => ?_) B.kind)
  dsimp only at hns₁ hsb₁ ⊢
  generalize hH2 : s.heap.push { cls := .type "list", dict := none, data := .seq ([] : List Value).toArray } = H3 at hns₁ hsb₁ ⊢
  have hCs : H3.objs.size = s.heap.objs.size + 1 := by rw [← hH2, Heap.size_push]
  have hDC : s.heap.objs.size ≠ H3.objs.size := by rw [hCs]; exact Nat.ne_of_lt (Nat.lt_succ_self _)
  have hC : s.heap.objs.size ≤ H3.objs.size := by rw [hCs]; exact Nat.le_succ _
  have old : ∀ b o, s.heap.get? b = some o → h₁.get? b = some o := fun b o e =>
    hsb₁.extBut b o (Nat.ne_of_lt (Nat.lt_of_lt_of_le (Heap.lt_size e) hC)) (Heap.get?_push_of_some _ (hH2 ▸ Heap.get?_push_of_some _ e))
  have hD : h₁.get? s.heap.objs.size = some { cls := .type "list", data := .seq ([] : List Value).toArray } := hsb₁.extBut _ _ hDC (Heap.get?_push_of_some _ (hH2 ▸ Heap.get?_push_size _ rfl))
  have ho : ∀ b ∈ fp, ∃ o, s.heap.get? b = some o := fun b hb' => let ⟨o, e, _⟩ := T.obj 0 _ st2 b hb'; ⟨o, e⟩
  have I4 : ∀ t', Inv (compCx X pins sc fr Nc fp s H2 H3.objs.size) [] (capS caps σ) (upd H2 s.heap.objs.size (.lst [])) { s with heap := h₁, toks := t' } := fun t' =>
    comp_start I2 B f2 ho hC (Nat.le_refl _) hDC old hD hns₁ hcap hlen
  have ok := (I4 0).ok
  obtain ⟨hbg, hbt, hbe⟩ := hb pins fp s H2 H3.objs.size
  obtain ⟨W, ⟨m0, w0⟩, turn⟩ := h s.heap.objs.size (I2.hok.fresh (Nat.le_refl _))
  have stat : ∀ {H' : Hp}, (∀ b ∈ fp, H' b = none) → ∀ b ∈ fp, FpOk (compCx X pins sc fr Nc fp s H2 H3.objs.size) [] H' b := fun hn b hb' =>
    ⟨hn b hb', (ok.exf b hb').1, ok.exfs b hb', .inl hb', (ok.exf b hb').2, fun p hp => (f2 b hb').2.2.2.2.2 p (by simpa using hp)⟩
  have hfp0 : ∀ b ∈ fp, upd H2 s.heap.objs.size (.lst []) b = none := fun b hb' => by
    obtain ⟨o, e⟩ := ho b hb'
    rw [upd_ne (Nat.ne_of_lt (Heap.lt_size e))]
    exact (f2 b hb').1
  have loop : ∀ s₃ : Shared, s₃ = { s with heap := h₁, toks := s.toks + ([] : List (Str × Value)).length } →
      codeAny (model X.prog X.w) X.A (.compLoop (.ListComp elt [⟨tg, iter, ifs, 0⟩] sc pos) 0 (.ref it) (.ref s.heap.objs.size) (compEnvC sc (clB X.env fr) H3.objs.size X.env)) (RR (.ref s.heap.objs.size) H3.objs.size) s₃ := by
    rintro s₃ rfl
    refine compLoop_any (fun n s' => ∃ i σ' H' ys, Inv (compCx X pins sc fr Nc fp s H2 H3.objs.size) [] σ' H' s' ∧ tn i s'.heap ∧ (∀ b ∈ fp, H' b = none) ∧ W i n ys H' ∧
      (∀ (k : Nat) (v : V), (capS caps σ)[k]? = some (some v) → σ'[k]? = some (some v))) ?_ m0
      ⟨0, _, _, [], I4 _, T.keep _ _ _ st2 (fun b _ o e => old b o e), hfp0, w0, fun _ _ e => e⟩
    rintro n s3 ⟨i, σ3, H4, ys, I3, st3, fr3, w3, wk3⟩
    have I3' : Inv (compCx X pins sc fr Nc fp s H2 H3.objs.size) [] (capS caps σ) H4 s3 := I3.weak (by rw [I3.len]; exact (I4 0).len) wk3
    rcases turn i n ys H4 w3 with ⟨stop, qn⟩ | ⟨gg, step⟩
    · refine thn (T.done (compCx X pins sc fr Nc fp s H2 H3.objs.size) rfl rfl rfl hc i [] s3 _ H4 (fun _ _ => False) I3' (stat fr3) st3 stop) fun r s4 ⟨hr, I4'⟩ => ?_
      subst hr
      exact fin _ _ _ _ _ I4' qn
    · refine thn (T.item (compCx X pins sc fr Nc fp s H2 H3.objs.size) rfl rfl rfl hc i [] s3 _ H4 (fun _ _ => False) I3' (stat fr3) st3 gg) fun r s4 ⟨u, hr, h4⟩ => ?_
      subst hr
      refine thn h4 fun _ s5 ⟨x, H5, I5, r5, y5, st5, fr5⟩ => ?_
      have I5' := I5.pinned (stat fr5) (T.obj _ _ st5)
      refine thn (hbg _ s5 _ H5 x u _ I5' r5 (go _ _ _ _ (step x H5 y5))) fun _ s6 ⟨σ6, H6, I6, q6, l6, k6⟩ => ?_
      have wk6 : ∀ (k : Nat) (v : V), (capS caps σ)[k]? = some (some v) → σ6[k]? = some (some v) := fun k v e => by
        rw [k6 k fun hk => ?_]
        · exact e
        · have h1 := List.all_eq_true.mp how k hk
          have h2 : caps[k]? = some none := by simpa using h1
          unfold capS at e
          rw [List.getElem?_map, h2] at e
          cases e
      refine thn (hbt _ s6 σ6 H6 _ I6 q6) fun ok s7 ⟨H7, I7, q7⟩ => ?_
      have again : ∀ {H8 : Hp} {s8 : Shared} {ys' : List V}, Inv (compCx X pins sc fr Nc fp s H2 H3.objs.size) ([] ++ pinsAt fp s5.heap) σ6 H8 s8 → (∃ m', m' < n ∧ W (i + 1) m' ys' H8) →
          ∃ m, m < n ∧ ∃ i σ' H' ys, Inv (compCx X pins sc fr Nc fp s H2 H3.objs.size) [] σ' H' s8 ∧ tn i s8.heap ∧ (∀ b ∈ fp, H' b = none) ∧ W i m ys H' ∧ (∀ (k : Nat) (v : V), (capS caps σ)[k]? = some (some v) → σ'[k]? = some (some v)) := fun {H8 s8 ys'} I8 ⟨m', hm, w8⟩ => by
        refine ⟨m', hm, i + 1, σ6, H8, ys', I8.unpinned, T.keep _ _ _ st5 fun b hb' o e => (I8.pin (b, o) (List.mem_append_right _ (List.mem_append_right _ (mem_pinsAt hb' e)))).1, fun b hb' => ?_, w8, wk6⟩
        obtain ⟨o, e, d⟩ := T.obj _ _ st5 b hb'
        exact (I8.pin (b, o) (List.mem_append_right _ (List.mem_append_right _ (mem_pinsAt hb' e)))).2.1
      cases ok with
      | false =>
        rw [if_neg Bool.false_ne_true]
        exact again I7 (q7.2 rfl)
      | true =>
        rw [if_pos rfl]
        refine thn (hbe _ s7 σ6 H7 _ I7 (q7.1 rfl)) fun uv s8 ⟨v, H8, I8, r8, hD8, hz, q8⟩ => ?_
        refine thn (mt_append (X := compCx X pins sc fr Nc fp s H2 H3.objs.size) _ s8 σ6 H8 (.ref s.heap.objs.size) [v] _ [uv] (fun _ H' => H' = upd H8 s.heap.objs.size (.lst (ys ++ [v]))) I8 rfl (.cons r8 .nil) ⟨_, ys, v, rfl, rfl, hD8, hz, rfl⟩) fun _ s9 ⟨_, H9, I9, _, e9⟩ => ?_
        subst e9
        exact again I9 q8
  exact codeAny_compStart_list (loop _ rfl) (T.self _ 0 _ _ _ (T.keep _ _ _ st2 (fun b _ o e => old b o e)) (loop _ rfl))
theorem BlockOk.loc {env : Env} (B : BlockOk env sc fr) : ∀ x ∈ sc.names, x.2 = .local → sc.names.lookup x.1 = some .local := fun y hy e => by
  have h3 := List.all_eq_true.mp B.names _ hy
  simp only [Bool.and_eq_true, Bool.or_eq_true, bne_iff_ne, ne_eq, beq_iff_eq] at h3
  rcases h3.2 with z | z
  · exact absurd e z
  · exact z
theorem pe_lc {wi : TI} (fr Nc : List Str) (caps : List (Option Nat)) (hc : X.calm = true) (B : BlockOk X.env sc fr) (hi : PI X tg iter wi) (go : GOwn g ow) (how : (ow.all fun i => caps[i]? == some none) = true)
    (hcap : capChk X.N Nc caps X.env sc fr = true) (hlen : caps.length = Nc.length)
    (hb : ∀ (pins : List (Addr × Obj)) (fp : List Addr) (s : Shared) (H : Hp) (C : Addr), PG (compCx X pins sc fr Nc fp s H C) tg g ∧ PIf (compCx X pins sc fr Nc fp s H C) ifs tt ∧ PE (compCx X pins sc fr Nc fp s H C) elt te)
    (hs : ∀ x, foldedSetIterable iter X.env x = pure x := by intro _; rfl) : PE X (.ListComp elt [⟨tg, iter, ifs, 0⟩] sc pos) (tLC wi caps g tt te) := by
  refine ⟨?_⟩
  intro pins s σ H Q I h
  rw [eval_ListComp]
  refine wpAny_comprehension_free (use := none) rfl hs B.clos B.kind B.loc (thn (hi pins s σ H _ I h) fun v s1 h1 => thn h1 fun itv s2 h2 => ?_)
  obtain ⟨it, fp, tn, J, H2, e, I2, T, st2, f2, q⟩ := h2
  subst e
  refine comp_run (RR := fun acc C => compPost (model X.prog X.w) X.A X.xe none (EP X pins σ Q) acc C) hc B go how hcap hlen hb I2 T st2 f2 q ?_
  intro D C σ' H' s' J' qq
  obtain ⟨m, hn, _⟩ := J'.loc
  exact ⟨m, hn, fun h' hs' => ⟨.ref D, H', comp_gone I2 J' (comp_back I2 f2 J') hs', rfl, qq⟩⟩
/-- x = [..] on one row: the store comes ahead of the block's end -/
theorem ps_lc {wi : TI} {i : Nat} {x : Str} {pos' : Pos} (fr Nc : List Str) (caps : List (Option Nat)) (hN : X.N.Nodup) (hix : X.N[i]? = some x) (hx : Loc X.env.scope x) (hc : X.calm = true) (B : BlockOk X.env sc fr) (hi : PI X tg iter wi) (go : GOwn g ow) (how : (ow.all fun i => caps[i]? == some none) = true)
    (hcap : capChk X.N Nc caps X.env sc fr = true) (hlen : caps.length = Nc.length)
    (hb : ∀ (pins : List (Addr × Obj)) (fp : List Addr) (s : Shared) (H : Hp) (C : Addr), PG (compCx X pins sc fr Nc fp s H C) tg g ∧ PIf (compCx X pins sc fr Nc fp s H C) ifs tt ∧ PE (compCx X pins sc fr Nc fp s H C) elt te)
    (hsw : swapsWith (.ListComp elt [⟨tg, iter, ifs, 0⟩] sc pos) (some (.Name x pos')) pos2.line X.env = pure true := by rfl)
    (hs : ∀ x, foldedSetIterable iter X.env x = pure x := by intro _; rfl) (hf : X.fn x = true ∨ X.env.scope.names.lookup x = some .local := by first | exact .inl rfl | exact .inr rfl | assumption) :
    PS X (.Assign [.Name x pos'] (.ListComp elt [⟨tg, iter, ifs, 0⟩] sc pos) pos2) (tAsg (tLC wi caps g tt te) (gName i)) := by
  refine ⟨?_⟩
  intro pins s σ H D0 I h
  rw [exec_Assign_Name_used _ _ _ _ hsw]
  refine wpAny_bind (wpAny_standAt (wpAny_bind ?_))
  show wpAny _ X.A (do let _ ← comprehension (.ListComp elt [⟨tg, iter, ifs, 0⟩] sc pos) sc X.env _ (newList []) false (eval iter X.env) (some (assign (.Name x pos') X.env))) _ _ s
  refine wpAny_bind (wpAny_mono (wpAny_comprehension_free (use := some (assign (.Name x pos') X.env)) (Q := fun _ s' => SP X pins D0 .next s') rfl hs B.clos B.kind B.loc
    (thn (hi pins s σ H _ I h) fun v s1 h1 => thn h1 fun itv s2 h2 => ?_)) (fun _ s' hq => wpAny_pure (wpAny_pure hq)) fun _ _ e => e)
  obtain ⟨it, fp, tn, J, H2, e, I2, T, st2, f2, q⟩ := h2
  subst e
  refine comp_run (Q := fun v H1 => gName i v σ H1 D0.nx) (RR := fun acc C => compPost (model X.prog X.w) X.A X.xe (some (assign (.Name x pos') X.env)) (fun _ s' => SP X pins D0 .next s') acc C) hc B go how hcap hlen hb I2 T st2 f2 q ?_
  intro D C σ' H' s' J' qq
  have I' := comp_back I2 f2 J'
  obtain ⟨m, hn, _⟩ := J'.loc
  have hC : s2.heap.objs.size ≤ C := J'.ok.above
  show wpAny _ X.A (assign (.Name x pos') X.env (.ref D)) _ _ s'
  refine wpAny_assign_Name (store_ok2 (v := .ref D) I' hN hix hx rfl (fun s'' I'' ⟨a, sb, ha⟩ => ?_) hf)
  have haC : C ≠ a := by
    rintro rfl
    rcases ha with z | z
    · have := I2.lt
      rw [← z] at this
      exact absurd (Nat.lt_of_lt_of_le this hC) (Nat.lt_irrefl _)
    · obtain ⟨v, hv⟩ := I2.cell x C z
      exact absurd (Nat.lt_of_lt_of_le hv.lt hC) (Nat.lt_irrefl _)
  have hCH : H' C = none := J'.free
  refine ⟨m, hn.sameBut sb haC, fun h' hs' => ⟨_, H', ?_, qq⟩⟩
  refine I''.turned (it := C) (t' := s''.toks) (fun b o hb e => (hs'.2 b hb).trans e) hCH ?_ (.inr (Nat.le_trans I2.sz hC)) (fun x c h z => ?_) fun p hp z => ?_
  · intro z
    have := I2.lt
    rw [← z] at this
    exact absurd (Nat.lt_of_lt_of_le this hC) (Nat.lt_irrefl _)
  · obtain ⟨v, hv⟩ := I2.cell x c h
    have := hv.lt
    rw [z] at this
    exact absurd (Nat.lt_of_lt_of_le this hC) (Nat.lt_irrefl _)
  · have := I2.pin_lt hp
    rw [z] at this
    exact absurd (Nat.lt_of_lt_of_le this hC) (Nat.lt_irrefl _)
end
end L2

set_option Elab.async false
set_option linter.all false
set_option maxRecDepth 100000
set_option maxHeartbeats 4000000
namespace L2
open PySem PySem.Spec PyProof.Rows

/-! ### the signs of a text -/
def Its (z : Str) : It := ⟨fun i _ => i < z.cps.size, fun i H x H' => H' = H ∧ ∃ c, z.cps[i]? = some c ∧ x = .str ⟨#[c]⟩, fun i _ => z.cps.size ≤ i⟩
theorem turn_str {P : Program} {w : World} {K : PySem.W.Frag} {tg : Expr} (it : Addr) (z : Str) (t : Tok) : Turn P w K tg (Its z) [it] it (fun i h => h.IsStrIter it (strIterType z) z t i) where
  mem := by simp
  obj := fun i h st b hb => by
    have e : b = it := by simpa using hb
    subst e
    obtain ⟨o, e, _, d⟩ := st
    exact ⟨o, e, fun v q => by rw [d] at q; cases q⟩
  keep := fun i h h' st k => by
    obtain ⟨o, e, r⟩ := st
    exact ⟨o, k it (by simp) o e, r⟩
  item := by
    intro X hP hw hK hc i pins s σ H E I hf st hg
    subst hP hw hK
    obtain ⟨f0, f1, f2, f3, f4, f5⟩ := hf it (by simp)
    have hi : i < z.cps.size := hg
    have hx : z.cps[i]? = some z.cps[i] := by simp [hi]
    have fin : ∀ h', h'.IsStrIter it (strIterType z) z t (i + 1) → Heap.SameBut it s.heap h' →
        ∃ u, some (Value.str ⟨#[z.cps[i]]⟩ s.toks) = some u ∧ wpAny (model X.prog X.w) X.A (letOwnedTupleGo tg (.ref it) u) (fun _ s2 => ∃ x H', Inv X pins σ H' s2 ∧ RelV x u ∧ (Its z).yld i H x H' ∧ s2.heap.IsStrIter it (strIterType z) z t (i + 1) ∧ ∀ b ∈ [it], H' b = none) E { s with heap := h', toks := s.toks + 1 } := fun h' hit hs => by
      have I1 : Inv X pins σ H { s with heap := h', toks := s.toks + 1 } := I.turned (fun b o hb e => (hs.2 b hb).trans e) f0 f1 f3 f4 f5
      obtain ⟨o, e1, e2, e3⟩ := id hit
      refine ⟨_, rfl, go_of (s := { s with heap := h', toks := s.toks + 1 }) e1 e2 e3 ?_ ⟨.str ⟨#[z.cps[i]]⟩, H, I1, ⟨_, rfl⟩, ⟨rfl, _, hx, rfl⟩, hit, fun b hb => (hf b hb).1⟩⟩
      unfold strIterType
      split <;> decide
    cases ha : z.cps.all (· < 128)
    · have e : strIterType z = "str_iterator" := by simp [strIterType, ha]
      rw [e] at st
      exact wpAny_pyNext_wide_item st hx fun h' a b => fin h' (e.symm ▸ a) b
    · have e : strIterType z = "str_ascii_iterator" := by simp [strIterType, ha]
      rw [e] at st
      exact wpAny_pyNext_ascii_item st hx fun h' a b => fin h' (e.symm ▸ a) b
  done := by
    intro X hP hw hK hc i pins s σ H E I hf st hg
    subst hP hw hK
    obtain ⟨f0, f1, f2, f3, f4, f5⟩ := hf it (by simp)
    have hi : z.cps.size ≤ i := hg
    have hx : z.cps[i]? = none := by simp [hi]
    have fin : ∀ h', Heap.ExtBut it s.heap h' → (none : Option Value) = none ∧ Inv X pins σ H { s with heap := h' } := fun h' eb => ⟨rfl, I.turned (t' := s.toks) (fun b o hb e => eb b o hb e) f0 f1 f3 f4 f5⟩
    cases ha : z.cps.all (· < 128)
    · have e : strIterType z = "str_iterator" := by simp [strIterType, ha]
      rw [e] at st
      exact wpAny_pyNext_wide_end (I.ok.hd hc) st hx fin
    · have e : strIterType z = "str_ascii_iterator" := by simp [strIterType, ha]
      rw [e] at st
      exact wpAny_pyNext_ascii_end (I.ok.hd hc) st hx fin
  self := fun A i s Q E st h => by
    cases ha : z.cps.all (· < 128)
    · have e : strIterType z = "str_iterator" := by simp [strIterType, ha]
      rw [e] at st
      exact wpAny_pyIter_striter_wide st h
    · have e : strIterType z = "str_ascii_iterator" := by simp [strIterType, ha]
      rw [e] at st
      exact wpAny_pyIter_striter_ascii st h
section
variable {X : Cx} {tg : Expr}
def iStr (tl : TE) : TI := fun σ H R => tl σ H fun x H1 => ∃ z, x = .str z ∧ R (Its z) H1
theorem pi_str {l : Expr} {tl : TE} (hl : PE X l tl) : PI X tg l (iStr tl) := by
  refine ⟨?_⟩
  intro pins s σ H R I h
  refine thn (hl pins s σ H _ I h) fun v s1 ⟨x, H1, I1, r1, q1⟩ => ?_
  obtain ⟨z, e, q⟩ := q1
  subst e
  obtain ⟨t, rfl⟩ := r1
  refine wpAny_pyIter_strU ?_
  refine ⟨s1.heap.objs.size, [s1.heap.objs.size], _, _, H1, rfl, I1.kept (t' := s1.toks) fun b o e => Heap.get?_push_of_some _ e, turn_str _ z t, ⟨_, Heap.get?_push_size _ rfl, rfl, rfl⟩, fun b hb => ?_, q⟩
  have e : b = s1.heap.objs.size := by simpa using hb
  subst e
  exact I1.fpOk (Nat.le_refl _) (I1.hok.fresh (Nat.le_refl _))

/-! ### t[lo:hi] of a text -/
def rSlS : V → Option Int → Option Int → Hp → VK → Prop := fun x lo hi H Q => ∃ z, x = .str z ∧ z.length ≤ sizeLine ∧ Q (.str (Txt.slice z lo hi)) H
theorem sl_str : SlR X rSlS := by
  intro pins s σ H x v vl vu lo hi sl Q I rx hs pl pu h
  obtain ⟨z, rfl, hz, q⟩ := h
  obtain ⟨t, rfl⟩ := rx
  refine ⟨"str", _, F.slot_str_getitem.lookup, typeIs_str _ _ _, ?_⟩
  have fin : ∀ t' k, EP X pins σ Q (.str (Txt.slice z lo hi) t') { s with toks := k } := fun t' k => ⟨.str (Txt.slice z lo hi), H, I.tok k, ⟨t', rfl⟩, q⟩
  cases pl with
  | none =>
    cases pu with
    | none => exact wpAny_getItem_str_slice (l := none) (u := none) (st := none) hs rfl (post_val_or_str ⟨Nat.le_trans (Txt.slice_le z _ _) hz, fin⟩)
    | int j tj => exact wpAny_getItem_str_slice (l := none) (u := some (j, tj)) (st := none) hs rfl (post_val_or_str ⟨Nat.le_trans (Txt.slice_le z _ _) hz, fin⟩)
  | int i ti =>
    cases pu with
    | none => exact wpAny_getItem_str_slice (l := some (i, ti)) (u := none) (st := none) hs rfl (post_val_or_str ⟨Nat.le_trans (Txt.slice_le z _ _) hz, fin⟩)
    | int j tj => exact wpAny_getItem_str_slice (l := some (i, ti)) (u := some (j, tj)) (st := none) hs rfl (post_val_or_str ⟨Nat.le_trans (Txt.slice_le z _ _) hz, fin⟩)

/-! ### all(xs), a list of bools -/
theorem call_allB (hc : X.calm = true) : CallR X (.builtin "all") (fun xs H Q => ∃ (p : Addr) (bs : List Bool), xs = [.ref p] ∧ SqL X.K H p (bs.map V.bl) ∧ Q (.bl (bs.all id)) H) := by
  intro pins s σ H xs us Q I r h
  obtain ⟨p, bs, rfl, hS, q⟩ := h
  obtain ⟨u, rfl, ru⟩ := vals1 r
  cases ru
  obtain ⟨its, rv, hp, hz⟩ := I.list hS
  have hlen : its.length = bs.length := by rw [← rv.length, List.length_map]
  have hne : p ≠ s.heap.objs.size := Nat.ne_of_lt (by obtain ⟨_, e, _⟩ := hp.isList; exact Heap.lt_size e)
  refine call_all_walk (wpAny_pyIter_list hp.isList ?_)
  refine ⟨s.heap.objs.size, _, _, _, _, _, fun i => bs.getD i false, rfl, Walks.list (A := X.A.in1) (I.ok.hd hc) s.heap.objs.size p hne its.toArray, ⟨⟨_, Heap.get?_push_size _ rfl, rfl, rfl⟩, hp.isList.push _⟩, ?_, fun h' tk k => ?_⟩
  · intro i v s' Q' E' hP hQ
    have hv : its[i]? = some v := by simpa using hP
    have hi : i < bs.length := by rw [← hlen]; exact (List.getElem?_eq_some_iff.mp hv).1
    obtain ⟨u', e1, e2⟩ := rv.get (i := i) (x := V.bl bs[i]) (by rw [List.getElem?_map, List.getElem?_eq_getElem hi]; rfl)
    rw [hv] at e1
    cases e1
    cases e2
    refine wpAny_truthy_bool ?_
    have : bs.getD i false = bs[i] := by rw [List.getD_eq_getElem?_getD, List.getElem?_eq_getElem hi]; rfl
    rw [← this]
    exact hQ
  · have e : ((List.range its.toArray.size).all fun i => bs.getD i false) = bs.all id := by
      rw [List.size_toArray, hlen, Bool.eq_iff_iff, List.all_eq_true, List.all_eq_true]
      constructor
      · intro hh b hb
        obtain ⟨i, hi, rfl⟩ := List.getElem_of_mem hb
        have := hh i (List.mem_range.mpr hi)
        rw [List.getD_eq_getElem?_getD, List.getElem?_eq_getElem hi] at this
        exact this
      · intro hh i hi
        have hi' := List.mem_range.mp hi
        rw [List.getD_eq_getElem?_getD, List.getElem?_eq_getElem hi']
        exact hh _ (List.getElem_mem hi')
    rw [e]
    exact ⟨.bl (bs.all id), H, I.kept (h' := h') (t' := tk) (fun b o q => k b o (fun hm => by
      have e : b = s.heap.objs.size := by simpa using hm
      exact absurd (Heap.lt_size q) (by rw [e]; exact Nat.lt_irrefl _)) (Heap.get?_push_of_some _ q)), rfl, q⟩

/-! ### str.upper -/
/-! ### is, is not a written truth -/
/-! ### isinstance(x, T) -/
theorem call_isinst : CallR X (.builtin "isinstance") (fun xs H Q => ∃ x T t b, xs = [x, .ty T] ∧ TyOf X.K H x t ∧ PySem.W.kitOne X.K t (.type T) = some b ∧ Q (.bl b) H) := by
  intro pins s σ H xs us Q I r h
  obtain ⟨x, T, t, b, rfl, ty, e, q⟩ := h
  obtain ⟨u, w', rfl, ru, rw'⟩ := vals2 r
  cases rw'
  exact isinst_ok I ru ty e fun tk => ⟨.bl b, H, I.tok tk, rfl, q⟩
end
end L2

set_option Elab.async false
set_option linter.all false
set_option maxRecDepth 100000
set_option maxHeartbeats 4000000
namespace L2
open PySem PySem.Spec PyProof.Rows

/-! ### argument lists without stars, by their heads alone -/
def isSt : Expr → Bool
  | .Starred .. => true
  | _ => false
theorem star_cons {e : Expr} {es : List Expr} {env : Env} (h : isSt e = false) : starEach (e :: es) env = (false, eval e env) :: starEach es env := by
  cases e <;> first | rfl | cases h
theorem star_any {env : Env} {pos : Pos} : ∀ {es : List Expr}, es.any isSt = false → (backTo pos (starEach es env)).any (·.1) = false
  | [], _ => rfl
  | e :: es, h => by
    rw [List.any_cons, Bool.or_eq_false_iff] at h
    rw [star_cons h.1]
    show (false || (backTo pos (starEach es env)).any (·.1)) = false
    rw [star_any h.2]
    rfl
section
variable {X : Cx} {CX : CXT} {k : Nat} {f C : Addr} {fd : FuncData} {ps : List Str} {sp : Sp} {dvs : List V} {ds : List Value} {E : XK} {x m : Str} {p pos apos : Pos} {e o : Expr} {es : List Expr} {te ta : TE} {t : TA} {id T : String} {r : List V → Hp → VK → Prop}
theorem ac (ha : PE X e te) (hr : PA X es t) (h : isSt e = false := by rfl) : PA X (e :: es) (tCons te t) := pa_cons ha hr (star_cons h)
theorem cB (hc : CallR X (.builtin id) r) (hm : X.mg x = none) (hv : bootBuiltins x = some (.builtin id)) (ha : PA X (e :: es) t) (hg : Gl X x := by rfl) (hn : x ≠ "__name__" := by decide) (hdb : (x == ("__debug__" : Str)) = false := by decide)
    (h1 : isSt e = false := by rfl) (h2 : es.any isSt = false := by rfl) : PE X (.Call (.Name x p) (e :: es) [] pos) (tCB r t) := pe_callB hc hg hm hv ha hn hdb (star_cons h1) (star_any h2)
theorem cTy (hc : CallR X (.type T) r) (hm : X.mg x = none) (hv : bootBuiltins x = some (.type T)) (ha : PA X (e :: es) t) (hg : Gl X x := by rfl) (hn : x ≠ "__name__" := by decide) (hdb : (x == ("__debug__" : Str)) = false := by decide)
    (h1 : isSt e = false := by rfl) (h2 : es.any isSt = false := by rfl) : PE X (.Call (.Name x p) (e :: es) [] pos) (tCB r t) := pe_callTy hc hg hm hv ha hn hdb (star_cons h1) (star_any h2)
/-- a def of the text as callers have it -/
structure Callee (P : Program) (w : World) (K : PySem.W.Frag) (mg : Str → Option Value) (base : Heap) (k : Nat) (x : Str) (f : Addr) (fd : FuncData) (ps : List Str) (sp : Sp) : Prop where
  ok : FnOk P w K mg base CX0 k f fd ps sp
  mg : mg x = some (.ref f)
  kp : PySem.W.keepIn K (.ref f) = true
  bd : Binds K fd ps []
theorem cF (c : Callee X.prog X.w X.K X.mg X.base k x f fd ps sp) (hr : Room k X.A) (ha : PA X (e :: es) t) (hg : Gl X x := by rfl) (hdb : (x == ("__debug__" : Str)) = false := by decide)
    (h1 : isSt e = false := by rfl) (h2 : es.any isSt = false := by rfl) : PE X (.Call (.Name x p) (e :: es) [] pos) (tCall sp [] E0 t) :=
  pe_call c.ok hr hg c.mg c.kp c.bd .nil pass0 ha hdb (star_cons h1) (star_any h2)
end
end L2

set_option maxRecDepth 100000
set_option maxHeartbeats 4000000
namespace L2
open PySem PyProof.Rows
/-! ### isinstance of built-in kinds -/
theorem kt_NoneType_str (K : PySem.W.Frag) : PySem.W.kitOne K (.type "NoneType") (.type "str") = some false := by kernel_rfl
theorem kt_int_str (K : PySem.W.Frag) : PySem.W.kitOne K (.type "int") (.type "str") = some false := by kernel_rfl
theorem kt_int_bool (K : PySem.W.Frag) : PySem.W.kitOne K (.type "int") (.type "bool") = some false := by kernel_rfl
theorem kt_bool_str (K : PySem.W.Frag) : PySem.W.kitOne K (.type "bool") (.type "str") = some false := by kernel_rfl
theorem kt_bool_bool (K : PySem.W.Frag) : PySem.W.kitOne K (.type "bool") (.type "bool") = some true := by kernel_rfl
theorem kt_str_str (K : PySem.W.Frag) : PySem.W.kitOne K (.type "str") (.type "str") = some true := by kernel_rfl
theorem kt_list_str (K : PySem.W.Frag) : PySem.W.kitOne K (.type "list") (.type "str") = some false := by kernel_rfl
theorem kt_tuple_str (K : PySem.W.Frag) : PySem.W.kitOne K (.type "tuple") (.type "str") = some false := by kernel_rfl
theorem kt_dict_str (K : PySem.W.Frag) : PySem.W.kitOne K (.type "dict") (.type "str") = some false := by kernel_rfl
end L2

set_option Elab.async false
set_option linter.all false
set_option maxRecDepth 100000
set_option maxHeartbeats 4000000
namespace L2
open PySem PySem.Spec PyProof.Rows

/-! ### data: what a value says, lists and tuples within -/
inductive Dt where
  | non | bl (b : Bool) | int (i : Int) | str (z : Str) | tup (ds : List Dt) | lst (ds : List Dt)
def FlatD : V → Dt → Prop
  | .non, .non => True
  | .bl a, .bl b => a = b
  | .int a, .int b => a = b
  | .str a, .str b => a = b
  | _, _ => False
/-- at most n deep; the lists within stand at addresses that are ok -/
def Says (K : PySem.W.Frag) (ok : Addr → Prop) (H : Hp) : Nat → V → Dt → Prop
  | 0, x, d => FlatD x d
  | n + 1, x, d => FlatD x d ∨ (∃ a xs ds, x = .ref a ∧ d = .tup ds ∧ SqT K H a xs ∧ Paired (Says K ok H n) xs ds) ∨ (∃ a xs ds, x = .ref a ∧ d = .lst ds ∧ ok a ∧ H a = some (.lst xs) ∧ Paired (Says K ok H n) xs ds)
section
variable {K : PySem.W.Frag} {ok ok' : Addr → Prop} {H H' : Hp}
theorem Says.flat {n : Nat} {x : V} {d : Dt} (h : FlatD x d) : Says K ok H n x d := by
  cases n with
  | zero => exact h
  | succ n => exact .inl h
theorem Says.int {n : Nat} {i : Int} : Says K ok H n (.int i) (.int i) := .flat rfl
theorem Says.str {n : Nat} {z : Str} : Says K ok H n (.str z) (.str z) := .flat rfl
theorem Says.bl {n : Nat} {b : Bool} : Says K ok H n (.bl b) (.bl b) := .flat rfl
theorem Says.non {n : Nat} : Says K ok H n .non .non := .flat True.intro
theorem Says.tup {n : Nat} {a : Addr} {xs : List V} {ds : List Dt} (h : SqT K H a xs) (r : Paired (Says K ok H n) xs ds) : Says K ok H (n + 1) (.ref a) (.tup ds) := .inr (.inl ⟨a, xs, ds, rfl, rfl, h, r⟩)
theorem Says.lst {n : Nat} {a : Addr} {xs : List V} {ds : List Dt} (o : ok a) (h : H a = some (.lst xs)) (r : Paired (Says K ok H n) xs ds) : Says K ok H (n + 1) (.ref a) (.lst ds) := .inr (.inr ⟨a, xs, ds, rfl, rfl, o, h, r⟩)
theorem Paired.get {α β : Type} {F : α → β → Prop} : ∀ {l₁ : List α} {l₂ : List β} {i : Nat} {a : α}, Paired F l₁ l₂ → l₁[i]? = some a → ∃ b, l₂[i]? = some b ∧ F a b
  | _, _, _, _, .nil, e => by simp at e
  | _, _, 0, _, .cons r _, e => by simp at e; subst e; exact ⟨_, rfl, r⟩
  | _, _, i + 1, a, .cons _ t, e => by
    obtain ⟨b, h1, h2⟩ := Paired.get (i := i) (a := a) t (by simpa using e)
    exact ⟨b, by simpa using h1, h2⟩
end
section
variable {X : Cx} {pins : List (Addr × Obj)} {σ : St} {H : Hp} {s : Shared} {ok ok' : Addr → Prop}
theorem flat_same {A : Around} {x y : V} {d : Dt} {u v : Value} (hx : FlatD x d) (hy : FlatD y d) (ru : RelV x u) (rv : RelV y v) : SeqAt.EqAt A s u v true := by
  cases d with
  | non =>
    cases x <;> try exact hx.elim
    cases y <;> try exact hy.elim
    cases ru; cases rv; exact SeqAt.EqAt.same _
  | bl b =>
    cases x <;> try exact hx.elim
    cases y <;> try exact hy.elim
    rename_i a c
    obtain rfl : a = b := hx
    obtain rfl : c = a := hy
    cases ru; cases rv; exact SeqAt.EqAt.same _
  | int b =>
    cases x <;> try exact hx.elim
    cases y <;> try exact hy.elim
    rename_i a c
    obtain rfl : a = b := hx
    obtain rfl : c = a := hy
    obtain ⟨t, rfl⟩ := ru
    obtain ⟨t', rfl⟩ := rv
    have := SeqAt.EqAt.int_int (A := A) (s := s) c t c t'
    simpa using this
  | str b =>
    cases x <;> try exact hx.elim
    cases y <;> try exact hy.elim
    rename_i a c
    obtain rfl : a = b := hx
    obtain rfl : c = a := hy
    obtain ⟨t, rfl⟩ := ru
    obtain ⟨t', rfl⟩ := rv
    have := SeqAt.EqAt.str_str (A := A) (s := s) c t c t'
    simpa using this
  | tup ds => cases x <;> exact hx.elim
  | lst ds => cases x <;> exact hx.elim
theorem flat_ref {a : Addr} {d : Dt} (h : FlatD (.ref a) d) : False := by cases d <;> exact h
theorem all_true (n : Nat) : ((List.range n).all fun _ => true) = true := by rw [List.all_eq_true]; intro _ _; rfl
/-- two values that say the same are equal -/
theorem eqAt_same (I : Inv X pins σ H s) : ∀ (n : Nat) {A : Around} {x y : V} {d : Dt} {u v : Value}, Says X.K ok H n x d → Says X.K ok' H n y d → RelV x u → RelV y v → A.units + n < cLine → SeqAt.EqAt A s u v true
  | 0, A, x, y, d, u, v, hx, hy, ru, rv, _ => flat_same hx hy ru rv
  | n + 1, A, x, y, d, u, v, hx, hy, ru, rv, hu => by
    have hin : A.in1.units + n < cLine := by show A.units + 1 + n < cLine; omega
    rcases hx with hx | ⟨a, xs, ds, rfl, rfl, hx, r⟩ | ⟨a, xs, ds, rfl, rfl, _, hx, r⟩
    · rcases hy with hy | ⟨b, ys, es, rfl, rfl, hy, q⟩ | ⟨b, ys, es, rfl, rfl, _, hy, q⟩
      · exact flat_same hx hy ru rv
      · cases x <;> exact hx.elim
      · cases x <;> exact hx.elim
    · rcases hy with hy | ⟨b, ys, es, rfl, e2, hy, q⟩ | ⟨b, ys, es, rfl, e2, _, hy, q⟩
      · cases y <;> exact hy.elim
      · cases e2
        cases ru; cases rv
        by_cases hab : a = b
        · subst hab; exact SeqAt.EqAt.same _
        · obtain ⟨ia, va, pa, _⟩ := I.tuple hx
          obtain ⟨ib, vb, pb, _⟩ := I.tuple hy
          have la : ia.length = ds.length := by rw [← va.length, r.length]
          have lb : ib.length = ds.length := by rw [← vb.length, q.length]
          have := SeqAt.RcAt.tuples (A := A) (s := s) (e := fun _ => true) (show s.heap.IsTuple a ia.toArray from pa) (show s.heap.IsTuple b ib.toArray from pb) (by omega) (fun j h1 h2 => by
            have j1 : j < ia.length := by simpa using h1
            have j2 : j < ib.length := by simpa using h2
            have hxl : j < xs.length := by rw [va.length]; exact j1
            have hyl : j < ys.length := by rw [vb.length]; exact j2
            obtain ⟨u', e1, e2⟩ := va.get (i := j) (List.getElem?_eq_getElem hxl)
            obtain ⟨v', e3, e4⟩ := vb.get (i := j) (List.getElem?_eq_getElem hyl)
            obtain ⟨d1, f1, f2⟩ := Paired.get r (List.getElem?_eq_getElem hxl)
            obtain ⟨d2, f3, f4⟩ := Paired.get q (List.getElem?_eq_getElem hyl)
            rw [f1] at f3
            cases f3
            rw [List.getElem?_eq_getElem j1] at e1
            rw [List.getElem?_eq_getElem j2] at e3
            cases e1; cases e3
            simpa using eqAt_same I n f2 f4 e2 e4 hin)
          rw [all_true] at this
          have z : (ia.toArray.size == ib.toArray.size) = true := by simp [la, lb]
          rw [z] at this
          exact SeqAt.EqAt.of_refs hab this
      · cases e2
    · rcases hy with hy | ⟨b, ys, es, rfl, e2, hy, q⟩ | ⟨b, ys, es, rfl, e2, _, hy, q⟩
      · cases y <;> exact hy.elim
      · cases e2
      · cases e2
        cases ru; cases rv
        by_cases hab : a = b
        · subst hab; exact SeqAt.EqAt.same _
        · obtain ⟨ia, va, pa, _⟩ := I.list (SqL.of hx)
          obtain ⟨ib, vb, pb, _⟩ := I.list (SqL.of hy)
          have la : ia.length = ds.length := by rw [← va.length, r.length]
          have lb : ib.length = ds.length := by rw [← vb.length, q.length]
          have := SeqAt.RcAt.lists (A := A) (s := s) (e := fun _ => true) pa.isList pb.isList (by simp [la, lb]) (by omega) (fun j h1 h2 => by
            have j1 : j < ia.length := by simpa using h1
            have j2 : j < ib.length := by simpa using h2
            have hxl : j < xs.length := by rw [va.length]; exact j1
            have hyl : j < ys.length := by rw [vb.length]; exact j2
            obtain ⟨u', e1, e2⟩ := va.get (i := j) (List.getElem?_eq_getElem hxl)
            obtain ⟨v', e3, e4⟩ := vb.get (i := j) (List.getElem?_eq_getElem hyl)
            obtain ⟨d1, f1, f2⟩ := Paired.get r (List.getElem?_eq_getElem hxl)
            obtain ⟨d2, f3, f4⟩ := Paired.get q (List.getElem?_eq_getElem hyl)
            rw [f1] at f3
            cases f3
            rw [List.getElem?_eq_getElem j1] at e1
            rw [List.getElem?_eq_getElem j2] at e3
            cases e1; cases e3
            simpa using eqAt_same I n f2 f4 e2 e4 hin)
          rw [all_true] at this
          exact SeqAt.EqAt.of_refs hab this
end
end L2

set_option Elab.async false
set_option linter.all false
set_option maxRecDepth 100000
set_option maxHeartbeats 4000000
namespace L2
open PySem PySem.Spec PyProof.Rows
/-! ### == and != of two objects that say the same -/
section
variable {X : Cx} {pins : List (Addr × Obj)} {σ : St} {H : Hp} {s : Shared} {ok ok' : Addr → Prop}
theorem rc_same (I : Inv X pins σ H s) {n : Nat} {A : Around} {a b : Addr} {d : Dt} (hx : Says X.K ok H (n + 1) (.ref a) d) (hy : Says X.K ok' H (n + 1) (.ref b) d) (hu : A.units + n + 1 < cLine) :
    SeqAt.RcAt A s (.ref a) (.ref b) true ∧ SeqAt.RcNeAt A s (.ref a) (.ref b) false := by
  have hin : A.in1.units + n < cLine := by show A.units + 1 + n < cLine; omega
  rcases hx with hx | ⟨a, xs, ds, e0, rfl, hx, r⟩ | ⟨a, xs, ds, e0, rfl, _, hx, r⟩
  · exact (flat_ref hx).elim
  · cases e0
    rcases hy with hy | ⟨b, ys, es, e1, e2, hy, q⟩ | ⟨b, ys, es, e1, e2, _, hy, q⟩
    · exact (flat_ref hy).elim
    · cases e1; cases e2
      obtain ⟨ia, va, pa, _⟩ := I.tuple hx
      obtain ⟨ib, vb, pb, _⟩ := I.tuple hy
      have la : ia.length = ds.length := by rw [← va.length, r.length]
      have lb : ib.length = ds.length := by rw [← vb.length, q.length]
      have el : ∀ j (h1 : j < ia.toArray.size) (h2 : j < ib.toArray.size), SeqAt.EqAt A.in1 s ia.toArray[j] ib.toArray[j] true := fun j h1 h2 => by
        have j1 : j < ia.length := by simpa using h1
        have j2 : j < ib.length := by simpa using h2
        have hxl : j < xs.length := by rw [va.length]; exact j1
        have hyl : j < ys.length := by rw [vb.length]; exact j2
        obtain ⟨u', e1, e2⟩ := va.get (i := j) (List.getElem?_eq_getElem hxl)
        obtain ⟨v', e3, e4⟩ := vb.get (i := j) (List.getElem?_eq_getElem hyl)
        obtain ⟨d1, f1, f2⟩ := Paired.get r (List.getElem?_eq_getElem hxl)
        obtain ⟨d2, f3, f4⟩ := Paired.get q (List.getElem?_eq_getElem hyl)
        rw [f1] at f3
        cases f3
        rw [List.getElem?_eq_getElem j1] at e1
        rw [List.getElem?_eq_getElem j2] at e3
        cases e1; cases e3
        simpa using eqAt_same I n f2 f4 e2 e4 hin
      have z : (ia.toArray.size == ib.toArray.size) = true := by simp [la, lb]
      have t1 := SeqAt.RcAt.tuples (A := A) (s := s) (e := fun _ => true) (show s.heap.IsTuple a ia.toArray from pa) (show s.heap.IsTuple b ib.toArray from pb) (by omega) el
      have t2 := SeqAt.RcNeAt.tuples (A := A) (s := s) (e := fun _ => true) (show s.heap.IsTuple a ia.toArray from pa) (show s.heap.IsTuple b ib.toArray from pb) (by omega) el
      rw [all_true, z] at t1 t2
      exact ⟨t1, t2⟩
    · cases e1; cases e2
  · cases e0
    rcases hy with hy | ⟨b, ys, es, e1, e2, hy, q⟩ | ⟨b, ys, es, e1, e2, _, hy, q⟩
    · exact (flat_ref hy).elim
    · cases e1; cases e2
    · cases e1; cases e2
      obtain ⟨ia, va, pa, _⟩ := I.list (SqL.of hx)
      obtain ⟨ib, vb, pb, _⟩ := I.list (SqL.of hy)
      have la : ia.length = ds.length := by rw [← va.length, r.length]
      have lb : ib.length = ds.length := by rw [← vb.length, q.length]
      have el : ∀ j (h1 : j < ia.toArray.size) (h2 : j < ib.toArray.size), SeqAt.EqAt A.in1 s ia.toArray[j] ib.toArray[j] true := fun j h1 h2 => by
        have j1 : j < ia.length := by simpa using h1
        have j2 : j < ib.length := by simpa using h2
        have hxl : j < xs.length := by rw [va.length]; exact j1
        have hyl : j < ys.length := by rw [vb.length]; exact j2
        obtain ⟨u', e1, e2⟩ := va.get (i := j) (List.getElem?_eq_getElem hxl)
        obtain ⟨v', e3, e4⟩ := vb.get (i := j) (List.getElem?_eq_getElem hyl)
        obtain ⟨d1, f1, f2⟩ := Paired.get r (List.getElem?_eq_getElem hxl)
        obtain ⟨d2, f3, f4⟩ := Paired.get q (List.getElem?_eq_getElem hyl)
        rw [f1] at f3
        cases f3
        rw [List.getElem?_eq_getElem j1] at e1
        rw [List.getElem?_eq_getElem j2] at e3
        cases e1; cases e3
        simpa using eqAt_same I n f2 f4 e2 e4 hin
      have t1 := SeqAt.RcAt.lists (A := A) (s := s) (e := fun _ => true) pa.isList pb.isList (by simp [la, lb]) (by omega) el
      have t2 := SeqAt.RcNeAt.lists (A := A) (s := s) (e := fun _ => true) pa.isList pb.isList (by simp [la, lb]) (by omega) el
      rw [all_true] at t1 t2
      exact ⟨t1, t2⟩
def rSame (K : PySem.W.Frag) (b : Bool) : R2 := fun x y H Q => ∃ (a c : Addr) (n : Nat) (d : Dt) (ok ok' : Addr → Prop), x = .ref a ∧ y = .ref c ∧ n ≤ 20 ∧ Says K ok H (n + 1) x d ∧ Says K ok' H (n + 1) y d ∧ Q (.bl b) H
theorem op_eqS (hu : X.A.units + 64 < cLine) : OpR X (compareOp .Eq) (rSame X.K true) := by
  intro pins s σ H x y v u Q I rx ry h
  obtain ⟨a, c, n, d, ok, ok', rfl, rfl, hn, hx, hy, q⟩ := h
  cases rx; cases ry
  exact (rc_same (A := X.A) I hx hy (by omega)).1 X.prog X.w X.xe _ ⟨.bl true, H, I, rfl, q⟩
theorem op_neS (hu : X.A.units + 64 < cLine) : OpR X (compareOp .NotEq) (rSame X.K false) := by
  intro pins s σ H x y v u Q I rx ry h
  obtain ⟨a, c, n, d, ok, ok', rfl, rfl, hn, hx, hy, q⟩ := h
  cases rx; cases ry
  exact (rc_same (A := X.A) I hx hy (by omega)).2 X.prog X.w X.xe _ ⟨.bl false, H, I, rfl, q⟩
end

/-! ### enumerate over a list -/
def Ite (K : PySem.W.Frag) (a : Addr) : It :=
  ⟨fun i H => ∃ xs x, SqL K H a xs ∧ xs[i]? = some x, fun i H x H' => ∃ (p : Addr) (y : V), x = .ref p ∧ H p = none ∧ (∀ xs, SqL K H a xs → xs[i]? = some y) ∧ H' = upd H p (.tup [.int i, y]), fun i H => ∃ xs, SqL K H a xs ∧ xs.length ≤ i⟩
theorem turn_enum {P : Program} {w : World} {K : PySem.W.Frag} {elts : List Expr} {x1 : Nat} {tpos : Pos} (a e it : Addr) (hne : e ≠ it) :
    Turn P w K (.Tuple elts x1 tpos) (Ite K a) [e, it] e (fun i h => (∃ old, IsEnum h e it (i : Int) old) ∧ h.IsListIter it a i) where
  mem := by simp
  obj := fun i h st b hb => by
    rcases List.mem_cons.mp hb with rfl | hb
    · obtain ⟨⟨old, he⟩, _⟩ := st
      exact ⟨_, he, fun v q => by cases q⟩
    · have e' : b = it := by simpa using hb
      subst e'
      obtain ⟨_, o, ho, _, hd⟩ := st
      exact ⟨o, ho, fun v q => by rw [hd] at q; cases q⟩
  keep := fun i h h' st k => by
    obtain ⟨⟨old, he⟩, o, ho, r⟩ := st
    exact ⟨⟨old, k e (by simp) _ he⟩, o, k it (by simp) o ho, r⟩
  item := by
    intro X hP hw hK hc i pins s σ H E I hf st hg
    subst hP hw hK
    obtain ⟨f0, f1, f2, f3, f4, f5⟩ := hf e (by simp)
    obtain ⟨g0, g1, g2, g3, g4, g5⟩ := hf it (by simp)
    obtain ⟨⟨old, he⟩, hit⟩ := st
    obtain ⟨xs, x, hS, hx⟩ := hg
    obtain ⟨its, rv, hp, hz⟩ := I.list hS
    obtain ⟨u, hu, ru⟩ := rv.get hx
    refine wpAny_pyNext_enum_item he hit hp.isList (x := u) (by simpa using hu) hne fun h' he' hit' htup hsz hk => ?_
    have I0 : Inv X pins σ H { s with heap := h', toks := s.toks + 1 } := by
      refine I.step (g' := s.gens) (d' := s.drawn) (ch := [e, it]) (fun b hb => ?_) (fun b o _ _ hc' e1 _ => hk b o (fun z => hc' (by simp [z])) (fun z => hc' (by simp [z])) e1) (fun b o _ _ hc' e1 _ => ⟨o.slots, hk b o (fun z => hc' (by simp [z])) (fun z => hc' (by simp [z])) e1⟩) (fun _ _ _ _ n => n)
        (fun b o hc' e1 => ⟨o, hk b o (fun z => hc' (by simp [z])) (fun z => hc' (by simp [z])) e1⟩) (fun _ _ e1 => e1) (fun _ _ _ e1 => e1) (fun b ps e1 => ⟨#[], by rw [e1]; simp⟩) (fun m hm => ?_) (fun b u' e1 => ?_) I.bare
      · rcases List.mem_cons.mp hb with rfl | hb
        · exact ⟨f3, f1, f4, f5⟩
        · have e' : b = it := by simpa using hb
          subst e'
          exact ⟨g3, g1, g4, g5⟩
      · obtain ⟨o, es, ep, ho, r⟩ := hm
        exact ⟨o, es, ep, hk _ o (Ne.symm f1) (Ne.symm g1) ho, r⟩
      · have nit : ∀ c v', H c = some v' → c ≠ e ∧ c ≠ it := fun c v' q => ⟨fun z => (by rw [z, f0] at q; cases q), fun z => (by rw [z, g0] at q; cases q)⟩
        refine (I.hok b u' e1).stay (fun c v' hc' q => ?_) (fun _ q => q) fun _ _ q => q
        rcases hc' with z | z
        · subst z; exact hk c v' (nit c _ e1).1 (nit c _ e1).2 q
        · exact hk c v' (nit c _ z).1 (nit c _ z).2 q
    have hfr : H s.heap.objs.size = none := I.hok.fresh (Nat.le_refl _)
    have I1 : Inv X pins σ (upd H s.heap.objs.size (.tup [.int i, x])) { s with heap := h', toks := s.toks + 1 } := by
      have hok : HOk X.prog X.w (upd H s.heap.objs.size (.tup [.int i, x])) h' := fun b o q => by
        by_cases hb : b = s.heap.objs.size
        · subst hb
          rw [upd_same] at q; cases q
          exact ⟨by show 2 ≤ sizeLine; decide, [.int i s.toks, u], .cons ⟨_, rfl⟩ (.cons ru .nil), ⟨_, htup, rfl, _, rfl⟩⟩
        · rw [upd_ne hb] at q
          exact (I0.hok b o q).stay (fun _ _ _ z => z) (fun c z => by rw [upd_ne (ne_of_none z hfr)]; exact z) fun c xs' z => by rw [upd_ne (ne_of_none z hfr)]; exact z
      refine I0.step (s := { s with heap := h', toks := s.toks + 1 }) (g' := s.gens) (d' := s.drawn) (h' := h') (t' := s.toks + 1) (ch := [s.heap.objs.size]) (fun b hb => ?_) (fun b o _ _ _ e1 _ => e1) (fun b o _ _ _ e1 _ => ⟨o.slots, e1⟩) (fun b o hb e1 n => by rw [upd_ne (fun z => hb (by simp [z]))]; exact n)
        (fun b o _ e1 => ⟨o, e1⟩) (fun b xs' e1 => by rw [upd_ne (ne_of_none e1 hfr)]; exact e1) (fun b o' u' e1 => by rw [upd_ne (ne_of_none e1 hfr)]; exact e1) (fun b ps e1 => ⟨#[], by rw [upd_ne (ne_of_none e1 hfr), e1]; simp⟩) (fun m hm => hm) hok I0.bare
      have e' : b = s.heap.objs.size := by simpa using hb
      subst e'
      refine ⟨.inr I.sz, fun z => ?_, fun y c h z => ?_, fun p hp' z => ?_⟩
      · have := I.lt; rw [← z] at this; exact absurd this (Nat.lt_irrefl _)
      · obtain ⟨v', hv⟩ := I.cell y c h
        have := hv.lt; rw [z] at this; exact absurd this (Nat.lt_irrefl _)
      · have := I.pin_lt hp'; rw [z] at this; exact absurd this (Nat.lt_irrefl _)
    refine ⟨_, rfl, wpAny_letOwnedTupleGo_enum he' fun h2 he2 hs2 => ?_⟩
    have nes : s.heap.objs.size ≠ e := fun z => by
      have := Heap.lt_size (show s.heap.get? e = some _ from he)
      rw [← z] at this; exact absurd this (Nat.lt_irrefl _)
    have nis : s.heap.objs.size ≠ it := fun z => by
      obtain ⟨o, ho, _⟩ := hit
      have := Heap.lt_size ho
      rw [← z] at this; exact absurd this (Nat.lt_irrefl _)
    have I2 : Inv X pins σ (upd H s.heap.objs.size (.tup [.int i, x])) { s with heap := h2, toks := s.toks + 1 } :=
      I1.turned (s := { s with heap := h', toks := s.toks + 1 }) (t' := s.toks + 1) (it := e) (fun b o hb q => (hs2.2 b hb).trans q) (by rw [upd_ne nes.symm]; exact f0) f1 f3 f4 f5
    refine ⟨.ref s.heap.objs.size, _, I2, rfl, ⟨_, x, rfl, hfr, fun xs' h' => ?_, rfl⟩, ⟨⟨_, by simpa using he2⟩, ?_⟩, fun b hb => ?_⟩
    · rw [I.list_inj h' hS]; exact hx
    · obtain ⟨o, ho, r⟩ := hit'
      exact ⟨o, (hs2.2 it (Ne.symm hne)).trans ho, r⟩
    · rcases List.mem_cons.mp hb with rfl | hb
      · rw [upd_ne nes.symm]; exact f0
      · have e' : b = it := by simpa using hb
        subst e'
        rw [upd_ne nis.symm]; exact g0
  done := by
    intro X hP hw hK hc i pins s σ H E I hf st hg
    subst hP hw hK
    obtain ⟨⟨old, he⟩, hit⟩ := st
    obtain ⟨g0, g1, g2, g3, g4, g5⟩ := hf it (by simp)
    obtain ⟨xs, hS, hle⟩ := hg
    obtain ⟨its, rv, hp, hz⟩ := I.list hS
    have hx : its.toArray[i]? = none := by simp [← rv.length, hle]
    exact wpAny_pyNext_enum_end (I.ok.hd hc) he hit hp.isList hx fun h' eb => ⟨rfl, I.turned (t' := s.toks) (fun b o hb e1 => eb b o hb e1) g0 g1 g3 g4 g5⟩
  self := fun A i s Q E st h => by
    obtain ⟨⟨old, he⟩, _⟩ := st
    exact wpAny_pyIter_enum he h
section
variable {X : Cx} {elts : List Expr} {x1 : Nat} {tpos : Pos}
def iEnum (K : PySem.W.Frag) (ta : TA) : TI := fun σ H R => ta σ H fun vs H1 => ∃ a, vs = [.ref a] ∧ (∃ xs, SqL K H1 a xs) ∧ R (Ite K a) H1
theorem pi_enum {l : Expr} {ta : TA} {p pos : Pos} (hg : Gl X "enumerate") (hm : X.mg "enumerate" = none) (ha : PA X [l] ta) (hl : isSt l = false := by rfl) : PI X (.Tuple elts x1 tpos) (.Call (.Name "enumerate" p) [l] [] pos) (iEnum X.K ta) := by
  refine ⟨?_⟩
  intro pins s σ H R I h
  refine Call_ (ld_blt I hg hm PyProof.Rows.boot_enumerate (PyProof.Rows.callWith_type1 (thn (ha pos pins s σ H _ I h) fun us s1 ⟨vs, H1, I1, r1, q1⟩ => ?_) (star_cons hl) rfl))
  obtain ⟨a, e, ⟨xs, hS⟩, q⟩ := q1
  subst e
  obtain ⟨u, rfl, ru⟩ := vals1 r1
  cases ru
  obtain ⟨its, rv, hp, hz⟩ := I1.list hS
  refine call_enumerate_list hp.isList fun h' he hit hsz hk => ?_
  refine wpAny_pyIter_enum he ?_
  have hfr : ∀ b, s1.heap.objs.size ≤ b → H1 b = none := fun b hb => I1.hok.fresh hb
  have I2 : Inv X pins σ H1 { s1 with heap := h' } := I1.kept (t' := s1.toks) hk
  refine ⟨s1.heap.objs.size + 1, [s1.heap.objs.size + 1, s1.heap.objs.size], _, _, H1, rfl, I2, turn_enum a _ _ (Nat.succ_ne_self _), ⟨⟨_, he⟩, hit⟩, fun b hb => ?_, q⟩
  rcases List.mem_cons.mp hb with rfl | hb
  · exact I1.fpOk (Nat.le_succ _) (hfr _ (Nat.le_succ _))
  · have e' : b = s1.heap.objs.size := by simpa using hb
    subst e'
    exact I1.fpOk (Nat.le_refl _) (hfr _ (Nat.le_refl _))
end
end L2

set_option Elab.async false
set_option linter.all false
set_option maxRecDepth 100000
set_option maxHeartbeats 4000000
namespace Att
open PySem PySem.W PySem.Calls PyProof.Rows
/-! ### the script's numbers have at most 2 ^ 20 bits each -/
end Att
namespace L2
open PySem PySem.Spec PyProof.Rows
section
variable {X : Cx}
end
end L2

set_option Elab.async false
set_option linter.all false
set_option maxRecDepth 100000
set_option maxHeartbeats 4000000
namespace L2
open PySem PySem.Spec PyProof.Rows
/-! ### defs with defaults; an instance made with keywords -/
/-- a def or method whose defaults are these values -/
structure FunD (K : PySem.W.Frag) (x qual : Str) (st : Stmt) (f : Addr) (fd : FuncData) (items : List Value) : Prop where
  ex : ∃ (oc : Value) (od : Option Addr) (T : Addr) (kV doc pm : Value) (an : Option Addr) (cdv ct : Value) (osl : Array (Option Value)) (o : Obj) (n : Nat),
    fd = PySem.W.fnOf x qual (defArgs st) (defBody st) (defScope st) (.ref T) kV doc pm an cdv ct ∧ K.lookup f = some ⟨oc, od, .func fd, osl⟩ ∧ PySem.W.codeIn K cdv qual = true ∧ K.lookup T = some o ∧ o.data = .seq items.toArray n
  kp : PySem.W.keepIn K (.ref f) = true
section
variable {P : Program} {w : World} {K : PySem.W.Frag} {mg : Str → Option Value} {base : Heap}
/-- how it binds: h is «fun _ _ _ _ _ _ _ => ⟨_, rfl, rfl⟩» -/
theorem FunD.bindsTo {x qual : Str} {st : Stmt} {f : Addr} {fd : FuncData} {items : List Value} (F : FunD K x qual st f fd items) {args : Args} {bs : List (Str × Value)}
    (h : ∀ (T : Addr) (kV doc pm : Value) (an : Option Addr) (cdv ct : Value), ∃ k : Option (Array Value) → Sem (List (Str × Value)),
      bindArgs (PySem.W.fnOf x qual (defArgs st) (defBody st) (defScope st) (.ref T) kV doc pm an cdv ct) args = seqItems? (.ref T) >>= k ∧ k (some items.toArray) = pure bs) {s : Shared} (KX : K.In s.heap) : BindsTo s fd args bs := by
  obtain ⟨oc, od, T, kV, doc, pm, an, cdv, ct, osl, o, n, rfl, lk, hcd, lt, hs⟩ := F.ex
  obtain ⟨k, h1, h2⟩ := h T kV doc pm an cdv ct
  exact BindsTo.of_defaults (T := T) (n := n) rfl (KX _ _ lt) hs h1 h2
theorem funD_mk {x qual : Str} {st : Stmt} {f T : Addr} {oc : Value} {od an : Option Addr} {osl : Array (Option Value)} {kV doc pm cdv ct : Value} {o : Obj} {n : Nat} {items : List Value}
    (l : K.lookup f = some ⟨oc, od, .func (PySem.W.fnOf x qual (defArgs st) (defBody st) (defScope st) (.ref T) kV doc pm an cdv ct), osl⟩)
    (c : PySem.W.codeIn K cdv qual = true) (k : PySem.W.keepIn K (.ref f) = true) (lT : K.lookup T = some o) (hs : o.data = .seq items.toArray n) :
    FunD K x qual st f (PySem.W.fnOf x qual (defArgs st) (defBody st) (defScope st) (.ref T) kV doc pm an cdv ct) items := ⟨⟨oc, od, T, kV, doc, pm, an, cdv, ct, osl, o, n, rfl, l, c, lT, hs⟩, k⟩
end
section
variable {X : Cx} {CX : CXT} {k : Nat} {f C : Addr} {fd : FuncData} {ps ks : List Str} {sp : Sp} {E : XK} {x : Str} {p pos : Pos} {e : Expr} {es : List Expr} {kws : List Keyword} {t tk : TA}
  {g : List Value → List Value → List Value} {gV : List V → List V → List V}
end
/-! ### a statement and what follows, with what holds between them; comprehensions over a list -/
theorem seq_via {t u : TS} {D : Ends} {σ : St} {H : Hp} (R : St → Hp → Prop) (h2 : ∀ σ H, R σ H → u D σ H) (h1 : (∀ σ H, R σ H → u D σ H) → t { D with nx := u D } σ H) : tSeq t u D σ H := h1 h2
/-- what a turn of a block that makes the list at D asks of its item -/
def lcN (n i : Nat) (D : Addr) (Pv : Nat → List V → Hp → Prop) (ys : List V) : VK := fun v H4 => H4 D = some (.lst ys) ∧ ys.length < sizeLine ∧ ∃ m', m' < n - i ∧ m' = n - (i + 1) ∧ i + 1 ≤ n ∧ Pv (i + 1) (ys ++ [v]) (upd H4 D (.lst (ys ++ [v])))
def lcS (n i : Nat) (Pv : Nat → List V → Hp → Prop) (ys : List V) : Hp → Prop := fun H4 => ∃ m', m' < n - i ∧ m' = n - (i + 1) ∧ i + 1 ≤ n ∧ Pv (i + 1) ys H4
theorem lcN.mk {n i : Nat} {D : Addr} {Pv : Nat → List V → Hp → Prop} {ys : List V} {v : V} {H4 : Hp} (hi : i < n) (hn : n ≤ sizeLine) (hD : H4 D = some (.lst ys)) (hy : ys.length ≤ i) (p : Pv (i + 1) (ys ++ [v]) (upd H4 D (.lst (ys ++ [v])))) : lcN n i D Pv ys v H4 :=
  ⟨hD, by omega, n - (i + 1), by omega, rfl, hi, p⟩
theorem lcS.mk {n i : Nat} {Pv : Nat → List V → Hp → Prop} {ys : List V} {H4 : Hp} (hi : i < n) (p : Pv (i + 1) ys H4) : lcS n i Pv ys H4 := ⟨n - (i + 1), by omega, rfl, hi, p⟩
theorem lc_list {K : PySem.W.Frag} {a : Addr} {xs : List V} {caps : List (Option Nat)} {g : TG} {tt : TT} {te : TE} {σ : St} {H1 : Hp} {Q : VK} {D : Addr} (Pv : Nat → List V → Hp → Prop) (h0 : Pv 0 [] (upd H1 D (.lst [])))
    (hl : ∀ i ys H, Pv i ys H → SqL K H a xs)
    (hs : ∀ i x ys H, i < xs.length → xs[i]? = some x → Pv i ys H → g x (capS caps σ) H fun σ2 H2 => tt σ2 H2 fun ok H3 => (ok = true → te σ2 H3 (lcN xs.length i D Pv ys)) ∧ (ok = false → lcS xs.length i Pv ys H3))
    (hd : ∀ ys H, Pv xs.length ys H → Q (.ref D) H) : LCr (Itl K a) caps g tt te σ H1 Q D := by
  refine ⟨fun i m ys H => m = xs.length - i ∧ i ≤ xs.length ∧ Pv i ys H, ⟨xs.length, by simp, Nat.zero_le _, h0⟩, ?_⟩
  rintro i m ys H ⟨rfl, hi, p⟩
  have q := hl i ys H p
  by_cases hlt : i < xs.length
  · refine .inr ⟨⟨xs, xs[i], q, by simp [hlt]⟩, fun x H' y => ?_⟩
    obtain ⟨e, y⟩ := y
    subst e
    exact hs i x ys _ hlt (y xs q) p
  · have e : i = xs.length := by omega
    subst e
    exact .inl ⟨⟨xs, q, Nat.le_refl _⟩, hd ys H p⟩
theorem same_make0 {H : Hp} {x dx : Addr} {o1 : HO} (hx : H x = none) (hd : H dx = none) : Same H (upd (upd H dx (.own x)) x o1) := fun b u q => by
  rw [upd_ne (ne_of_none q hx), upd_ne (ne_of_none q hd)]
  exact q
theorem same_new {H : Hp} {p : Addr} (h : H p = none) (o : HO) : Same H (upd H p o) := fun b u q => by rw [upd_ne (ne_of_none q h)]; exact q
end L2

set_option Elab.async false
set_option linter.all false
set_option maxRecDepth 100000
set_option maxHeartbeats 4000000
namespace L2
open PySem PySem.Spec PyProof.Rows
/-! ### comprehensions over a range, over enumerate -/
theorem lc_range {lo : Int} {n : Nat} {caps : List (Option Nat)} {g : TG} {tt : TT} {te : TE} {σ : St} {H1 : Hp} {Q : VK} {D : Addr} (Pv : Nat → List V → Hp → Prop) (h0 : Pv 0 [] (upd H1 D (.lst [])))
    (hs : ∀ i ys H, i < n → Pv i ys H → g (.int (lo + i)) (capS caps σ) H fun σ2 H2 => tt σ2 H2 fun ok H3 => (ok = true → te σ2 H3 (lcN n i D Pv ys)) ∧ (ok = false → lcS n i Pv ys H3))
    (hd : ∀ ys H, Pv n ys H → Q (.ref D) H) : LCr (Itr lo n) caps g tt te σ H1 Q D := by
  refine ⟨fun i m ys H => m = n - i ∧ i ≤ n ∧ Pv i ys H, ⟨n, by simp, Nat.zero_le _, h0⟩, ?_⟩
  rintro i m ys H ⟨rfl, hi, p⟩
  by_cases hlt : i < n
  · refine .inr ⟨hlt, fun x H' y => ?_⟩
    obtain ⟨e, y⟩ := y
    subst e y
    exact hs i ys _ hlt p
  · have e : i = n := by omega
    subst e
    exact .inl ⟨Nat.le_refl _, hd ys H p⟩
theorem for_enum {K : PySem.W.Frag} {a : Addr} {xs : List V} {g : TG} {tb : TS} {D : Ends} {σ : St} {H : Hp} (Pv : Nat → St → Hp → Prop) (h0 : Pv 0 σ H) (hl : ∀ i σ H, i ≤ xs.length → Pv i σ H → SqL K H a xs)
    (hs : ∀ i x p σ H, xs[i]? = some x → Pv i σ H → H p = none → g (.ref p) σ (upd H p (.tup [.int i, x])) fun σ2 H2 => tb { D with nx := Pv (i + 1), ct := Pv (i + 1), bk := D.nx } σ2 H2) (hd : ∀ σ H, Pv xs.length σ H → D.nx σ H) :
    ∃ W : Nat → Nat → St → Hp → Prop, (∃ m, W 0 m σ H) ∧ ∀ i m σ H, W i m σ H →
      ((Ite K a).stop i H ∧ D.nx σ H) ∨ ((Ite K a).go i H ∧ ∃ N : St → Hp → Prop, (∀ σ' H', N σ' H' → ∃ m', m' < m ∧ W (i + 1) m' σ' H') ∧ ∀ x H', (Ite K a).yld i H x H' → g x σ H' fun σ2 H2 => tb { D with nx := N, ct := N, bk := D.nx } σ2 H2) := by
  refine ⟨fun i m σ H => m = xs.length - i ∧ i ≤ xs.length ∧ Pv i σ H, ⟨xs.length, by simp, Nat.zero_le _, h0⟩, ?_⟩
  rintro i m σ H ⟨rfl, hi, p⟩
  have q := hl i σ H hi p
  by_cases hlt : i < xs.length
  · refine .inr ⟨⟨xs, xs[i], q, by simp [hlt]⟩, Pv (i + 1), fun σ' H' p' => ⟨xs.length - (i + 1), by omega, rfl, hlt, p'⟩, fun x H' y => ?_⟩
    obtain ⟨pp, y, rfl, hp, y2, rfl⟩ := y
    exact hs i y pp σ H (y2 xs q) p hp
  · have e : i = xs.length := by omega
    subst e
    exact .inl ⟨⟨xs, q, Nat.le_refl _⟩, hd σ H p⟩
/-! ### places within a sequence; fewer bits -/
/-! ### isinstance of a tuple that is read -/
end L2

set_option Elab.async false
set_option linter.all false
set_option maxRecDepth 100000
set_option maxHeartbeats 4000000
namespace L2
open PySem PySem.Spec PyProof.Rows
/-! ### an exception in flight -/
/-- it left a callee: behind it lies the heap s', tracked by H'; the frames at outer still run -/
structure Fly (P : Program) (w : World) (outer : List Env) (H : Hp) (s : Shared) (cls : Value) (H' : Hp) (ea : Addr) (s' : Shared) : Prop where
  os : s'.os = s.os
  bare : AllBare s'.gens
  un : Un (frs outer) [] H H' s.heap s'.heap
  hok : HOk P w H' s'.heap
  nt : H' ea = none
  fly : ∃ B a0, Heap.FlyingW B outer ea cls a0 s'.heap ∧ (∀ b u, H' b = some u → ∃ o, B.get? b = some o) ∧ (∀ b o, s.heap.get? b = some o → H b = none → b ∉ frs outer → B.get? b = some o) ∧
    ∀ b o, s.heap.get? b = some o → b ∉ frs outer → ∃ o', B.get? b = some o'
abbrev CXe (P : Program) (w : World) : CXT := fun outer H s E e s' => ∃ ea cls H', e = .ref ea ∧ Fly P w outer H s cls H' ea s' ∧ E cls none H'
section
variable {X : Cx} {pins : List (Addr × Obj)} {σ : St} {H H' : Hp} {s s' : Shared} {ea : Addr} {cls : Value} {vs : List Value} {h' : Heap} {M : Model} {E : Value → Shared → Prop}
theorem frs_stack (hstk : X.stack = X.env :: X.outer) (hfl : X.env.frame = some X.env.locals) : frs X.stack = X.env.locals :: frs X.outer := by
  rw [hstk]
  unfold frs
  rw [List.filterMap_cons, hfl]
theorem HOk.sameAt {P : Program} {w : World} {h h' : Heap} (x : HOk P w H h) (k : ∀ b u o, H b = some u → h.get? b = some o → h'.get? b = some o) : HOk P w H h' := fun a o e =>
  (x a o e).stay (fun b u hb q => by
    rcases hb with z | z
    · exact k b o u (by rw [z]; exact e) q
    · exact k b _ u z q) (fun _ q => q) fun _ _ q => q
theorem HOk.rec {P : Program} {w : World} {h : Heap} (x : HOk P w H h) {b : Addr} {u : HO} (e : H b = some u) : ∃ o, h.get? b = some o := by
  have q := x b u e
  cases u with
  | lst xs => obtain ⟨_, _, _, _, e⟩ := q; exact ⟨_, e⟩
  | tup xs => obtain ⟨_, _, _, o, e, _⟩ := q; exact ⟨_, e⟩
  | dK kvs => obtain ⟨_, _, _, _, o, _, _, e, _⟩ := q; exact ⟨_, e⟩
  | dT kvs => obtain ⟨_, _, _, _, o, _, _, e, _⟩ := q; exact ⟨_, e⟩
  | set S n => obtain ⟨o, _, _, _, e, _⟩ := q; exact ⟨_, e⟩
  | ins C dx fs => obtain ⟨_, _, _, e, _⟩ := q; exact ⟨_, e⟩
  | own y => exact q
  | xd fs => obtain ⟨_, ⟨o, _, _, e, _⟩, _⟩ := q; exact ⟨_, e⟩
  | rng lo hi => obtain ⟨_, _, _, e⟩ := q; exact ⟨_, e⟩
  | frz ob u => obtain ⟨e, _⟩ := q; exact ⟨_, e⟩
  | tbl ps => exact ⟨_, q⟩
  | met f y => exact ⟨_, q⟩
  | ext φ => exact q.2.1
/-- a new exception leaves the frame -/
theorem fly_made (I : Inv X pins σ H s) (hstk : X.stack = X.env :: X.outer) (hfl : X.env.frame = some X.env.locals) (hex : X.ex = []) (hx : Heap.MadeExcOf s.heap h' ea cls vs) :
    wpAny M X.A (leaving X.env (.ref ea)) (fun _ s'' => Fly X.prog X.w X.outer X.H₀ X.s₀ cls H ea s'') E { s with heap := h' } := by
  have fr := frs_stack hstk hfl
  have fl : s.heap.FunFrames (PySem.W.hideAll s.heap (frs X.stack)) (X.env :: X.outer) := by
    have := I.stack
    rw [hstk] at this
    refine PySem.W.funFrames_hide this fun env he b hb => ?_
    rw [hstk]
    exact List.mem_filterMap.mpr ⟨env, he, hb⟩
  have fr0 := I.ok.frames
  rw [hstk] at fr0
  have neL : ∀ b o, X.s₀.heap.get? b = some o → b ≠ X.env.locals := fun b o e => Nat.ne_of_lt (Nat.lt_of_lt_of_le (Heap.lt_size e) I.ok.above)
  have noEx : ∀ b : Addr, b ∉ X.ex := fun b => by rw [hex]; simp
  have inB : ∀ b o, s.heap.get? b = some o → b ∉ frs X.stack → (PySem.W.hideAll s.heap (frs X.stack)).get? b = some o := fun b o e n => PySem.W.hideAll_get _ e n
  have trB : ∀ b u, H b = some u → b ∉ frs X.stack := fun b u e n => by rw [I.stkFree b n] at e; cases e
  refine wpAny_leaves_madeW (base := PySem.W.hideAll s.heap (frs X.stack)) fr0 hfl (fun b o q => PySem.W.of_hideAll _ q) fl hx fun h2 t x1 x2 x3 x4 => ?_
  have stay : ∀ b o, s.heap.get? b = some o → b ∉ frs X.stack → h2.get? b = some o := fun b o e n => x1.1 b o (inB b o e n)
  have up : ∀ b o, s.heap.get? b = some o → (∀ vs, o.data ≠ .fields vs) → ∃ sl, h2.get? b = some { o with slots := sl } := fun b o e n => x4 b o (hx.keeps b o e) n
  refine ⟨I.os, I.bare, ⟨fun b o e n hb _ => ?_, fun b o e n hb _ => ?_, fun b o e n _ => I.base.free b o e n (noEx b), fun b o e _ => ?_, I.base.tups, I.base.frzs, I.base.tbls⟩, I.hok.sameAt fun b u o e q => stay b o q (trB b u e), ?_, ?_⟩
  · refine stay b o (I.base.keep b o e n hb (noEx b)) ?_
    rw [fr]
    exact fun z => (List.mem_cons.mp z).elim (neL b o e) hb
  · obtain ⟨sl, e1⟩ := I.base.slot b o e n hb (noEx b)
    obtain ⟨_, o', ho', hd⟩ := I.funs.mem hb
    rw [e1] at ho'
    cases ho'
    obtain ⟨sl2, e2⟩ := up b _ e1 hd
    exact ⟨sl2, e2⟩
  · obtain ⟨o1, e1⟩ := I.base.there b o e (noEx b)
    by_cases hb : b ∈ frs X.stack
    · obtain ⟨_, o', ho', hd⟩ := I.stack.mem hb
      obtain ⟨sl2, e2⟩ := up b o' ho' hd
      exact ⟨_, e2⟩
    · exact ⟨o1, stay b o1 e1 hb⟩
  · cases q : H ea with
    | none => rfl
    | some u =>
      obtain ⟨o, e⟩ := I.hok.rec q
      rw [hx.new] at e; cases e
  · refine ⟨_, _, x1, fun b u e => ?_, fun b o e n hb => ?_, fun b o e hb => ?_⟩
    · obtain ⟨o, q⟩ := I.hok.rec e
      exact ⟨o, inB b o q (trB b u e)⟩
    · refine inB b o (I.base.keep b o e n hb (noEx b)) ?_
      rw [fr]
      exact fun z => (List.mem_cons.mp z).elim (neL b o e) hb
    · obtain ⟨o1, e1⟩ := I.base.there b o e (noEx b)
      refine ⟨o1, inB b o1 e1 ?_⟩
      rw [fr]
      exact fun z => (List.mem_cons.mp z).elim (neL b o e) hb
/-- an exception of a callee leaves the frame -/
theorem fly_on (I : Inv X pins σ H s) (hstk : X.stack = X.env :: X.outer) (hfl : X.env.frame = some X.env.locals) (hex : X.ex = []) (F : Fly X.prog X.w X.stack H s cls H' ea s') :
    wpAny M X.A (leaving X.env (.ref ea)) (fun _ s'' => Fly X.prog X.w X.outer X.H₀ X.s₀ cls H' ea s'') E s' := by
  have fr := frs_stack hstk hfl
  have fr0 := I.ok.frames
  rw [hstk] at fr0
  obtain ⟨B, a0, fl, tr, old, olds⟩ := F.fly
  have neL : ∀ b o, X.s₀.heap.get? b = some o → b ≠ X.env.locals := fun b o e => Nat.ne_of_lt (Nat.lt_of_lt_of_le (Heap.lt_size e) I.ok.above)
  have noEx : ∀ b : Addr, b ∉ X.ex := fun b => by rw [hex]; simp
  have nst : ∀ b o, X.s₀.heap.get? b = some o → b ∉ frs X.outer → b ∉ frs X.stack := fun b o e hb => by
    rw [fr]
    exact fun z => (List.mem_cons.mp z).elim (neL b o e) hb
  have fl' := fl
  rw [hstk] at fl'
  refine wpAny_leaves_onW fr0 hfl fl' fun h2 x1 x2 => ?_
  have oldB : ∀ b o, X.s₀.heap.get? b = some o → X.H₀ b = none → b ∉ frs X.outer → B.get? b = some o := fun b o e n hb =>
    old b o (I.base.keep b o e n hb (noEx b)) (I.base.free b o e n (noEx b)) (nst b o e hb)
  refine ⟨F.os.trans I.os, F.bare, ⟨fun b o e n hb _ => x1.1 b o (oldB b o e n hb), fun b o e n hb _ => ?_, fun b o e n _ => ?_, fun b o e _ => ?_, fun b xs e => F.un.tups b xs (I.base.tups b xs e), fun b o u e => F.un.frzs b o u (I.base.frzs b o u e), fun b ps e => ?_⟩, F.hok.sameAt fun b u o e q => ?_, F.nt, ⟨B, a0, x1, tr, oldB, fun b o e hb => ?_⟩⟩
  · obtain ⟨sl, e1⟩ := I.base.slot b o e n hb (noEx b)
    obtain ⟨sl1, e2⟩ := F.un.any e1 (I.base.free b o e n (noEx b)) (by simp)
    have hd : ∀ vs, o.data ≠ .fields vs := by
      obtain ⟨_, o', ho', hd⟩ := I.funs.mem hb
      rw [e1] at ho'
      cases ho'
      exact hd
    obtain ⟨sl2, e3⟩ := x2 b _ e2 hd
    exact ⟨sl2, e3⟩
  · obtain ⟨o', e1⟩ := I.base.there b o e (noEx b)
    exact F.un.free b o' e1 (I.base.free b o e n (noEx b)) (by simp)
  · obtain ⟨o1, e1⟩ := I.base.there b o e (noEx b)
    obtain ⟨o2, e2⟩ := F.un.there b o1 e1 (by simp)
    by_cases hb : b ∈ frs X.stack
    · obtain ⟨_, o', ho', hd⟩ := fl.2.2.1.mem hb
      obtain ⟨sl2, e3⟩ := x2 b o' ho' hd
      exact ⟨_, e3⟩
    · obtain ⟨o3, e3⟩ := olds b o1 e1 hb
      exact ⟨o3, x1.1 b o3 e3⟩
  · obtain ⟨m1, e1⟩ := I.base.tbls b ps e
    obtain ⟨m2, e2⟩ := F.un.tbls b _ e1
    exact ⟨m1 ++ m2, by rw [e2, Array.append_assoc]⟩
  · obtain ⟨o3, e3⟩ := tr b u e
    have e4 := fl.1 b o3 e3
    rw [q] at e4
    cases e4
    exact x1.1 b o e3
  · obtain ⟨o1, e1⟩ := I.base.there b o e (noEx b)
    exact olds b o1 e1 (nst b o e hb)
end
end L2

set_option Elab.async false
set_option linter.all false
set_option maxRecDepth 100000
set_option maxHeartbeats 4000000
namespace L2
open PySem PySem.Spec PyProof.Rows
/-! ### raise C(..) -/
/-- what is wanted of a new exception that this code raises -/
def Raises (X : Cx) (E : XK) : Prop := ∀ (pins : List (Addr × Obj)) (σ : St) (H : Hp) (s : Shared) (ea : Addr) (cls : Value) (vs : List Value) (h' : Heap), Inv X pins σ H s → Heap.MadeExcOf s.heap h' ea cls vs → E cls none H → X.xe (.ref ea) { s with heap := h' }
def tRaise (C : Addr) (E : XK) (t : TA) : TS := fun _ σ H => t σ H fun vs H1 => vs.length ≤ sizeLine ∧ E (.ref C) none H1
section
variable {X : Cx} {E : XK} {x : Str} {C : Addr} {B Bn newId nid initId inN : String} {bm bmN : List Value} {np cpos pos : Pos} {e : Expr} {es : List Expr} {t : TA}
theorem ps_raise (hX : Raises X E) (O : OwnCls x C bm newId X.mg X.base) (Fn : ExcBaseFacts Bn newId inN bmN) (hBn : bm.contains (.type Bn) = true) (FB : ExcBaseFacts B nid initId bm) (hc : X.calm = true) (ha : PA X (e :: es) t)
    (hg : Gl X x := by rfl) (hd : (x == ("__debug__" : Str)) = false := by decide) (h1 : isSt e = false := by rfl) (h2 : es.any isSt = false := by rfl) :
    PS X (.Raise (some (.Call (.Name x np) (e :: es) [] cpos)) none pos) (tRaise C E t) := by
  refine ⟨?_⟩
  intro pins s σ H D I h
  obtain ⟨tl, N, nm, q, bs, hdct, sn, sub, ab, col, dd, k0, k1, k2, k3, k5, mN, hC, hN, hni, T⟩ := O.obj
  have hst : starEach (e :: es) X.env = (false, eval e X.env) :: starEach es X.env := star_cons h1
  refine wpAny_Raise_call_subU (C := C) (nm := nm) (q := q) (N := N) (bs := bs) (bm := tl) (hdct := hdct) (sn := sn) (sub := sub) (ab := ab) (col := col) (dd := dd) (k0 := k0) (k1 := k1) (k2 := k2) (k3 := k3) (k5 := k5)
    Fn hBn FB (mN := mN) (T.hasType FB.hasBase) (I.ok.hd hc) (by rw [hst]; show (false || (backTo cpos (starEach es X.env)).any (·.1)) = false; rw [star_any h2]; rfl) hni (ld_glob I hg O.bound ⟨rfl, ?_⟩ hd)
  rw [hst]
  refine Calls.evalArgs_plain ?_
  have hA := ha cpos pins s σ H _ I h
  rw [hst] at hA
  refine thn hA fun us s2 ⟨vs, H1, I1, r, hl, q1⟩ => ⟨rfl, by rw [← r.length]; exact hl, I1.bk _ _ hC, hN.keeps I1.bk, T.keeps I1.bk, fun h' ea hm => ?_⟩
  exact hX pins σ H1 s2 ea _ _ h' I1 hm q1
end
/-! ### a def that may raise -/
section
variable {P : Program} {w : World} {K : PySem.W.Frag} {mg : Str → Option Value} {base : Heap} {N : List Str} {qual : Str} {scope : Scope} {f : Addr} {cd : Value} {A : Around} {outer : List Env} {s : Shared} {H : Hp} {E E' : XK}
theorem raises_cx : Raises (cxOf (CXe P w) P w K mg base N qual scope f cd A outer s H E) E := fun pins σ H1 s1 ea cls vs h' I hm q => by
  refine wpAny_mono (fly_made I rfl rfl rfl hm) (fun _ s2 F => ?_) fun _ _ z => z
  exact ⟨ea, cls, H1, rfl, F, q⟩
theorem passE (hE : ∀ c d H, E' c d H → E c d H) : Passes (CXe P w) (cxOf (CXe P w) P w K mg base N qual scope f cd A outer s H E) E' := fun pins σ H1 s1 e s' I q => by
  obtain ⟨ea, cls, H', rfl, F, q⟩ := q
  refine wpAny_mono (fly_on I rfl rfl rfl F) (fun _ s2 F2 => ?_) fun _ _ z => z
  exact ⟨ea, cls, H', rfl, F2, hE _ _ _ q⟩
theorem Fun.okE {x : Str} {st : Stmt} {fd : FuncData} {ps : List Str} {k : Nat} {sp : Sp} (F : Fun K x qual st f fd) (S : FnScope N ps (defScope st)) (len : ∀ vs H Q E, sp vs H Q E → vs.length = ps.length)
    (hbody : ∀ (cdv : Value) (A : Around) (outer : List Env) (s : Shared) (H : Hp) (vs : List V) (Q : VK) (E : XK), Room k (A.deeper (envOfC qual (defScope st) s.heap.objs.size f cdv)) → sp vs H Q E →
      ∃ t, PSs (cxOf (CXe P w) P w K mg base N qual (defScope st) f cdv A outer s H E) (defBody st) t ∧ t { nx := fun _ H' => Q .non H', rt := Q } (start N vs) H) : FnOk P w K mg base (CXe P w) (k + 1) f fd ps sp := by
  obtain ⟨oc, od, kV, doc, pm, an, cdv, ct, osl, rfl, lk, hcd⟩ := F.ex
  exact fn_of lk hcd S len fun A outer s H vs Q E hr hsp => hbody cdv A outer s H vs Q E hr hsp
end
/-- a def that may raise, as callers have it -/
structure CalleeE (P : Program) (w : World) (K : PySem.W.Frag) (mg : Str → Option Value) (base : Heap) (k : Nat) (x : Str) (f : Addr) (fd : FuncData) (ps : List Str) (sp : Sp) : Prop where
  ok : FnOk P w K mg base (CXe P w) k f fd ps sp
  mg : mg x = some (.ref f)
  kp : PySem.W.keepIn K (.ref f) = true
  bd : Binds K fd ps []
section
variable {X : Cx} {k : Nat} {f : Addr} {fd : FuncData} {ps : List Str} {sp : Sp} {E : XK} {x : Str} {p pos : Pos} {e : Expr} {es : List Expr} {t : TA}
theorem cE (c : CalleeE X.prog X.w X.K X.mg X.base k x f fd ps sp) (hp : Passes (CXe X.prog X.w) X E) (hr : Room k X.A) (ha : PA X (e :: es) t) (hg : Gl X x := by rfl) (hdb : (x == ("__debug__" : Str)) = false := by decide)
    (h1 : isSt e = false := by rfl) (h2 : es.any isSt = false := by rfl) : PE X (.Call (.Name x p) (e :: es) [] pos) (tCall sp [] E t) :=
  pe_call c.ok hr hg c.mg c.kp c.bd .nil hp ha hdb (star_cons h1) (star_any h2)
end
end L2

set_option Elab.async false
set_option linter.all false
set_option maxRecDepth 100000
set_option maxHeartbeats 4000000
namespace L2
open PySem PySem.Spec PyProof.Rows
/-! ### an exception that is caught -/
section
variable {X : Cx} {pins : List (Addr × Obj)} {σ : St} {H H' : Hp} {s s' : Shared} {ea a : Addr} {cls : Value} {o : HO} {h5 : Heap}
/-- an untracked thing is tracked from now on -/
theorem Inv.track (I : Inv X pins σ H s) (hn : H a = none) (new : ObjOk X.prog X.w (upd H a o) s.heap a o) (h0 : ∀ u, X.s₀.heap.get? a = some u → X.H₀ a = none → a ∉ X.ex → False) (hL : X.env.locals ≠ a)
    (hc : ∀ x c, X.env.cells.lookup x = some c → c ≠ a) (hp : ∀ p ∈ X.pn ++ pins, p.1 ≠ a) : Inv X pins σ (upd H a o) s := by
  refine ⟨I.ok, I.os, I.bare, ⟨I.base.keep, I.base.slot, fun b u e n x => ?_, I.base.there, fun b xs e => ?_, fun b u v e => ?_, fun b ps e => ?_⟩, I.loc, I.cell, ?_, fun x c e => ?_, fun p hp' => ?_, fun b u e => ?_, I.len⟩
  · have hb : b ≠ a := fun z => by subst z; exact h0 u e n x
    rw [upd_ne hb]
    exact I.base.free b u e n x
  · have e1 := I.base.tups b xs e
    rw [upd_ne (ne_of_none e1 hn)]; exact e1
  · have e1 := I.base.frzs b u v e
    rw [upd_ne (ne_of_none e1 hn)]; exact e1
  · obtain ⟨more, e1⟩ := I.base.tbls b ps e
    exact ⟨more, by rw [upd_ne (ne_of_none e1 hn)]; exact e1⟩
  · rw [upd_ne hL]; exact I.free
  · rw [upd_ne (hc x c e)]; exact I.freeC x c e
  · obtain ⟨q1, q2, q3⟩ := I.pin p hp'
    exact ⟨q1, by rw [upd_ne (hp p hp')]; exact q2, q3⟩
  · by_cases hb : b = a
    · subst hb; rw [upd_same] at e; cases e; exact new
    · rw [upd_ne hb] at e
      exact (I.hok b u e).stay (fun _ _ _ q => q) (fun c q => by rw [upd_ne (ne_of_none q hn)]; exact q) fun c xs q => by rw [upd_ne (ne_of_none q hn)]; exact q
end
end L2

set_option Elab.async false
set_option linter.all false
set_option maxRecDepth 100000
set_option maxHeartbeats 4000000
namespace L2
open PySem PySem.Spec PyProof.Rows
section
variable {X : Cx} {pins : List (Addr × Obj)} {σ : St} {H : Hp} {s : Shared} {M : Model} {A : Around} {E : Value → Shared → Prop} {i : Nat} {n : Str} {pos : Pos}
/-- the name of an except clause goes behind its suite -/
theorem name_goes {Q : Unit → Shared → Prop} (I : Inv X pins σ H s) (hN : X.N.Nodup) (hi : X.N[i]? = some n) (hk : X.env.scope.names.lookup n = some .local) (h : ∀ s', Inv X pins (σ.set i none) H s' → Q () s') :
    wpAny M A (do bindName X.env n .none; unbindBehindTheSuite X.env n pos) Q E s := by
  refine wpAny_bind (wpAny_bindName (store_ok (v := .non) (u := .none) I hN hi (.inl hk) rfl (fun s1 I1 => ?_) (.inr hk)))
  unfold unbindBehindTheSuite
  refine wpAny_onRaise ?_
  have hiσ : i < σ.length := by rw [I.len]; exact (List.getElem?_eq_some_iff.mp hi).1
  have hcls : (X.env.scope.kind == .class || (X.env.scope.kind == .module && X.env.locals != X.env.globals)) = false := by rw [I.ok.kind]; rfl
  obtain ⟨m, hn, hl⟩ := id I1.loc
  obtain ⟨u0, _, lk⟩ := hl i n .non hi (by rw [List.getElem?_set_self hiσ]) (.inl hk)
  have hv : m n = some u0 := by
    rcases lk with ⟨_, e⟩ | ⟨z, _⟩
    · exact e
    · have z' : X.env.scope.names.lookup n = some .cell ∨ X.env.scope.names.lookup n = some .free := z
      rw [hk] at z'
      rcases z' with z' | z' <;> cases z'
  refine wpAny_unbindName_local hk hn hv hcls fun h2 u hn2 hs => h _ ?_
  have old : ∀ b o, X.s₀.heap.get? b = some o → b ≠ X.env.locals := fun b o e => Nat.ne_of_lt (Nat.lt_of_lt_of_le (Heap.lt_size e) I1.ok.above)
  refine ⟨I1.ok, I1.os, I1.bare, ⟨fun b o e z hb hx => (hs.2 b (old b o e)).trans (I1.base.keep b o e z hb hx), fun b o e z hb hx => ?_, I1.base.free, fun b o e hx => ?_, I1.base.tups, I1.base.frzs, I1.base.tbls⟩, ⟨_, hn2, fun j y v e1 e2 e3 => ?_⟩, fun y c e => ?_, I1.free, I1.freeC, fun p hp => ?_, fun b ob e => ?_, by rw [List.length_set]; exact I.len⟩
  · obtain ⟨sl, e1⟩ := I1.base.slot b o e z hb hx
    exact ⟨sl, (hs.2 b (old b o e)).trans e1⟩
  · obtain ⟨o', e1⟩ := I1.base.there b o e hx
    exact ⟨o', (hs.2 b (old b o e)).trans e1⟩
  · by_cases hj : j = i
    · subst hj
      rw [List.getElem?_set_self hiσ] at e2
      cases e2
    · rw [List.getElem?_set_ne (Ne.symm hj)] at e2
      obtain ⟨u', r', q⟩ := hl j y v e1 (by rw [List.getElem?_set_ne (Ne.symm hj)]; exact e2) e3
      refine ⟨u', r', ?_⟩
      rcases q with ⟨k, e⟩ | ⟨k, c, e, z⟩
      · have ny : y ≠ n := fun w => hj (nodup_ix hN e1 (w ▸ hi))
        exact .inl ⟨k, by simp [ny, e]⟩
      · exact .inr ⟨k, c, e, z.sameBut hs (I1.cne y c e)⟩
  · obtain ⟨w', z⟩ := I1.cell y c e
    exact ⟨w', z.sameBut hs (I1.cne y c e)⟩
  · obtain ⟨e, z, ne, nf, d⟩ := I1.pin p hp
    exact ⟨(hs.2 p.1 ne).trans e, z, ne, nf, d⟩
  · refine (I1.hok b ob e).stay (fun c w' hc q => (hs.2 c fun z => ?_).trans q) (fun _ q => q) fun _ _ q => q
    rcases hc with w1 | w1
    · rw [← w1, z, I1.free] at e; cases e
    · rw [z, I1.free] at w1; cases w1
end
/-! ### code that may raise, at known values of the names -/
structure PE1 (X : Cx) (pins : List (Addr × Obj)) (σ : St) (e : Expr) (t : TE) : Prop where
  run : ∀ (s : Shared) (H : Hp) (Q : VK), Inv X pins σ H s → t σ H Q → wpAny (model X.prog X.w) X.A (eval e X.env) (EP X pins σ Q) X.xe s
structure PA1 (X : Cx) (pins : List (Addr × Obj)) (σ : St) (es : List Expr) (t : TA) : Prop where
  run : ∀ (pos : Pos) (s : Shared) (H : Hp) (Q : List V → Hp → Prop), Inv X pins σ H s → t σ H Q → wpAny (model X.prog X.w) X.A (spliced (backTo pos (starEach es X.env))) (AP X pins σ Q) X.xe s
structure PS1 (X : Cx) (pins : List (Addr × Obj)) (σ : St) (st : Stmt) (t : TS) : Prop where
  run : ∀ (s : Shared) (H : Hp) (D : Ends), Inv X pins σ H s → t D σ H → wpAny (model X.prog X.w) X.A (exec st X.env) (SP X pins D) X.xe s
section
variable {X : Cx} {pins : List (Addr × Obj)} {σ : St} {e : Expr} {es : List Expr} {te ta : TE} {t tr : TA} {E : XK} {x m : Str} {p pos apos : Pos} {k : Nat} {f C : Addr} {fd : FuncData} {ps : List Str} {sp : Sp} {o : Expr} {dvs : List V} {ds : List Value}
theorem PE.one (h : PE X e te) : PE1 X pins σ e te := ⟨fun s H Q I q => h pins s σ H Q I q⟩
theorem PA.one (h : PA X es t) : PA1 X pins σ es t := ⟨fun pos s H Q I q => h pos pins s σ H Q I q⟩
theorem a1_cons (ha : PE1 X pins σ e te) (hr : PA1 X pins σ es tr) (h : isSt e = false := by rfl) : PA1 X pins σ (e :: es) (tCons te tr) := by
  refine ⟨fun pos s H Q I q => ?_⟩
  rw [star_cons h]
  show wpAny _ _ (spliced ((false, eval e X.env) :: backTo pos (starEach es X.env))) _ _ s
  refine Calls.spliced_cons (thn (ha.run s H _ I q) fun u s1 ⟨x, H1, I1, r1, q1⟩ => ?_)
  exact thn (hr.run pos s1 H1 _ I1 q1) fun us s2 ⟨xs, H2, I2, r2, q2⟩ => ⟨x :: xs, H2, I2, .cons r1 r2, q2⟩
theorem p1_tup {x1 : Nat} (h : PA1 X pins σ es t) : PE1 X pins σ (.Tuple es x1 pos) (tTup t) := by
  refine ⟨fun s H Q I hq => ?_⟩
  refine wpAny_Tuple_spliced (thn (h.run pos s H _ I hq) fun us s1 ⟨xs, H1, I1, r, z, q⟩ => ⟨by rw [← r.length]; exact z, ?_⟩)
  have hf : H1 s1.heap.objs.size = none := I1.hok.fresh (Nat.le_refl _)
  refine ⟨.ref s1.heap.objs.size, upd H1 s1.heap.objs.size (.tup xs), I1.laid (t' := s1.toks) (fun b u e => Heap.get?_push_of_some _ e) (Nat.le_refl _) ?_, rfl, q _ hf⟩
  exact ⟨z, us, r, ⟨_, Heap.get?_push_size _ rfl, rfl, _, rfl⟩⟩
theorem s1_set {i : Nat} {pos' : Pos} (hN : X.N.Nodup) (hi : X.N[i]? = some x) (hx : Loc X.env.scope x) (he : PE1 X pins σ e te) (hs : swapsWith e (some (.Name x pos')) pos.line X.env = pure false := by rfl)
    (hf : X.fn x = true ∨ X.env.scope.names.lookup x = some .local := by first | exact .inl rfl | exact .inr rfl | assumption) : PS1 X pins σ (.Assign [.Name x pos'] e pos) (tAsg te (gName i)) := by
  refine ⟨fun s H D I h => ?_⟩
  refine wpAny_Assign_Name (thn (he.run s H _ I h) fun v s1 ⟨y, H1, I1, r1, q1⟩ => ?_) hs
  exact store_ok I1 hN hi hx r1 (fun s2 I2 => ⟨_, H1, I2, q1⟩) hf
end
/-! ### try: one statement; except C as n: suite -/
abbrev Cx.suite (X : Cx) (ea : Addr) : Cx := { X with A := X.A.mark (some (.ref ea)), calm := false, xe := fun _ _ => False }
section
variable {X : Cx} {pins : List (Addr × Obj)} {σ : St} {H : Hp} {s : Shared} {ea : Addr}
theorem Inv.suite (I : Inv X pins σ H s) (ea : Addr) : Inv (X.suite ea) pins σ H s :=
  ⟨⟨I.ok.mod, I.ok.kind, I.ok.glob, I.ok.blt, I.ok.above, I.ok.inj, I.ok.has, I.ok.cab, (fun z => Bool.noConfusion z), I.ok.frames, I.ok.stk, I.ok.exf, I.ok.bs, I.ok.bsz, I.ok.noex, I.ok.exfs, I.ok.funs, I.ok.frf⟩, I.os, I.bare, I.base, I.loc, I.cell, I.free, I.freeC, I.pin, I.hok, I.len⟩
theorem Inv.unsuite (hok : X.Ok) (I : Inv (X.suite ea) pins σ H s) : Inv X pins σ H s :=
  ⟨hok, I.os, I.bare, I.base, I.loc, I.cell, I.free, I.freeC, I.pin, I.hok, I.len⟩
/-- behind the suite the name is gone -/
def endsN (D : Ends) (i : Nat) : Ends := { nx := fun σ H => D.nx (σ.set i none) H, rt := D.rt, bk := fun σ H => D.bk (σ.set i none) H, ct := fun σ H => D.ct (σ.set i none) H }
/-- what becomes of an exception within a try -/
abbrev tryXe (X : Cx) (pins : List (Addr × Obj)) (D : Ends) (hs : List ExceptHandler) : Value → Shared → Prop := fun e s₁ =>
  wpAny (model X.prog X.w) X.A (noteFrame e X.env) (fun _ s₂ => wpAny (model X.prog X.w) X.A (setFlight e none) (fun _ s₃ => wpAny (model X.prog X.w) X.A (handleBy e X.env hs) (SP X pins D) X.xe s₃) X.xe s₂) X.xe s₁
variable {st b₀ : Stmt} {suite : List Stmt} {c n : Str} {np hpos pos : Pos} {C : Addr} {i : Nat} {tb : XK → TS} {ts : TS} {ok : Value → Prop}
end
end L2

set_option Elab.async false
set_option linter.all false
set_option maxRecDepth 100000
set_option maxHeartbeats 4000000
namespace L2
open PySem PySem.W PySem.Builtin PySem.Builtin.ObjectAttr PySem.Builtin.Getset_descriptor PySem.Spec PyProof.Rows
/-! ### isinstance of an exception -/
structure ExcCls (K : PySem.W.Frag) (D : Addr) : Prop where
  cd : (clsIn K D).isSome = true
  ga : findIn K (.ref D) "__getattribute__" = some (some (.builtin "BaseException.__getattribute__"))
  no : findIn K (.ref D) "__getattr__" = some none
  cl : findIn K (.ref D) "__class__" = some (some (.builtin "object.__class__"))
  gt : specialIn K (.builtin "object.__class__") "__get__" = some (some (.builtin "getset_descriptor.__get__"))
  tk : takesIn K (.builtin "object.__class__") = some true
  be : mroIn K D (.type "BaseException") = some true
  ob : mroIn K D (.type "object") = some true
section
variable {prog : Program} {w : World} {A : Around} {E : Value → Shared → Prop} {s : Shared} {K : PySem.W.Frag} {x D : Addr}
end
end L2

set_option Elab.async false
set_option linter.all false
set_option maxRecDepth 100000
set_option maxHeartbeats 4000000
namespace L2
open PySem PySem.Spec PyProof.Rows
section
variable {X : Cx}
end
/-! ### defs that are called within an except suite -/
section
variable {P : Program} {w : World} {K : PySem.W.Frag} {mg : Str → Option Value} {base : Heap}
end
section
variable {X : Cx} {k : Nat} {f : Addr} {fd : FuncData} {ps : List Str} {sp : Sp} {x : Str} {p pos : Pos} {e : Expr} {es : List Expr} {t : TA}
end
end L2

set_option Elab.async false
set_option linter.all false
set_option maxRecDepth 100000
set_option maxHeartbeats 4000000
namespace L2
open PySem PySem.Spec PyProof.Rows
/-! ### reversed(range(n)) -/
section
variable {prog : Program} {w : World} {A : Around} {E : Value → Shared → Prop} {s : Shared} {r : Addr} {n : Int} {t u v : Tok}
end
section
variable {X : Cx} {tg : Expr}
end
end L2

set_option Elab.async false
set_option linter.all false
set_option maxRecDepth 100000
set_option maxHeartbeats 4000000
namespace L2
open PySem PySem.Spec PyProof.Rows
section
variable {X : Cx} {o i : Expr} {to ti : TE} {pos tpos : Pos}
/-! ### del xs[i] -/
/-! ### == of two lists that are not of one length -/
def rLen : R2 := fun x y H Q => ∃ (a c : Addr) (xs ys : List V), x = .ref a ∧ y = .ref c ∧ H a = some (.lst xs) ∧ H c = some (.lst ys) ∧ xs.length ≠ ys.length ∧ Q (.bl false) H
theorem op_eqLen (hu : X.A.units < cLine) : OpR X (compareOp .Eq) rLen := by
  intro pins s σ H x y v u Q I rx ry h
  obtain ⟨a, c, xs, ys, rfl, rfl, ha, hc, hn, q⟩ := h
  cases rx
  cases ry
  obtain ⟨its, r, pl, _⟩ := I.list (SqL.of ha)
  obtain ⟨its2, r2, pl2, _⟩ := I.list (SqL.of hc)
  have e1 := r.length
  have e2 := r2.length
  exact PySem.SeqAt.eq_list_lengthsAt pl.isList pl2.isList (by simp only [List.size_toArray, bne_iff_ne]; omega) hu ⟨.bl false, H, I, rfl, q⟩
end
end L2

set_option Elab.async false
set_option linter.all false
set_option maxRecDepth 100000
set_option maxHeartbeats 4000000
namespace L2
open PySem PySem.Spec PyProof.Rows
section
variable {X : Cx} {pins : List (Addr × Obj)} {σ : St} {e : Expr} {te : TE} {pos p : Pos} {C : Addr} {x : Str}
/-! ### an instance of a class without an __init__ of its own -/
end
theorem passF {P : Program} {w : World} {X : Cx} : Passes (CXe P w) X (fun _ _ _ => False) := fun pins σ H1 s1 e s' I q => by
  obtain ⟨_, _, _, _, _, q⟩ := q
  exact q.elim
theorem same_after {H H1 : Hp} {x dx : Addr} {o1 o2 : HO} (hx : H x = none) (hd : H dx = none) (s : Same (upd (upd H dx (.own x)) x o1) H1) : Same H (upd H1 x o2) := fun b u q => by
  rw [upd_ne (ne_of_none q hx)]
  exact s _ _ (same_make0 hx hd b u q)
/-- a class as its makers have it -/
structure Ctor (P : Program) (w : World) (K : PySem.W.Frag) (mg : Str → Option Value) (base : Heap) (CX : CXT) (k : Nat) (x : Str) (C i : Addr) (fd : FuncData) (ps : List Str) (ds : List Value) (sp : Sp) : Prop where
  mkr : Mk K C i
  ok : FnOk P w K mg base CX k i fd ps sp
  mg : mg x = some (.ref C)
  bd : Binds K fd ps ds
section
variable {X : Cx} {CX : CXT} {k : Nat} {C i f : Addr} {fd : FuncData} {ps ks : List Str} {sp : Sp} {E : XK} {x m : Str} {p pos apos : Pos} {e : Expr} {es : List Expr} {t tk : TA} {ds : List Value} {dvs : List V} {kws : List Keyword}
  {g : List Value → List Value → List Value} {gV : List V → List V → List V}
theorem cMk (c : Ctor X.prog X.w X.K X.mg X.base CX k x C i fd ps ds sp) (hd : Vals dvs ds) (hp : Passes CX X E) (hr : Room (k + 1) X.A) (ha : PA X (e :: es) t) (hg : Gl X x := by rfl) (hdb : (x == ("__debug__" : Str)) = false := by decide)
    (h1 : isSt e = false := by rfl) (h2 : es.any isSt = false := by rfl) : PE X (.Call (.Name x p) (e :: es) [] pos) (tMake C sp dvs E t) := pe_make c.mkr c.ok hr hg c.mg c.bd hd hp ha hdb (star_cons h1) (star_any h2)
/-! ### C(e, .., k = v, ..) -/
/-! ### C.m(e, ..), C a class, m a def of it -/
structure ClsFn (K : PySem.W.Frag) (C : Addr) (m : Str) (f : Addr) : Prop where
  ga : PySem.W.specialIn K (.ref C) "__getattribute__" = some (some (.builtin "type.__getattribute__"))
  rd : PySem.W.readsIn K C (.type "type") = true
  fc : PySem.W.findCls K (.ref C) (.type "type") m = some (.val (.ref f))
  kp : PySem.W.keepIn K (.ref f) = true
theorem pe_cm {pl : Sem Bool} (B : ClsFn X.K C m f) (hm : X.mg x = some (.ref C)) (F : FnOk X.prog X.w X.K X.mg X.base CX k f fd ps sp) (hr : Room k X.A) (hb : Binds X.K fd ps []) (hx : Passes CX X E) (ha : PA X (e :: es) t) (hg : Gl X x := by rfl)
    (hdb : (x == ("__debug__" : Str)) = false := by decide) (h1 : isSt e = false := by rfl) (h2 : es.any isSt = false := by rfl)
    (ht : eval (.Call (.Attribute (.Name x p) m apos) (e :: es) [] pos) X.env = (do
      let ov ← eval (.Name x p) X.env
      standAt apos.atName
      let (f, first) ← holding [ov] (getMethod ov m pl)
      callWith pos f first (backTo pos (starEach (e :: es) X.env)) (backToKw pos (keywordEach [] X.env))) := by rfl) :
    PE X (.Call (.Attribute (.Name x p) m apos) (e :: es) [] pos) (tCall sp [] E t) := by
  refine ⟨?_⟩
  intro pins s σ H Q I h
  refine PySem.W.methodCall_KW (pl := pl) (ld_glob I hg hm ?_ hdb) ht
  refine PySem.W.method_cls I.kIn B.ga (PySem.W.cls_value I.kIn B.rd B.fc rfl ?_)
  have It := I.tok (s.toks + 1)
  refine PySem.W.callWith_K (first := []) (h₀ := X.base) I.ok.mod.kin B.kp (thn (ha pos pins _ σ H _ It h) fun us s2 ⟨vs, H2, I2, r, q2⟩ => ⟨I2.kIn, ?_⟩) (star_cons h1) (star_any h2)
  exact run_fn F hr hb .nil hx I2 r q2
end
theorem FunD.okE {P : Program} {w : World} {K : PySem.W.Frag} {mg : Str → Option Value} {base : Heap} {x qual : Str} {st : Stmt} {f : Addr} {fd : FuncData} {items : List Value} {N ps : List Str} {k : Nat} {sp : Sp} (F : FunD K x qual st f fd items) (S : FnScope N ps (defScope st)) (len : ∀ vs H Q E, sp vs H Q E → vs.length = ps.length)
    (hbody : ∀ (cdv : Value) (A : Around) (outer : List Env) (s : Shared) (H : Hp) (vs : List V) (Q : VK) (E : XK), Room k (A.deeper (envOfC qual (defScope st) s.heap.objs.size f cdv)) → sp vs H Q E →
      ∃ t, PSs (cxOf (CXe P w) P w K mg base N qual (defScope st) f cdv A outer s H E) (defBody st) t ∧ t { nx := fun _ H' => Q .non H', rt := Q } (start N vs) H) : FnOk P w K mg base (CXe P w) (k + 1) f fd ps sp := by
  obtain ⟨oc, od, T, kV, doc, pm, an, cdv, ct, osl, o, n, rfl, lk, hcd, _, _⟩ := F.ex
  exact fn_of lk hcd S len fun A outer s H vs Q E hr hsp => hbody cdv A outer s H vs Q E hr hsp
end L2

set_option Elab.async false
set_option linter.all false
set_option maxRecDepth 100000
set_option maxHeartbeats 4000000
namespace L2
open PySem PySem.Spec PyProof.Rows
/-- a statement that is never reached -/
theorem ps_dead {X : Cx} {st : Stmt} : PS X st (fun _ _ _ => False) := ⟨fun _ _ _ _ _ _ h => h.elim⟩
/-! ### a set of texts -/
def SetT (P : Program) (w : World) (a : Addr) (S : Str → Bool) (n : Nat) (h : Heap) : Prop := h.SetOf (strKind P w) a S n
abbrev setO (P : Program) (w : World) (a : Addr) (S : Str → Bool) (n : Nat) : HO := .ext (SetT P w a S n)
theorem setO_ok {P : Program} {w : World} {H : Hp} {h : Heap} {a : Addr} {S : Str → Bool} {n : Nat} (e : h.SetOf (strKind P w) a S n) : ObjOk P w H h a (setO P w a S n) :=
  ⟨e, let ⟨o, _, _, _, h1, _⟩ := e; ⟨o, h1⟩, fun g1 g2 q k => let ⟨o, es, ep, t, h1, c⟩ := q; ⟨o, es, ep, t, k o h1, c⟩⟩
section
variable {X : Cx}
theorem call_set0 : CallR X (.type "set") (fun xs H Q => xs = [] ∧ ∀ p, H p = none → Q (.ref p) (upd H p (setO X.prog X.w p (fun _ => false) 0))) := by
  intro pins s σ H xs us Q I r h
  obtain ⟨rfl, q⟩ := h
  cases r
  refine call_set_0 fun led => ?_
  have hf : H s.heap.objs.size = none := I.hok.fresh (Nat.le_refl _)
  refine ⟨.ref s.heap.objs.size, _, I.laid (t' := s.toks) (fun b u e => Heap.get?_push_of_some _ e) (Nat.le_refl _) (setO_ok ?_), rfl, q _ hf⟩
  exact (setObjOf_fresh led).setOf (Heap.get?_push_size _ rfl) (by decide)
theorem op_in_setT : OpR X (compareOp .In) (fun x y H Q => ∃ (a : Addr) (S : Str → Bool) (n : Nat) (z : Str), x = .str z ∧ y = .ref a ∧ H a = some (setO X.prog X.w a S n) ∧ Q (.bl (S z)) H) := by
  intro pins s σ H x y v u Q I rx ry h
  obtain ⟨a, S, n, z, rfl, rfl, e, q⟩ := h
  obtain ⟨t, rfl⟩ := rx
  cases ry
  have hS : s.heap.SetOf (strKind X.prog X.w) a S n := (I.hok a _ e).1
  exact wpAny_inSet_of (strKind_is X.prog X.w z t) rfl hS ⟨.bl (S z), H, I.tok _, rfl, q⟩
def tSAdd (P : Program) (w : World) (to te : TE) : TE := fun σ H Q => to σ H fun x H1 => ∃ (a : Addr) (S : Str → Bool) (n : Nat), x = .ref a ∧ H1 a = some (setO P w a S n) ∧ te σ H1 fun y H2 => ∃ (S : Str → Bool) (n : Nat) (z : Str), y = .str z ∧ H2 a = some (setO P w a S n) ∧ n + 1 < scanBound ∧
  Q .non (upd H2 a (setO P w a (fun k => S k || decide (k = z)) (if S z then n else n + 1)))
theorem pe_sadd {o e : Expr} {apos cpos : Pos} {to te : TE} (ho : PE X o to) (he : PE X e te) (m : M1 X o "add" apos e cpos) : PE X (.Call (.Attribute o "add" apos) [e] [] cpos) (tSAdd X.prog X.w to te) := by
  refine ⟨?_⟩
  intro pins s σ H Q I h
  refine wpAny_Call_method m.base m.few m.line PySem.F.plainAttrs_set PySem.F.slot_set_add PySem.F.type_set_add (thn (ho pins s σ H _ I h) fun u s1 ⟨x, H1, I1, rx, a, S, n, ex, d, q1⟩ => ?_)
  subst ex
  obtain rfl : u = Value.ref a := rx
  have hS : s1.heap.SetOf (strKind X.prog X.w) a S n := (I1.hok a _ d).1
  refine ⟨hS.typeIs, hS.noDict, ?_⟩
  rw [m.trees]
  refine Calls.callWith_builtin rfl (Calls.evalArgs_plain (Calls.spliced_cons (thn (he pins s1 σ H1 _ I1 q1) fun iv s2 ⟨y, H2, I2, ry, S2, n2, z, ey, e2, hn, q2⟩ => Calls.spliced_nil ?_)))
  subst ey
  obtain ⟨t, rfl⟩ := ry
  have hS2 : s2.heap.SetOf (strKind X.prog X.w) a S2 n2 := (I2.hok a _ e2).1
  refine call_set_add (strKind_is X.prog X.w z t) rfl hS2 hn fun h' hs hS3 => ⟨.non, _, ?_, rfl, q2⟩
  refine I2.write (x := a) (e := a) (by rw [e2]; exact True.intro) (.inl rfl) (fun b q hb z => (hs.2 b hb).trans z) (let ⟨o, _, _, _, h1, _⟩ := hS3; ⟨o, h1⟩) (setO_ok hS3)
/-! ### o.m() of an instance of one of several classes -/
def tMethP (Cs : Addr → Prop) (m : Str) (sp : Sp) (E : XK) (ta : TE) : TE := fun σ H Q => ta σ H fun x H1 => ∃ a C dx fs, x = .ref a ∧ Cs C ∧ H1 a = some (.ins C dx fs) ∧ fs.lookup m = none ∧ sp [x] H1 Q E
theorem pe_methP {CX : CXT} {k : Nat} {f : Addr} {fd : FuncData} {ps : List Str} {sp : Sp} {E : XK} {m : Str} {pos apos : Pos} {o : Expr} {ta : TE} {Cs : Addr → Prop} {pl : Sem Bool} (he : PE X o ta) (hC : ∀ C, Cs C → Cls X.K C ∧ Meth X.K C m f) (F : FnOk X.prog X.w X.K X.mg X.base CX k f fd ps sp) (hr : Room k X.A) (hb : Binds X.K fd ps []) (hx : Passes CX X E)
    (ht : eval (.Call (.Attribute o m apos) [] [] pos) X.env = (do
      let ov ← eval o X.env
      standAt apos.atName
      let (f, first) ← holding [ov] (getMethod ov m pl)
      callWith pos f first (backTo pos (starEach [] X.env)) (backToKw pos (keywordEach [] X.env))) := by rfl) :
    PE X (.Call (.Attribute o m apos) [] [] pos) (tMethP Cs m sp E ta) := by
  refine ⟨?_⟩
  intro pins s σ H Q I h
  refine PySem.W.methodCall_KW (pl := pl) (thn (he pins s σ H _ I h) fun u s1 ⟨x, H1, I1, rx, a, C, dx, fs, ex, hc, ea, l, q⟩ => ?_) ht
  subst ex
  obtain rfl : u = Value.ref a := rx
  obtain ⟨c, hm⟩ := hC C hc
  refine getmeth_ok I1 ea c hm l ?_
  exact PySem.W.callWith_K0 (first := [.ref a]) I1.kIn hm.kp (run_fn (us := [.ref a]) (vs := [.ref a]) F hr hb .nil hx I1 (.cons rfl .nil) q)
/-! ### D[e], D a written dict of the text with texts as keys -/
structure KTab (w : World) (K : PySem.W.Frag) (a : Addr) (f : Str → Option V) : Prop where
  obj : ∃ es n, K.lookup a = some ⟨.type "dict", none, .dict es n, #[]⟩ ∧ PySem.W.KeysLit w.params es.toList
  vals : ∀ x v, f x = some v → ∃ u, PySem.W.nsIn K a x = some (some u) ∧ RelV v u
theorem pe_kget {e : Expr} {d : Str} {p pos : Pos} {a : Addr} {f : Str → Option V} {te : TE} (T : KTab X.w X.K a f) (hm : X.mg d = some (.ref a)) (he : PE X e te) (hg : Gl X d := by rfl) (hs : NoSl e := by first | exact fun _ _ => rfl | decide | rfl) (hdb : (d == ("__debug__" : Str)) = false := by decide) :
    PE X (.Subscript (.Name d p) e pos) (fun σ H Q => te σ H fun y H1 => ∃ x v, y = .str x ∧ f x = some v ∧ Q v H1) := by
  refine ⟨?_⟩
  intro pins s σ H Q I h
  obtain ⟨es, n, hl, hk⟩ := T.obj
  refine subD_of PySem.F.slot_dict_getitem.lookup hs (ld_glob I hg hm (thn (he pins s σ H _ I h) fun iv s2 ⟨y, H2, I2, ry, x, v, ey, ef, q2⟩ => ?_) hdb)
  subst ey
  obtain ⟨t, rfl⟩ := ry
  obtain ⟨u, eu, ru⟩ := T.vals x v ef
  have hmap := PySem.W.mapOf_K (prog := X.prog) (w := X.w) I2.kIn hl hk
  exact ⟨hmap.typeIs, wpAny_getItem_of (strKind_is X.prog X.w x t) hmap (PySem.W.find_K hl eu) ⟨v, H2, I2.tok _, ru, q2⟩⟩
end
end L2

set_option Elab.async false
set_option linter.all false
set_option maxRecDepth 100000
set_option maxHeartbeats 4000000
namespace L2
open PySem PySem.Spec PyProof.Rows
section
variable {X : Cx} {pins : List (Addr × Obj)} {σ : St} {H : Hp} {s : Shared} {sc : Scope} {fr Nc : List Str} {fp : List Addr} {C : Addr}
/-- the block at its entry: the list at D, the frame at C, both new -/
theorem comp_startO {caps : List (Option Nat)} {h' : Heap} {D : Addr} {m : Str → Option Value} {t' : Nat} {o0 : HO} (I : Inv X pins σ H s) (B : BlockOk X.env sc fr) (hf : ∀ b ∈ fp, FpOk X pins H b) (ho : ∀ b ∈ fp, ∃ o, s.heap.get? b = some o)
    (hC : s.heap.objs.size ≤ C) (hD : s.heap.objs.size ≤ D) (hDC : D ≠ C) (keep : ∀ b o, s.heap.get? b = some o → h'.get? b = some o) (new : ObjOk X.prog X.w (upd H D o0) h' D o0) (hn : h'.Ns C m)
    (hcap : capChk X.N Nc caps X.env sc fr = true) (hlen : caps.length = Nc.length) :
    Inv (compCx X pins sc fr Nc fp s H C) [] (capS caps σ) (upd H D o0) { s with heap := h', toks := t' } := by
  have hk : X.env.scope.kind = .function := I.ok.kind
  have fresh : ∀ a, s.heap.objs.size ≤ a → H a = none := fun a ha => I.hok.fresh ha
  refine ⟨comp_ok I B hf ho hC, rfl, I.bare, Un.laid keep hD (fresh D hD), ⟨m, hn, fun i x v e1 e2 e3 => ?_⟩, fun x c h => ?_, ?_, fun x c h => ?_, fun p hp => ?_, ?_, ?_⟩
  · -- a captured name
    have e2' : (caps[i]?).map (fun o => match o with | none => none | some j => (σ[j]?).join) = some (some v) := by
      have : (capS caps σ)[i]? = some (some v) := e2
      unfold capS at this
      rw [List.getElem?_map] at this
      exact this
    cases hc : caps[i]? with
    | none => rw [hc] at e2'; cases e2'
    | some o =>
      rw [hc] at e2'
      cases o with
      | none => simp at e2'
      | some j =>
        have e4 : (σ[j]?).join = some v := by simpa using e2'
        have e5 : σ[j]? = some (some v) := by
          cases q : σ[j]? with
          | none => rw [q] at e4; cases e4
          | some w' => rw [q] at e4; simp at e4; rw [e4]
        have e6 : (Nc.zip caps)[i]? = some (x, some j) := by
          rw [List.getElem?_zip_eq_some]
          exact ⟨e1, hc⟩
        have e7 := List.all_eq_true.mp hcap _ (List.mem_of_getElem? e6)
        simp only [Bool.and_eq_true, beq_iff_eq, List.contains_iff_mem] at e7
        obtain ⟨⟨⟨a1, a2⟩, a3⟩, a4⟩ := e7
        obtain ⟨m0, hn0, hl0⟩ := I.loc
        obtain ⟨u, r, l⟩ := hl0 j x v a1 e5 (.inr (.inl a2))
        refine ⟨u, r, .inr ⟨.inl (relabel_free hk a3 a2), _, clB_in a4, ?_⟩⟩
        rcases l with ⟨z, _⟩ | ⟨_, c, ec, hcell⟩
        · rw [a2] at z; cases z
        · have : (X.env.cells.lookup x).getD 0 = c := by rw [ec]; rfl
          rw [this]
          exact hcell.keeps keep
  · obtain ⟨v, hv⟩ := I.cell x c (B.sub h)
    exact ⟨v, hv.keeps keep⟩
  · show upd H D o0 C = none
    rw [upd_ne (Ne.symm hDC)]; exact fresh C hC
  · obtain ⟨v, hv⟩ := I.cell x c (B.sub h)
    have : c ≠ D := fun z => by have := hv.lt; rw [z] at this; exact absurd (Nat.lt_of_lt_of_le this hD) (Nat.lt_irrefl _)
    rw [upd_ne this]; exact I.freeC x c (B.sub h)
  · have hp' : p ∈ X.pn ++ pins := by simpa using hp
    obtain ⟨e, n, ne, nf, d⟩ := I.pin p hp'
    have hlt := I.pin_lt hp'
    refine ⟨keep _ _ e, ?_, ?_, fun z => ?_, d⟩
    · rw [upd_ne (fun z => by rw [z] at hlt; exact absurd (Nat.lt_of_lt_of_le hlt hD) (Nat.lt_irrefl _))]; exact n
    · intro z
      have z' : p.1 = C := z
      rw [z'] at hlt; exact absurd (Nat.lt_of_lt_of_le hlt hC) (Nat.lt_irrefl _)
    · rcases List.mem_cons.mp (I.stkSub p.1 z) with q | q
      · exact ne q
      · exact nf q
  · exact I.hok.laid keep hD new
  · show (capS caps σ).length = Nc.length
    unfold capS
    rw [List.length_map, hlen]
end
section
variable {prog : Program} {w : World} {A : Around} {R : Result → Shared → Prop} {s : Shared}
theorem compLoop_anyD {kx vx target iter : Expr} {ifs : List Expr} {scope : Scope} {pos : Pos} {it : Value} {D : Addr} {env : Env} (I : Nat → Shared → Prop)
    (turn : ∀ n s, I n s → wpAny (model prog w) A (pyNext it) (fun r s₁ => match r with
      | none => R (.ok .next) s₁
      | some v => wpAny (model prog w) A (letOwnedTupleGo target it v) (fun _ s₀ => wpAny (model prog w) A (assign target env v) (fun _ s₂ =>
          wpAny (model prog w) A (forIn ifs true fun c r => if r = true then do let ok ← isTrue c env (eval c env); pure (ForInStep.yield ok) else pure (ForInStep.yield r)) (fun ok s₃ =>
            if ok = true then wpAny (model prog w) A (eval kx env) (fun kv s₄ => wpAny (model prog w) A (eval vx env) (fun vv s₅ =>
              wpAny (model prog w) A (dictSet D kv vv) (fun _ s₆ => ∃ m, m < n ∧ I m s₆) (fun _ _ => False) s₅) (fun _ _ => False) s₄) (fun _ _ => False) s₃
            else ∃ m, m < n ∧ I m s₃) (fun _ _ => False) s₂) (fun _ _ => False) s₀) (fun _ _ => False) s₁) (fun _ _ => False) s)
    (n : Nat) (h : I n s) :
    codeAny (model prog w) A (.compLoop (.DictComp kx vx [⟨target, iter, ifs, 0⟩] scope pos) 0 it (.ref D) env) R s := by
  refine codeAny_loop rfl I (fun n s hI => ?_) n h
  show wpAny _ A ((compTurn (.DictComp kx vx [⟨target, iter, ifs, 0⟩] scope pos) 0 it (.ref D) env).onRaise (fun x => do noteFrame x env; theTreesLotGoes x)) _ _ s
  refine wpAny_noted ?_
  rw [compTurn_dict]
  refine wpAny_bind (wpAny_standAt (wpAny_bind (wpAny_mono (turn n s hI) (fun r s₁ h₁ => ?_) fun _ _ z => z.elim)))
  cases r with
  | none => exact wpAny_pure h₁
  | some v =>
    refine wpAny_bind (wpAny_mono h₁ (fun _ s₀ h₀ => ?_) fun _ _ z => z.elim)
    refine wpAny_bind (wpAny_mono h₀ (fun _ s₂ h₂ => wpAny_bind (wpAny_mono h₂ (fun ok s₃ h₃ => ?_) fun _ _ z => z.elim)) fun _ _ z => z.elim)
    cases ok with
    | false => exact wpAny_pure ⟨rfl, h₃⟩
    | true =>
      exact wpAny_bind (wpAny_bind (wpAny_mono h₃ (fun kv s₄ h₄ => wpAny_bind (wpAny_holding (wpAny_mono h₄ (fun vv s₅ h₅ => wpAny_bind (wpAny_standAt (wpAny_holding (wpAny_mono h₅ (fun _ s₆ h₆ => wpAny_pure ⟨rfl, h₆⟩) fun _ _ z => z.elim)))) fun _ _ z => z.elim))) fun _ _ z => z.elim))
end
/-- what is asked of a block that makes the dict at D -/
def DCr (J : It) (caps : List (Option Nat)) (g : TG) (tt : TT) (tk tv : TE) (σ : St) (H1 : Hp) (Q : VK) (D : Addr) : Prop :=
  ∃ W : Nat → Nat → List (Key × V) → Hp → Prop, (∃ m, W 0 m [] (upd H1 D (.dK []))) ∧ ∀ i m ys H, W i m ys H →
    (J.stop i H ∧ Q (.ref D) H) ∨
    (J.go i H ∧ ∀ x H', J.yld i H x H' → g x (capS caps σ) H' fun σ2 H2 => tt σ2 H2 fun ok H3 =>
      (ok = true → tk σ2 H3 fun y H4 => tv σ2 H4 fun v H5 => ∃ k, y = kV k ∧ H5 D = some (.dK ys) ∧ ys.length < sizeLine ∧ ∃ m', m' < m ∧ W (i + 1) m' (putK ys k v) (upd H5 D (.dK (putK ys k v)))) ∧
      (ok = false → ∃ m', m' < m ∧ W (i + 1) m' ys H3))
def tDC (wi : TI) (caps : List (Option Nat)) (g : TG) (tt : TT) (tk tv : TE) : TE := fun σ H Q => wi σ H fun J H1 => ∀ D, H1 D = none → DCr J caps g tt tk tv σ H1 Q D
section
variable {X : Cx} {pins : List (Addr × Obj)} {σ : St} {s : Shared} {sc : Scope} {fr Nc : List Str} {caps : List (Option Nat)} {kx vx tg iter : Expr} {ifs : List Expr} {g : TG} {tt : TT} {tk tv : TE} {ow : List Nat} {pos pos2 : Pos} {E : Value → Shared → Prop}
theorem sysLt {H : Hp} (I : Inv X pins σ H s) : sysModules < s.heap.objs.size := I.big
theorem comp_runD {H2 : Hp} {it : Addr} {fp : List Addr} {tn : Nat → Heap → Prop} {J : It} {Q : VK} {RR : Value → Addr → Result → Shared → Prop}
    (hc : X.calm = true) (B : BlockOk X.env sc fr) (go : GOwn g ow) (how : (ow.all fun i => caps[i]? == some none) = true) (hcap : capChk X.N Nc caps X.env sc fr = true) (hlen : caps.length = Nc.length)
    (hb : ∀ (pins : List (Addr × Obj)) (fp : List Addr) (s : Shared) (H : Hp) (C : Addr), PG (compCx X pins sc fr Nc fp s H C) tg g ∧ PIf (compCx X pins sc fr Nc fp s H C) ifs tt ∧ PE (compCx X pins sc fr Nc fp s H C) kx tk ∧ PE (compCx X pins sc fr Nc fp s H C) vx tv)
    (I2 : Inv X pins σ H2 s) (T : Turn X.prog X.w X.K tg J fp it tn) (st2 : tn 0 s.heap) (f2 : ∀ b ∈ fp, FpOk X pins H2 b) (h : ∀ D, H2 D = none → DCr J caps g tt tk tv σ H2 Q D)
    (fin : ∀ (D C : Addr) (σ' : St) (H' : Hp) (s' : Shared), Inv (compCx X pins sc fr Nc fp s H2 C) [] σ' H' s' → Q (.ref D) H' → RR (.ref D) C (.ok .next) s') :
    wpAny (model X.prog X.w) X.A newDict (fun acc s₃ => wpAny (model X.prog X.w) X.A (newFunctionEnv sc X.env.globals (clB X.env fr) [] X.env.qual none .none (some X.env)) (fun cenv s₄ =>
      codeAny (model X.prog X.w) X.A (.compStart (.DictComp kx vx [⟨tg, iter, ifs, 0⟩] sc pos) 0 (.ref it) acc { cenv with scope := relabel sc X.env }) (RR acc cenv.locals) s₄) E s₃) E s := by
  have hcell : ∀ y ∈ sc.names, y.2 ≠ .cell := fun y hy => by
    have h3 := List.all_eq_true.mp B.names _ hy
    simp only [Bool.and_eq_true, bne_iff_ne, ne_eq] at h3
    exact h3.1.1
  refine wpAny_newObj_type (wpAny_newFunctionEnv hcell (by intro y hy; simp at hy) (fun h₁ hns₁ hsb₁ => ?_) B.kind)
  dsimp only at hns₁ hsb₁ ⊢
  have hnew : (s.heap.push { cls := .type "dict", dict := none, data := .dict #[] }).DictOf (mixKind X.prog X.w) s.heap.objs.size [] := Heap.DictOf.new s.heap
  generalize hH2 : s.heap.push { cls := .type "dict", dict := none, data := .dict #[] } = H3 at hns₁ hsb₁ hnew ⊢
  have hCs : H3.objs.size = s.heap.objs.size + 1 := by rw [← hH2, Heap.size_push]
  have hDC : s.heap.objs.size ≠ H3.objs.size := by rw [hCs]; exact Nat.ne_of_lt (Nat.lt_succ_self _)
  have hC : s.heap.objs.size ≤ H3.objs.size := by rw [hCs]; exact Nat.le_succ _
  have old : ∀ b o, s.heap.get? b = some o → h₁.get? b = some o := fun b o e =>
    hsb₁.extBut b o (Nat.ne_of_lt (Nat.lt_of_lt_of_le (Heap.lt_size e) hC)) (Heap.get?_push_of_some _ (hH2 ▸ Heap.get?_push_of_some _ e))
  have hsm : sysModules < s.heap.objs.size := sysLt I2
  have hD : h₁.DictOf (mixKind X.prog X.w) s.heap.objs.size [] := hnew.at fun o e => hsb₁.extBut _ _ hDC (Heap.get?_push_of_some _ e)
  have hDo : ∀ H', ObjOk X.prog X.w H' h₁ s.heap.objs.size (.dK []) := fun _ => ⟨Nat.zero_le _, beq_eq_false_iff_ne.mpr (Ne.symm (Nat.ne_of_lt hsm)), [], .nil, hD⟩
  have ho : ∀ b ∈ fp, ∃ o, s.heap.get? b = some o := fun b hb' => let ⟨o, e, _⟩ := T.obj 0 _ st2 b hb'; ⟨o, e⟩
  have I4 : ∀ t', Inv (compCx X pins sc fr Nc fp s H2 H3.objs.size) [] (capS caps σ) (upd H2 s.heap.objs.size (.dK [])) { s with heap := h₁, toks := t' } := fun t' =>
    comp_startO I2 B f2 ho hC (Nat.le_refl _) hDC old (hDo _) hns₁ hcap hlen
  have ok := (I4 0).ok
  obtain ⟨hbg, hbt, hbk, hbv⟩ := hb pins fp s H2 H3.objs.size
  obtain ⟨W, ⟨m0, w0⟩, turn⟩ := h s.heap.objs.size (I2.hok.fresh (Nat.le_refl _))
  have stat : ∀ {H' : Hp}, (∀ b ∈ fp, H' b = none) → ∀ b ∈ fp, FpOk (compCx X pins sc fr Nc fp s H2 H3.objs.size) [] H' b := fun hn b hb' =>
    ⟨hn b hb', (ok.exf b hb').1, ok.exfs b hb', .inl hb', (ok.exf b hb').2, fun p hp => (f2 b hb').2.2.2.2.2 p (by simpa using hp)⟩
  have hfp0 : ∀ b ∈ fp, upd H2 s.heap.objs.size (.dK []) b = none := fun b hb' => by
    obtain ⟨o, e⟩ := ho b hb'
    rw [upd_ne (Nat.ne_of_lt (Heap.lt_size e))]
    exact (f2 b hb').1
  have loop : ∀ s₃ : Shared, s₃ = { s with heap := h₁, toks := s.toks + ([] : List (Str × Value)).length } →
      codeAny (model X.prog X.w) X.A (.compLoop (.DictComp kx vx [⟨tg, iter, ifs, 0⟩] sc pos) 0 (.ref it) (.ref s.heap.objs.size) (compEnvC sc (clB X.env fr) H3.objs.size X.env)) (RR (.ref s.heap.objs.size) H3.objs.size) s₃ := by
    rintro s₃ rfl
    refine compLoop_anyD (fun n s' => ∃ i σ' H' ys, Inv (compCx X pins sc fr Nc fp s H2 H3.objs.size) [] σ' H' s' ∧ tn i s'.heap ∧ (∀ b ∈ fp, H' b = none) ∧ W i n ys H' ∧
      (∀ (k : Nat) (v : V), (capS caps σ)[k]? = some (some v) → σ'[k]? = some (some v))) ?_ m0
      ⟨0, _, _, [], I4 _, T.keep _ _ _ st2 (fun b _ o e => old b o e), hfp0, w0, fun _ _ e => e⟩
    rintro n s3 ⟨i, σ3, H4, ys, I3, st3, fr3, w3, wk3⟩
    have I3' : Inv (compCx X pins sc fr Nc fp s H2 H3.objs.size) [] (capS caps σ) H4 s3 := I3.weak (by rw [I3.len]; exact (I4 0).len) wk3
    rcases turn i n ys H4 w3 with ⟨stop, qn⟩ | ⟨gg, step⟩
    · refine thn (T.done (compCx X pins sc fr Nc fp s H2 H3.objs.size) rfl rfl rfl hc i [] s3 _ H4 (fun _ _ => False) I3' (stat fr3) st3 stop) fun r s4 ⟨hr, I4'⟩ => ?_
      subst hr
      exact fin _ _ _ _ _ I4' qn
    · refine thn (T.item (compCx X pins sc fr Nc fp s H2 H3.objs.size) rfl rfl rfl hc i [] s3 _ H4 (fun _ _ => False) I3' (stat fr3) st3 gg) fun r s4 ⟨u, hr, h4⟩ => ?_
      subst hr
      refine thn h4 fun _ s5 ⟨x, H5, I5, r5, y5, st5, fr5⟩ => ?_
      have I5' := I5.pinned (stat fr5) (T.obj _ _ st5)
      refine thn (hbg _ s5 _ H5 x u _ I5' r5 (go _ _ _ _ (step x H5 y5))) fun _ s6 ⟨σ6, H6, I6, q6, l6, k6⟩ => ?_
      have wk6 : ∀ (k : Nat) (v : V), (capS caps σ)[k]? = some (some v) → σ6[k]? = some (some v) := fun k v e => by
        rw [k6 k fun hk => ?_]
        · exact e
        · have h1 := List.all_eq_true.mp how k hk
          have h2 : caps[k]? = some none := by simpa using h1
          unfold capS at e
          rw [List.getElem?_map, h2] at e
          cases e
      refine thn (hbt _ s6 σ6 H6 _ I6 q6) fun ok s7 ⟨H7, I7, q7⟩ => ?_
      have again : ∀ {H8 : Hp} {s8 : Shared} {ys' : List (Key × V)}, Inv (compCx X pins sc fr Nc fp s H2 H3.objs.size) ([] ++ pinsAt fp s5.heap) σ6 H8 s8 → (∃ m', m' < n ∧ W (i + 1) m' ys' H8) →
          ∃ m, m < n ∧ ∃ i σ' H' ys, Inv (compCx X pins sc fr Nc fp s H2 H3.objs.size) [] σ' H' s8 ∧ tn i s8.heap ∧ (∀ b ∈ fp, H' b = none) ∧ W i m ys H' ∧ (∀ (k : Nat) (v : V), (capS caps σ)[k]? = some (some v) → σ'[k]? = some (some v)) := fun {H8 s8 ys'} I8 ⟨m', hm, w8⟩ => by
        refine ⟨m', hm, i + 1, σ6, H8, ys', I8.unpinned, T.keep _ _ _ st5 fun b hb' o e => (I8.pin (b, o) (List.mem_append_right _ (List.mem_append_right _ (mem_pinsAt hb' e)))).1, fun b hb' => ?_, w8, wk6⟩
        obtain ⟨o, e, d⟩ := T.obj _ _ st5 b hb'
        exact (I8.pin (b, o) (List.mem_append_right _ (List.mem_append_right _ (mem_pinsAt hb' e)))).2.1
      cases ok with
      | false =>
        rw [if_neg Bool.false_ne_true]
        exact again I7 (q7.2 rfl)
      | true =>
        rw [if_pos rfl]
        refine thn (hbk _ s7 σ6 H7 _ I7 (q7.1 rfl)) fun uk s8 ⟨y, H8, I8, r8, q8⟩ => ?_
        refine thn (hbv _ s8 σ6 H8 _ I8 q8) fun uv s9 ⟨v, H9, I9, r9, k, ey, hD9, hz, q9⟩ => ?_
        subst ey
        obtain ⟨z, hd, vs, rel, dd⟩ := dk_of I9.hok hD9
        have hzs : vs.length ≤ sizeLine := by rw [← rel.length]; exact z
        have hl : (putK ys k v).length ≤ sizeLine := by have := length_putK ys k v; omega
        refine wpAny_dictSet_pairs (hsz := hzs) (kV_is r8) dd fun h' dd' hs => ?_
        have he : ∃ q, h'.get? s.heap.objs.size = some q := let ⟨q, _, _, hq, _⟩ := dd'; ⟨q, hq⟩
        exact again (d_write I9 (by rw [hD9]; exact True.intro) hs he (dk_new hl hd (rel.put k r9) dd')) q9
  exact codeAny_compStart_dict (loop _ rfl) (T.self _ 0 _ _ _ (T.keep _ _ _ st2 (fun b _ o e => old b o e)) (loop _ rfl))
theorem pe_dc {wi : TI} (fr Nc : List Str) (caps : List (Option Nat)) (hc : X.calm = true) (B : BlockOk X.env sc fr) (hi : PI X tg iter wi) (go : GOwn g ow) (how : (ow.all fun i => caps[i]? == some none) = true)
    (hcap : capChk X.N Nc caps X.env sc fr = true) (hlen : caps.length = Nc.length)
    (hb : ∀ (pins : List (Addr × Obj)) (fp : List Addr) (s : Shared) (H : Hp) (C : Addr), PG (compCx X pins sc fr Nc fp s H C) tg g ∧ PIf (compCx X pins sc fr Nc fp s H C) ifs tt ∧ PE (compCx X pins sc fr Nc fp s H C) kx tk ∧ PE (compCx X pins sc fr Nc fp s H C) vx tv)
    (hs : ∀ x, foldedSetIterable iter X.env x = pure x := by intro _; rfl) : PE X (.DictComp kx vx [⟨tg, iter, ifs, 0⟩] sc pos) (tDC wi caps g tt tk tv) := by
  refine ⟨?_⟩
  intro pins s σ H Q I h
  rw [arm_eval_DictComp]
  refine wpAny_comprehension_free (use := none) rfl hs B.clos B.kind B.loc (thn (hi pins s σ H _ I h) fun v s1 h1 => thn h1 fun itv s2 h2 => ?_)
  obtain ⟨it, fp, tn, J, H2, e, I2, T, st2, f2, q⟩ := h2
  subst e
  refine comp_runD (RR := fun acc C => compPost (model X.prog X.w) X.A X.xe none (EP X pins σ Q) acc C) hc B go how hcap hlen hb I2 T st2 f2 q ?_
  intro D C σ' H' s' J' qq
  obtain ⟨m, hn, _⟩ := J'.loc
  exact ⟨m, hn, fun h' hs' => ⟨.ref D, H', comp_gone I2 J' (comp_back I2 f2 J') hs', rfl, qq⟩⟩
end
end L2

set_option Elab.async false
set_option linter.all false
set_option maxRecDepth 100000
set_option maxHeartbeats 4000000
namespace L2
open PySem PySem.Spec PyProof.Rows
/-! ### xs[::-1] -/
/-! ### xs.index(t): tuples of flat items -/
end L2

set_option Elab.async false
set_option linter.all false
set_option maxRecDepth 100000
set_option maxHeartbeats 4000000
namespace L2
open PySem PySem.Spec PyProof.Rows
/-! ### a dict that is only read from now on -/
section
variable {X : Cx} {pins : List (Addr × Obj)} {σ : St} {H : Hp} {s : Shared}
end
/-! ### for k, v in d.items(), d only read -/
section
variable {X : Cx} {elts : List Expr} {x1 : Nat} {tpos : Pos}
end
/-! ### == of tuples of flat items -/
end L2

set_option Elab.async false
set_option linter.all false
set_option maxRecDepth 100000
set_option maxHeartbeats 4000000
namespace L2
open PySem PySem.Spec PyProof.Rows
/-! ### set(xs), xs a list of texts -/
def seen (val : Nat → Str) (T : Str → Bool) : Nat → Nat → Str → Bool
  | _, 0, z => T z
  | i, k + 1, z => seen val (fun y => T y || decide (y = val i)) (i + 1) k z
section
variable {P : Program} {w : World} {A : Around} {R : Result → Shared → Prop} {I : Addr} {fp wr : List Addr} {G : Array GenState → Array GenState → Prop} {n : Nat} {Pr : Nat → Value → Prop} {Sg : Nat → Shared → Prop}
end
end L2

set_option Elab.async false
set_option linter.all false
set_option maxRecDepth 100000
set_option maxHeartbeats 4000000
namespace L2
open PySem PySem.Spec PyProof.Rows
end L2

set_option Elab.async false
set_option linter.all false
set_option maxRecDepth 100000
set_option maxHeartbeats 4000000
namespace L2
open PySem PySem.Spec PyProof.Rows
section
variable {X : Cx}
/-! ### any(xs), a list of bools -/
end
end L2

set_option Elab.async false
set_option linter.all false
set_option maxRecDepth 100000
set_option maxHeartbeats 4000000
namespace L2
open PySem PySem.Spec PyProof.Rows
/-! ### range(n) as a thing, list(range(n)) -/
section
variable {X : Cx}
end
end L2

set_option Elab.async false
set_option linter.all false
set_option maxRecDepth 100000
set_option maxHeartbeats 4000000
namespace L2
open PySem PySem.W PySem.Builtin PySem.Builtin.ObjectAttr PySem.Spec PyProof.Rows
/-! ### an own exception class whose instances an own __init__ makes ready -/
def xmIn (K : PySem.W.Frag) (C : Addr) : Bool :=
  match K.lookup C with
  | some ⟨.type "type", _, .cls cd, sl⟩ =>
    match cd.mro, sl.toList with
    | .ref C' :: bm, [_, _, _, _, some (.builtin n), _] => C' == C && n == "ValueError.__new__" && !cd.hasDel && cd.hasDict && bm.contains (.type "ValueError") && bm.contains (.type "BaseException") && !bm.contains (.type "AttributeError") && !bm.contains (.type "NameError")
    | _, _ => false
  | _ => false
structure XObj (h : Heap) (C : Addr) : Prop where
  ob : ∃ nm q N bs bm sn sub ab col dd k0 k1 k2 k3 k5, h.get? C = some (excClassObj nm q C N bs bm true sn sub ab col dd k0 k1 k2 k3 k5 "ValueError.__new__") ∧ bm.contains (.type "ValueError") = true ∧ bm.contains (.type "BaseException") = true ∧ bm.contains (.type "AttributeError") = false ∧ bm.contains (.type "NameError") = false
theorem xobj_of {K : PySem.W.Frag} {h : Heap} {C : Addr} (X : K.In h) (q : xmIn K C = true) : XObj h C := by
  simp only [xmIn] at q
  split at q
  case h_2 => cases q
  rename_i dd cd sl ho
  obtain ⟨nm, bs, mro, ns, qn, hd, sn, sub, ab, col, del⟩ := cd
  obtain ⟨l⟩ := sl
  dsimp only at q
  split at q
  case h_2 => cases q
  rename_i C' m k0 k1 k2 k3 n k5
  simp only [Bool.and_eq_true, beq_iff_eq, Bool.not_eq_true'] at q
  obtain ⟨⟨⟨⟨⟨⟨⟨rfl, rfl⟩, rfl⟩, rfl⟩, h1⟩, h2⟩, h3⟩, h4⟩ := q
  exact ⟨_, _, _, _, _, _, _, _, _, _, _, _, _, _, _, X _ _ ho, h1, h2, h3, h4⟩
abbrev excNew (C t : Addr) : Obj := { cls := .ref C, data := .fields #[.ref t, .none, .none, .none, .bool false, .none] }
abbrev tupNew (us : List Value) : Obj := { cls := .type "tuple", data := .seq us.toArray }
section
variable {prog : Program} {w : World} {A : Around} {E : Value → Shared → Prop} {s : Shared} {K : PySem.W.Frag} {C f : Addr} {us : List Value}
theorem exc_new {R : Result → Shared → Prop} (m : XObj s.heap C) (hl : us.length ≤ sizeLine)
    (h : R (.ok (.ret (.ref (s.heap.objs.size + 1)))) { s with heap := (s.heap.push (tupNew us)).push (excNew C s.heap.objs.size) }) :
    codeAny (model prog w) A (.call (.builtin "ValueError.__new__") ⟨.ref C :: us, []⟩) R s := by
  obtain ⟨hh, g, d, t, os⟩ := s
  obtain ⟨nm, q, N, bs, bm, sn, sub, ab, col, dd, k0, k1, k2, k3, k5, hC, b1, b2, b3, b4⟩ := m.ob
  have F := PySem.F.excBase_ValueError
  refine codeAny_call_builtin_code (Code.quiet_builtin _ F.toExcCallFacts.quiet) ?_
  have k1' := F.newKind
  have k2' := F.newSplit
  have k3' := F.newRow
  simp only [checkBuiltinCall, k1', k2', k3']
  rw [if_pos (by decide +kernel)]
  refine wpAny_bind (ks_wpAny_isType_cls hC rfl ?_)
  rw [if_neg (by decide)]
  refine wpAny_bind (wpAny_isSubtype_exc hC ?_)
  rw [show (Value.ref C :: bm).contains (.type "ValueError") = true by rw [List.contains_cons, b1, Bool.or_true], if_neg (by decide)]
  refine wpAny_bind (wpAny_staticBase_exc hC (wpAny_bind (wpAny_madeBy_exc hC ?_)))
  dsimp only
  rw [if_neg (by decide +kernel)]
  rw [show Bind.checkArgs "ValueError.__new__" { machinery := Manifest.Machinery.any, full := "ValueError", short := "ValueError", receiver := Manifest.Receiver.cls, params := [{ name := "args", kind := Manifest.ParamKind.varPos, required := false }, { name := "kwargs", kind := Manifest.ParamKind.varKw, required := false }] } { pos := Value.ref C :: us } = pure () from rfl]
  refine wpAny_pure (PyProof.Rows.codeAny_builtin_at F.toExcCallFacts.toExcNewFacts.entry ?_)
  unfold Builtin.«BaseException.__new__»
  refine PyProof.Rows.wpAt_bind (PyProof.Rows.wpAt_owner rfl F.toExcCallFacts.toExcNewFacts.ends (PyProof.Rows.wpAt_of_any ?_))
  rw [F.toExcCallFacts.toExcNewFacts.owner]
  dsimp only
  refine wpAny_bind (ks_wpAny_isType_cls hC rfl ?_)
  rw [if_neg (by decide)]
  refine wpAny_bind (wpAny_isSubtype_exc hC ?_)
  rw [show (Value.ref C :: bm).contains (.type "ValueError") = true by rw [List.contains_cons, b1, Bool.or_true], if_neg (by decide)]
  refine wpAny_bind (wpAny_madeHere_exc F.canon hC ?_)
  have c3 : (Value.ref C :: bm).contains (.type "AttributeError") = false := by rw [List.contains_cons, b3]; rfl
  have c4 : (Value.ref C :: bm).contains (.type "NameError") = false := by rw [List.contains_cons, b4]; rfl
  refine wpAny_bind (?_ : wpAny _ _ (do
      let x ← isSubtype (.ref C) (.type "AttributeError")
      if x = true then pure 2
      else do
        let y ← isSubtype (.ref C) (.type "NameError")
        if y = true then pure 1 else pure 0 : Sem Nat) _ _ _)
  refine wpAny_bind (wpAny_isSubtype_exc hC ?_)
  rw [c3, if_neg Bool.false_ne_true]
  refine wpAny_bind (wpAny_isSubtype_exc hC ?_)
  rw [c4, if_neg Bool.false_ne_true]
  refine wpAny_pure (wpAny_bind (wpAny_newTuple ?_ hl))
  have hC2 := Heap.get?_push_of_some (tupNew us) hC
  unfold newObj
  dsimp only
  rw [if_neg (by show ¬ 6 > sizeLine + 2; decide)]
  unfold newObjAsIs
  refine wpAny_bind (wpAny_bind (wpAny_alloc ?_))
  dsimp only
  refine wpAny_bind ?_
  unfold classHasDel
  refine wpAny_bind (wpAny_load (Heap.get?_push_of_some _ hC2) ?_)
  dsimp only
  refine wpAny_pure ?_
  rw [if_neg Bool.false_ne_true]
  refine wpAny_pure (wpAny_pure ?_)
  have e1 : (hh.push (tupNew us)).objs.size = hh.objs.size + 1 := Heap.size_push _ _
  show R (.ok (.ret (.ref (hh.push (tupNew us)).objs.size))) _
  rw [e1]
  exact h
structure XCall (K : PySem.W.Frag) (C f : Addr) : Prop where
  ob : xmIn K C = true
  init : findIn K (.ref C) "__init__" = some (some (.ref f))
  fn : isFn K (.ref f) = true
  call : specialIn K (.ref C) "__call__" = some (some (.builtin "type.__call__"))
  typ : instIn K (.ref C) (.type "type") = some true
  kp : keepIn K (.ref C) = true
theorem exc_call {R : Result → Shared → Prop} (X : K.In s.heap) (m : XCall K C f) (hl : us.length ≤ sizeLine)
    (h : codeAny (model prog w) (A.under (.builtin "type.__call__" ⟨.ref C :: us, []⟩)) (.call (.ref f) ⟨.ref (s.heap.objs.size + 1) :: us, []⟩) (InitBack (s.heap.objs.size + 1) R)
      { s with heap := (s.heap.push (tupNew us)).push (excNew C s.heap.objs.size) }) : codeAny (model prog w) A (.call (.ref C) ⟨us, []⟩) R s := by
  have mo := xobj_of X m.ob
  have LC := looks_specialIn (M := model prog w) X m.call
  have LT := looks_instIn (M := model prog w) X m.typ
  obtain ⟨hh, g, d, t, os⟩ := s
  obtain ⟨nm, q, N, bs, bm, sn, sub, ab, col, dd, k0, k1, k2, k3, k5, hC, b1, b2, b3, b4⟩ := mo.ob
  refine codeAny_of_own ?_
  show wpOwn _ _ _ (callAny (.ref C) ⟨us, []⟩) _ _ _
  unfold callAny
  refine wpOwn_of_wpAny ?_
  dsimp only
  refine wpAny_bind (wpAny_load hC ?_)
  dsimp only
  unfold callAny.viaDunder
  refine wpAny_bind (LC.at ?_)
  dsimp only
  rw [show bindSpecial (.builtin "type.__call__") (.ref C) = pure (.builtin "type.__call__", [.ref C]) from by with_unfolding_all rfl]
  refine wpAny_bind (wpAny_pure ?_)
  dsimp only
  rw [show callAny.plainCallee (.builtin "type.__call__") = pure true from by with_unfolding_all rfl]
  refine wpAny_bind (wpAny_pure ?_)
  rw [if_pos rfl]
  refine wpAny_pure ⟨rfl, ?_⟩
  refine codeAny_call_builtin_code (Code.quiet_builtin _ (by decide +kernel)) ?_
  have k1' : builtinKind "type.__call__" = some .slot := by decide +kernel
  have k2' : splitId "type.__call__" = some ("type", "__call__") := by decide +kernel
  simp only [checkBuiltinCall, k1', k2', List.cons_append, List.nil_append]
  refine wpAny_bind (LT.at ?_)
  rw [if_neg (by decide)]
  have k3' : Manifest.signature? "type.__call__" = some { machinery := .hand, full := "wrapper __call__", short := "", receiver := .self, params := [] } := by with_unfolding_all rfl
  rw [k3']
  dsimp only
  rw [show Bind.checkArgs "type.__call__" { machinery := .hand, full := "wrapper __call__", short := "", receiver := .self, params := [] } { pos := Value.ref C :: us } = pure () from rfl]
  refine wpAny_pure (codeAny_builtin (b := Builtin.«type.__call__») rfl ?_)
  unfold Builtin.«type.__call__»
  dsimp only
  rw [if_neg (show ¬ (Value.ref C == Value.type "type") = true from fun z => by cases z)]
  refine wpAny_bind (wpAny_mroOf_exc hC ?_)
  rw [if_neg (show ¬ (Value.ref C :: bm).isEmpty = true from Bool.false_ne_true)]
  refine wpAny_bind (wpAny_madeBy_exc hC ?_)
  dsimp only
  refine wpAny_bind (wpAny_pure (wpAny_bind (wpAny_holding (wpAny_call (exc_new mo hl ?_)))))
  dsimp only at h ⊢
  have kp : ∀ b o, hh.get? b = some o → ((hh.push (tupNew us)).push (excNew C hh.objs.size)).get? b = some o := fun b o e => Heap.get?_push_of_some _ (Heap.get?_push_of_some _ e)
  have X2 : K.In ((hh.push (tupNew us)).push (excNew C hh.objs.size)) := X.keeps kp
  have eo : ((hh.push (tupNew us)).push (excNew C hh.objs.size)).get? (hh.objs.size + 1) = some (excNew C hh.objs.size) := by
    have := Heap.get?_push_size (hh.push (tupNew us)) (o := excNew C hh.objs.size) rfl
    rwa [Heap.size_push] at this
  have LI := looks_findIn (M := model prog w) X2 m.init
  have LB := bind_fn (M := model prog w) X2 (.ref (hh.objs.size + 1)) (beq_iff_eq.mp m.fn)
  generalize (hh.push (tupNew us)).push (excNew C hh.objs.size) = h2 at h kp X2 eo LI LB ⊢
  unfold isInstance
  have LTy : Looks (model prog w) h2 (typeOf (.ref (hh.objs.size + 1))) (.ref C) := (Looks.ld eo).andThen .now
  refine wpAny_bind (wpAny_bind (LTy.at (wpAny_isSubtype_exc (kp _ _ hC) ?_)))
  rw [show (Value.ref C :: bm).contains (.ref C) = true by rw [List.contains_cons, beq_self_eq_true, Bool.true_or], if_neg (by decide)]
  refine wpAny_bind (wpAny_holding ?_)
  unfold callSpecial? specialOf
  refine wpAny_bind (wpAny_bind (LTy.at (LI.at ?_)))
  dsimp only
  refine wpAny_holding (wpAny_bind (LB.at ?_))
  dsimp only
  refine wpAny_bind (wpAny_call (codeAny_mono h fun r s' hq => ?_))
  cases r with
  | error e => exact hq
  | ok fl =>
    cases fl with
    | ret u =>
      obtain ⟨rfl, hq⟩ := hq
      refine wpAny_pure ?_
      dsimp only
      rw [if_neg (by decide)]
      exact wpAny_pure hq
    | next => exact False.elim hq
    | brk => exact False.elim hq
    | cont => exact False.elim hq
end
end L2

set_option Elab.async false
set_option linter.all false
set_option maxRecDepth 100000
set_option maxHeartbeats 4000000
namespace L2
open PySem PySem.W PySem.Builtin PySem.Builtin.ObjectAttr PySem.Spec PyProof.Rows
/-! ### the own dict of an exception: self.x = v -/
def veMro : List Value := [.type "ValueError", .type "Exception", .type "BaseException", .type "object"]
def refsThen : List Value → Bool
  | .ref _ :: l => refsThen l
  | l => l == veMro
def xtIn (K : PySem.W.Frag) (C : Addr) : Bool := (clsIn K C).any fun cd => cd.hasDict && refsThen cd.mro
section
variable {prog : Program} {w : World} {A : Around} {E : Value → Shared → Prop} {s : Shared} {K : PySem.W.Frag} {C x : Addr} {us : List Value}
theorem over_loop {M : Model} {Q : Option Unit × Unit → Shared → Prop} {self : Value} : ∀ (l : List Value), refsThen l = true → (Q (some (), ()) s) →
    wpAny M A (forIn l ((none, ()) : Option Unit × Unit) fun c __s =>
        match c with
        | Value.type n =>
          if (n == "_thread._local") = true then do
            rule "setattr.thread-local-passed-by"
            pure (ForInStep.yield (none, ()))
          else
            if (n == "_pickle.Pickler" || n == "_pickle.Unpickler") = true then do
              rule "setattr.pickle-types-passed-by"
              pure (ForInStep.yield (none, ()))
            else do
              let own ← classOwn c (Str.ofString "__setattr__")
              if own.isSome = true then
                  have __do_jp := fun (__r : Unit) => pure (ForInStep.done (some (), ()));
                  if (!isObjects n (Str.ofString "__setattr__").toString) = true then do
                    rule "setattr.built-in-override"
                    let tn ← PySem.typeNameOf self
                    let __r ←
                      raiseErrorMade "TypeError"
                          (toString "can't apply this " ++ toString (Str.ofString "__setattr__").toString ++ toString " to " ++
                              toString tn ++
                            toString " object")
                    __do_jp __r
                  else __do_jp ()
                else pure (ForInStep.yield (none, ()))
        | x => pure (ForInStep.yield (none, ()))) Q E s := by
  intro l
  have o1 : classOwn (.type "ValueError") (Str.ofString "__setattr__") = pure none := by with_unfolding_all rfl
  have o2 : classOwn (.type "Exception") (Str.ofString "__setattr__") = pure none := by with_unfolding_all rfl
  have o3 : classOwn (.type "BaseException") (Str.ofString "__setattr__") = pure none := by with_unfolding_all rfl
  have o4 := F.own_object_setattr
  induction l with
  | nil => intro h; exact absurd h (by decide)
  | cons c l ih =>
    intro h q
    rw [List.forIn_cons]
    cases c with
    | ref a => exact wpAny_bind (wpAny_pure (ih h q))
    | type n =>
      have e : Value.type n :: l = veMro := by
        have : (Value.type n :: l == veMro) = true := h
        exact eq_of_beq this
      unfold veMro at e
      injection e with e1 e2
      injection e1 with e1
      subst e1 e2
      have n1 : ∀ n : String, n ∈ ["ValueError", "Exception", "BaseException", "object"] → (n == "_thread._local") = false ∧ (n == "_pickle.Pickler" || n == "_pickle.Unpickler") = false := by decide +kernel
      simp only [List.forIn_cons, n1 "ValueError" (by decide), n1 "Exception" (by decide), n1 "BaseException" (by decide), n1 "object" (by decide), o1, o2, o3, o4, Bool.false_eq_true, if_false]
      refine wpAny_bind (wpAny_bind (wpAny_pure ?_))
      refine wpAny_pure ?_
      refine wpAny_bind (wpAny_bind (wpAny_pure ?_))
      refine wpAny_pure ?_
      refine wpAny_bind (wpAny_bind (wpAny_pure ?_))
      refine wpAny_pure ?_
      refine wpAny_bind (wpAny_bind (wpAny_pure ?_))
      rw [if_pos (show (some (Value.builtin "object.__setattr__")).isSome = true from rfl), if_neg (show ¬ (!isObjects "object" (Str.ofString "__setattr__").toString) = true by unfold isObjects; simp)]
      exact wpAny_pure (wpAny_pure q)
    | _ => exact absurd h (by simp [refsThen, veMro])
theorem wp_eq {α : Type} {M : Model} {A : Around} {t t' : Sem α} {Q : α → Shared → Prop} {E : Value → Shared → Prop} {s : Shared} (e : t = t') (h : wpAny M A t' Q E s) : wpAny M A t Q E s := e ▸ h
structure XSet (K : PySem.W.Frag) (C : Addr) : Prop where
  t : xtIn K C = true
  sa : findIn K (.ref C) "__setattr__" = some (some (.builtin "object.__setattr__"))
  ob : mroIn K C (.type "object") = some true
theorem XSet.cd (m : XSet K C) : ∃ cd, clsIn K C = some cd ∧ cd.hasDict = true ∧ refsThen cd.mro = true := by
  have := m.t
  unfold xtIn at this
  cases e : clsIn K C with
  | none => rw [e] at this; cases this
  | some cd =>
    rw [e] at this
    have h2 : (cd.hasDict && refsThen cd.mro) = true := this
    exact ⟨cd, rfl, (Bool.and_eq_true _ _ ▸ h2).1, (Bool.and_eq_true _ _ ▸ h2).2⟩
theorem set_exc {oe : Obj} {vs : Array Value} {name : Str} {v : Value} {Q : Unit → Shared → Prop} (X : K.In s.heap) (m : XSet K C) (ha : findIn K (.ref C) name = some none) (he : s.heap.get? x = some oe) (hc : oe.cls = .ref C) (hd : oe.data = .fields vs) (hn : oe.dict = none)
    (h : ∀ h' : Heap, (∀ b o, b ≠ x → s.heap.get? b = some o → h'.get? b = some o) → h'.get? x = some { oe with dict := some s.heap.objs.size } → h'.Ns1 s.heap.objs.size (fun y => if y = name then some v else none) → Q () { s with heap := h', toks := s.toks + 2 }) :
    wpAny (model prog w) A (setAttr (.ref x) name v) Q E s := by
  obtain ⟨cd, hcd, hdict, hmro⟩ := m.cd
  have IA : InstAt s.heap x oe C none := ⟨he, hc, by unfold notCls; rw [hd], by rw [hn]; trivial⟩
  refine set_plain X IA m.sa ?_
  have LO := looks_mroIn (M := model prog w) X m.ob
  have LF := looks_findIn (M := model prog w) X ha
  have LCd := looks_clsIn (M := model prog w) X hcd
  have LTy : Looks (model prog w) s.heap (typeOf (.ref x)) (.ref C) := hc ▸ (Looks.ld he).andThen .now
  obtain ⟨hh, g, d, t, os⟩ := s
  dsimp only at *
  refine codeAny_call_builtin F.slot_object_setattr.plain F.entry_object_setattr ?_
  have k1 := F.bk_object_setattr
  have k2 := F.sp_object_setattr
  simp only [checkBuiltinCall, k1, k2]
  refine wpAny_bind ?_
  unfold isInstance
  refine wpAny_bind (LTy.at ?_)
  refine LO.at ?_
  rw [if_neg (by decide)]
  have k3 := F.args_object_setattr_3 (.ref x) (.str name t) v
  refine wp_eq k3 (wpAny_pure ?_)
  unfold Builtin.«object.__setattr__»
  rw [if_neg (show ¬ (!(⟨[Value.ref x, Value.str name t, v], []⟩ : Args).kw.isEmpty) = true from Bool.false_ne_true)]
  dsimp only
  unfold refuseIfOverridden
  refine wpAny_bind (wpAny_bind (LTy.at (wpAny_bind ?_)))
  unfold mroOf
  refine wpAny_bind (LCd.at (wpAny_pure (wpAny_bind (over_loop _ hmro ?_))))
  dsimp only
  refine wpAny_pure (wpAny_bind ?_)
  unfold attrName
  refine wpAny_pure (wpAny_bind (LTy.at (wpAny_bind (LF.at (wpAny_bind ?_)))))
  unfold storeTaker?
  refine wpAny_pure ?_
  dsimp only
  unfold storeInOwnDict ownStreamTells
  refine wpAny_bind (wpAny_pure ?_)
  rw [if_neg (show ¬ (Value.ref C == Value.type "module") = true from fun z => by cases z)]
  unfold ownDictForStores instanceDict
  refine wpAny_bind (wpAny_bind (wpAny_loadPart he ?_))
  rw [hc]
  dsimp only
  refine wpAny_bind (LCd.at ?_)
  rw [hdict, hn, hd]
  dsimp only
  rw [if_neg (by decide), if_neg (show ¬ (!true || !typeHasDict (Value.ref C)) = true from Bool.false_ne_true)]
  refine wpAny_bind (wpAny_alloc (wpAny_bind (wpAny_update (Heap.get?_push_of_some _ he) ?_)))
  unfold dictMade
  refine wpAny_pure ?_
  dsimp only
  unfold storeInDict newKeyGuard
  refine wpAny_bind (wpAny_pure (wpAny_bind ?_))
  have xlt : x ≠ hh.objs.size := Nat.ne_of_lt (Heap.lt_size he)
  have u1 : ((hh.push { cls := .type "dict", data := .dict #[] }).update x fun o => { cls := o.cls, dict := some hh.objs.size, data := o.data, slots := o.slots }).get? hh.objs.size = some { cls := .type "dict", data := .dict #[] } := by
    rw [Heap.get?_update_ne _ _ _ _ (Ne.symm xlt)]
    exact Heap.get?_push_size hh rfl
  have n1 : ((hh.push { cls := .type "dict", data := .dict #[] }).update x fun o => { cls := o.cls, dict := some hh.objs.size, data := o.data, slots := o.slots }).Ns1 hh.objs.size (fun _ => none) := Heap.Ns1.of_empty ⟨_, #[], _, u1, rfl, (fun e he => absurd he (by simp)), fun _ => rfl⟩
  refine wpAny_nsSet1 n1 fun h' hn2 hs2 => ?_
  have wi : PySem.Within (fun y => if y = name then some v else none) [name] := fun y hy => by
    by_cases e : y = name
    · rw [e]; exact List.mem_singleton.mpr rfl
    · exact absurd (if_neg e) hy
  obtain ⟨oD, esD, epD, hoD, hdD, hcD⟩ := hn2.count wi
  refine wpAny_bind (wpAny_lookBehind hoD (by rw [hdD]; exact pastItsLine_dict (Nat.le_trans hcD (by show 1 ≤ sizeLine + 1; decide))) ?_)
  refine wpAny_pure ?_
  have ux : ((hh.push { cls := .type "dict", data := .dict #[] }).update x fun o => { cls := o.cls, dict := some hh.objs.size, data := o.data, slots := o.slots }).get? x = some { oe with dict := some hh.objs.size } :=
    Heap.get?_update_self _ (Heap.get?_push_of_some _ he) (by unfold Obj.isFreed; rw [hd])
  refine h h' (fun b o hb e => ?_) ?_ hn2
  · have hb2 : b ≠ hh.objs.size := Nat.ne_of_lt (Heap.lt_size e)
    rw [hs2.2 b hb2, Heap.get?_update_ne _ _ _ _ hb]
    exact Heap.get?_push_of_some _ e
  · rw [hs2.2 x xlt]
    exact ux
end
end L2

set_option Elab.async false
set_option linter.all false
set_option maxRecDepth 100000
set_option maxHeartbeats 4000000
namespace L2
open PySem PySem.W PySem.Builtin PySem.Builtin.ObjectAttr PySem.Builtin.Getset_descriptor PySem.Spec PyProof.Rows
/-! ### e.x, e an exception with an own dict -/
section
variable {prog : Program} {w : World} {A : Around} {E : Value → Shared → Prop} {s : Shared} {K : PySem.W.Frag} {C D x dx : Addr} {us : List Value}
theorem get_exc {oe : Obj} {vs : Array Value} {name : Str} {v : Value} {mA : Str → Option Value} {b : Bool} {Q : Value → Shared → Prop} (c : ExcCls K D) (m : XSet K D) (X : K.In s.heap) (ha : findIn K (.ref D) name = some none) (he : s.heap.get? x = some oe) (hc : oe.cls = .ref D) (hd : oe.data = .fields vs) (hx : oe.dict = some dx)
    (hn : s.heap.Ns1 dx mA) (hv : mA name = some v) (hv' : handedIn v = true) (h : Q v { s with toks := s.toks + 1 }) : wpAny (model prog w) A (getAttr (.ref x) name b) Q E s := by
  obtain ⟨cd, hcd, hdict, hmro⟩ := m.cd
  obtain ⟨hh, g, dr, t, os⟩ := s
  have LT : Looks (model prog w) hh (typeOf (.ref x)) (.ref D) := hc ▸ (Looks.ld he).andThen .now
  have LG := looks_findIn (M := model prog w) X c.ga
  have LN := looks_findIn (M := model prog w) X c.no
  have LC := looks_findIn (M := model prog w) X ha
  have LB := looks_mroIn (M := model prog w) X c.be
  have LCd := looks_clsIn (M := model prog w) X hcd
  unfold getAttr
  refine wpAny_bind (wpAny_mkText ?_)
  unfold getAttrBy
  dsimp only
  refine wpAny_holding (wpAny_bind (LT.at (wpAny_bind (LG.at ?_))))
  have hne : (onTheHeap (Value.ref D) && Value.builtin "BaseException.__getattribute__" == Value.builtin "object.__getattribute__") = false := by
    rw [show (Value.builtin "BaseException.__getattribute__" == Value.builtin "object.__getattribute__") = false from by decide +kernel, Bool.and_false]
  dsimp only
  rw [hne]
  rw [if_neg Bool.false_ne_true]
  unfold getAttrByItsOwn hookBefore
  rw [if_pos (show onTheHeap (Value.ref D) = true from rfl)]
  refine wpAny_bind (LN.at (wpAny_bind (wpAny_attempt (wpAny_holding ?_))))
  unfold callGetattribute boundAndCalled
  rw [if_neg (show ¬ (b && onTheHeap (Value.builtin "BaseException.__getattribute__")) = true from by rw [show onTheHeap (Value.builtin "BaseException.__getattribute__") = false from rfl, Bool.and_false]; exact Bool.false_ne_true)]
  have fb := PySem.F.attrBase_ValueError.ga
  rw [fb.bind (.ref x)]
  refine wpAny_bind (wpAny_pure ?_)
  refine wpAny_call (codeAny_call_builtin fb.plain F.entry_bexc_ga ?_)
  have k1 : builtinKind "BaseException.__getattribute__" = some .slot := by decide +kernel
  have k2 : splitId "BaseException.__getattribute__" = some ("BaseException", "__getattribute__") := by decide +kernel
  have k3 := F.args_bexc_ga (.ref x) (.str name t)
  simp only [checkBuiltinCall, k1, k2, List.cons_append, List.nil_append]
  refine wpAny_bind ?_
  unfold isInstance
  refine wpAny_bind (LT.at (LB.at ?_))
  rw [if_neg (by decide)]
  refine wp_eq k3 (wpAny_pure ?_)
  unfold Builtin.«object.__getattribute__»
  obtain ⟨od, hod, hlk⟩ := lookIn_ns hn
  have IA : InstAt hh x oe D (some od) := ⟨he, hc, by unfold notCls; rw [hd], by rw [hx]; exact hod⟩
  have hD : hasDictIn K D = true := by unfold hasDictIn; rw [hcd]; exact hdict
  have LFi := looks_find (M := model prog w) X IA (findObj_own hD ha rfl (by rw [hlk, hv]))
  rw [show slotArgs "__getattribute__" 1 { pos := [Value.ref x, Value.str name t] } = pure (.ref x, [.str name t]) from rfl]
  refine wpAny_bind (wpAny_pure (wpAny_bind ?_))
  unfold attrName
  refine wpAny_pure (wpAny_bind (LT.at (wpAny_bind (LFi.at ?_))))
  refine wpAny_pure ?_
  show wpAny _ _ (handedOut v) _ _ _
  rw [handedOut_of hv']
  exact wpAny_pure h
end
end L2

set_option Elab.async false
set_option linter.all false
set_option maxRecDepth 100000
set_option maxHeartbeats 4000000
namespace L2
open PySem PySem.Spec PyProof.Rows
/-! ### exceptions as things: made, their attributes set and read -/
/-- the exception at ea, as it was made (its dict, its args at t), not yet raised -/
abbrev excX (ea C : Addr) (od : Option Addr) (t : Addr) : HO := .ext fun h => h.get? ea = some { cls := .ref C, dict := od, data := .fields #[.ref t, .none, .none, .none, .bool false, .none] }
theorem excX_ok {P : Program} {w : World} {H : Hp} {h : Heap} {ea C t : Addr} {od : Option Addr} (e : h.get? ea = some { cls := .ref C, dict := od, data := .fields #[.ref t, .none, .none, .none, .bool false, .none] }) : ObjOk P w H h ea (excX ea C od t) :=
  ⟨e, ⟨_, e⟩, fun g1 g2 q k => k _ q⟩
section
variable {X : Cx} {pins : List (Addr × Obj)} {σ : St} {H : Hp} {s : Shared} {x C t : Addr} {f : Str} {y : V} {u : Value} {A : Around} {E : Value → Shared → Prop}
theorem excX_at {od : Option Addr} (I : Inv X pins σ H s) (e : H x = some (excX x C od t)) : s.heap.get? x = some { cls := .ref C, dict := od, data := .fields #[.ref t, .none, .none, .none, .bool false, .none] } := (I.hok x _ e).1
theorem setX_ok {Q : Unit → Shared → Prop} (I : Inv X pins σ H s) (e : H x = some (excX x C none t)) (m : XSet X.K C) (n : NoAttr X.K C f) (ry : RelV y u)
    (h : ∀ dx s', H dx = none → Inv X pins σ (upd (upd H x (excX x C (some dx) t)) dx (.xd [(f, y)])) s' → Q () s') : wpAny (model X.prog X.w) A (setAttr (.ref x) f u) Q E s := by
  have hx := excX_at I e
  have hsz : H s.heap.objs.size = none := I.hok.fresh (Nat.le_refl _)
  refine set_exc I.kIn m n hx rfl rfl rfl fun h' k e1 ns => h s.heap.objs.size _ hsz ?_
  have I1 : Inv X pins σ (upd H x (excX x C (some s.heap.objs.size) t)) { s with heap := h', toks := s.toks + 2 } :=
    I.write (by rw [e]; exact True.intro) (.inl rfl) k ⟨_, e1⟩ (excX_ok e1)
  have nx : s.heap.objs.size ≠ x := Ne.symm (Nat.ne_of_lt (Heap.lt_size hx))
  refine I1.track (by rw [upd_ne nx]; exact hsz) ⟨_, ns, fun g => ?_⟩ (fun v e2 _ _ => ?_) (fun z => ?_) (fun z c e2 z2 => ?_) fun p hp z => ?_
  · show RelO (List.lookup g [(f, y)]) (if g = f then some u else none)
    by_cases q : g = f
    · subst q; rw [List.lookup_cons_self, if_pos rfl]; exact ry
    · rw [List.lookup_cons, beq_eq_false_iff_ne.mpr q, if_neg q]; trivial
  · exact absurd (Heap.lt_size e2) (Nat.not_lt.mpr I.sz)
  · have := I.lt
    rw [z] at this
    exact absurd this (Nat.lt_irrefl _)
  · obtain ⟨v, oc, hoc, _⟩ := I.cell z c e2
    rw [z2] at hoc
    exact absurd (Heap.lt_size hoc) (Nat.lt_irrefl _)
  · have := (I.pin p hp).1
    rw [z] at this
    exact absurd (Heap.lt_size this) (Nat.lt_irrefl _)
end
/-! the rules -/
def sFldX (K : PySem.W.Frag) (ta tv : TE) (f : Str) : TS := fun D σ H => tv σ H fun y H1 => ta σ H1 fun x H2 => ∃ (a C t : Addr), x = .ref a ∧ H2 a = some (excX a C none t) ∧ XSet K C ∧ NoAttr K C f ∧ ∀ dx, H2 dx = none → D.nx σ (upd (upd H2 a (excX a C (some dx) t)) dx (.xd [(f, y)]))
section
variable {X : Cx} {o e value : Expr} {f : Str} {pos pos' tpos : Pos} {ta tv : TE}
theorem ps_fldX (ha : PE X o ta) (hv : PE X value tv) (hs : swapsWith value (some (.Attribute o f pos')) pos.line X.env = pure false) : PS X (.Assign [.Attribute o f pos'] value pos) (sFldX X.K ta tv f) := by
  refine ⟨?_⟩
  intro pins s σ H D I h
  refine plainObj_wpAny_Assign_Attribute (thn (hv pins s σ H _ I h) fun u s1 ⟨y, H1, I1, ry, q⟩ => thn (ha pins s1 σ H1 _ I1 q) fun ov s2 ⟨x, H2, I2, rx, a, C, t, ex, ea, c, n, q2⟩ => ?_) hs
  subst ex
  obtain rfl : ov = Value.ref a := rx
  exact setX_ok I2 ea c n ry fun dx s3 hdx I3 => ⟨σ, _, I3, q2 dx hdx⟩
end
/-! C(..), an own exception class with an own __init__ -/
def tMakeX (C : Addr) (sp : Sp) (E : XK) (t : TA) : TE := fun σ H Q => t σ H fun vs H1 => vs.length ≤ sizeLine ∧ ∀ x tu, H1 x = none → H1 tu = none → tu ≠ x → sp (.ref x :: vs) (upd H1 x (excX x C none tu)) (fun v H2 => v = .non ∧ Q (.ref x) H2) E
section
variable {X : Cx} {CX : CXT} {k : Nat} {f C : Addr} {fd : FuncData} {ps : List Str} {sp : Sp} {E : XK} {x : Str} {p pos : Pos} {e : Expr} {es : List Expr} {t : TA}
theorem Inv.madeX {pins : List (Addr × Obj)} {σ : St} {H : Hp} {s : Shared} {us : List Value} (I : Inv X pins σ H s) : Inv X pins σ (upd H (s.heap.objs.size + 1) (excX (s.heap.objs.size + 1) C none s.heap.objs.size)) { s with heap := (s.heap.push (tupNew us)).push (excNew C s.heap.objs.size) } := by
  refine I.laid (fun b u e => Heap.get?_push_of_some _ (Heap.get?_push_of_some _ e)) (Nat.le_succ _) (excX_ok ?_)
  have := Heap.get?_push_size (s.heap.push (tupNew us)) (o := excNew C s.heap.objs.size) rfl
  rwa [Heap.size_push] at this
theorem run_makeX {pins : List (Addr × Obj)} {σ : St} {H : Hp} {s : Shared} {Q : VK} {us : List Value} {vs : List V} (M : XCall X.K C f) (F : FnOk X.prog X.w X.K X.mg X.base CX k f fd ps sp) (hr : Room (k + 1) X.A) (hb : Binds X.K fd ps [])
    (hx : Passes CX X E) (I : Inv X pins σ H s) (r : Vals vs us) (hl : vs.length ≤ sizeLine)
    (h : ∀ x tu, H x = none → H tu = none → tu ≠ x → sp (.ref x :: vs) (upd H x (excX x C none tu)) (fun v H2 => v = .non ∧ Q (.ref x) H2) E) :
    wpAny (model X.prog X.w) X.A (call (.ref C) us) (EP X pins σ Q) X.xe s := by
  have hq := h (s.heap.objs.size + 1) s.heap.objs.size (I.hok.fresh (Nat.le_succ _)) (I.hok.fresh (Nat.le_refl _)) (Nat.ne_of_lt (Nat.lt_succ_self _))
  have I2 := Inv.madeX (C := C) (us := us) I
  have r2 : Vals (V.ref (s.heap.objs.size + 1) :: vs) (Value.ref (s.heap.objs.size + 1) :: us) := .cons rfl r
  have hl2 : (Value.ref (s.heap.objs.size + 1) :: us ++ []).length = ps.length := by
    have e := r2.length
    rw [F.len _ _ _ _ hq] at e
    rw [List.append_nil]
    exact e.symm
  have hb2 := hb _ (Value.ref (s.heap.objs.size + 1) :: us) I2.kIn hl2
  rw [List.append_nil] at hb2
  refine wpAny_call (exc_call I.kIn M (by rw [← r.length]; exact hl) (codeAny_mono (F.run _ X.stack _ _ ⟨Value.ref (s.heap.objs.size + 1) :: us, []⟩ (Value.ref (s.heap.objs.size + 1) :: us) _ _ E (hr.make C us [])
    (I2.env0.make C us []) hb2 r2 hq) fun r s' hq' => ?_))
  cases r with
  | error e => exact hx pins σ _ _ e s' I2 hq'
  | ok fl =>
    cases fl with
    | ret u =>
      obtain ⟨v, H', I3, rv, ev, q3⟩ := I2.after hq'
      subst ev
      exact ⟨rv, ⟨V.ref (s.heap.objs.size + 1), H', I3, rfl, q3⟩⟩
    | next => exact False.elim hq'
    | brk => exact False.elim hq'
    | cont => exact False.elim hq'
theorem pe_makeX (M : XCall X.K C f) (F : FnOk X.prog X.w X.K X.mg X.base CX k f fd ps sp) (hr : Room (k + 1) X.A) (hg : Gl X x) (hm : X.mg x = some (.ref C)) (hb : Binds X.K fd ps []) (hx : Passes CX X E)
    (ha : PA X (e :: es) t) (hdb : (x == ("__debug__" : Str)) = false := by decide) (he : starEach (e :: es) X.env = (false, eval e X.env) :: starEach es X.env := by rfl) (hpl : (backTo pos (starEach es X.env)).any (·.1) = false := by rfl) :
    PE X (.Call (.Name x p) (e :: es) [] pos) (tMakeX C sp E t) := by
  refine ⟨?_⟩
  intro pins s σ H Q I h
  refine wpAny_Call_Name_kw (ld_glob I hg hm ?_ hdb)
  refine PySem.W.callWith_K (h₀ := X.base) I.ok.mod.kin M.kp (thn (ha pos pins s σ H _ I h) fun us s1 ⟨vs, H1, I1, r, hl, q⟩ => ⟨I1.kIn, ?_⟩) he hpl
  exact run_makeX M F hr hb hx I1 r hl q
end
end L2

set_option Elab.async false
set_option linter.all false
set_option maxRecDepth 100000
set_option maxHeartbeats 4000000
namespace L2
open PySem PySem.Spec PyProof.Rows
/-! ### raise C(..), C with an own __init__ -/
def drop (H : Hp) (a : Addr) : Hp := fun b => if b = a then none else H b
theorem drop_same {H : Hp} {a : Addr} : drop H a a = none := by unfold drop; rw [if_pos rfl]
theorem drop_ne {H : Hp} {a b : Addr} (h : b ≠ a) : drop H a b = H b := by unfold drop; rw [if_neg h]
theorem drop_some {H : Hp} {a b : Addr} {u : HO} (h : drop H a b = some u) : b ≠ a ∧ H b = some u := by
  unfold drop at h
  split at h
  · cases h
  · exact ⟨‹_›, h⟩
theorem HOk.drop {P : Program} {w : World} {H : Hp} {h : Heap} {a : Addr} {φ : Heap → Prop} (x : HOk P w H h) (ha : H a = some (.ext φ)) : HOk P w (drop H a) h := fun b u e => by
  obtain ⟨hb, e⟩ := drop_some e
  exact (x b u e).stay (fun _ _ _ q => q) (fun c q => by rw [drop_ne (fun z => by rw [z, ha] at q; cases q)]; exact q) fun c xs q => by rw [drop_ne (fun z => by rw [z, ha] at q; cases q)]; exact q
section
variable {X : Cx} {pins : List (Addr × Obj)} {σ : St} {H : Hp} {s : Shared} {ea C t : Addr} {od : Option Addr} {M : Model} {E : Value → Shared → Prop}
end
end L2

set_option Elab.async false
set_option linter.all false
set_option maxRecDepth 100000
set_option maxHeartbeats 4000000
namespace L2
open PySem PySem.Spec PyProof.Rows
section
variable {X : Cx} {E : XK} {pos : Pos} {e : Expr} {te : TE}
end
section
variable {P : Program} {w : World} {K : PySem.W.Frag} {mg : Str → Option Value} {base : Heap} {N : List Str} {qual : Str} {scope : Scope} {f : Addr} {cd : Value} {A : Around} {outer : List Env} {s : Shared} {H : Hp} {E E' : XK}
end
/-! C(..), an own exception class without __init__, as a thing -/
def tMakeP (C : Addr) (t : TA) : TE := fun σ H Q => t σ H fun vs H1 => vs.length ≤ sizeLine ∧ ∀ x tu, H1 x = none → Q (.ref x) (upd H1 x (excX x C none tu))
section
variable {X : Cx} {x : Str} {C : Addr} {B Bn newId nid initId inN : String} {bm bmN : List Value} {np pos : Pos} {e : Expr} {es : List Expr} {t : TA}
theorem Inv.madeP {pins : List (Addr × Obj)} {σ : St} {H : Hp} {s : Shared} {vs : List Value} {h' : Heap} {ea : Addr} (I : Inv X pins σ H s) (hm : Heap.MadeExcOf s.heap h' ea (.ref C) vs) : H ea = none ∧ ∃ tu, Inv X pins σ (upd H ea (excX ea C none tu)) { s with heap := h' } := by
  have hn : H ea = none := by
    cases q : H ea with
    | none => rfl
    | some u =>
      obtain ⟨o, e⟩ := I.hok.rec q
      rw [hm.new] at e; cases e
  obtain ⟨tu, h1, _, _⟩ := hm.there
  refine ⟨hn, tu, (I.kept (t' := s.toks) hm.keeps).track hn (excX_ok h1) (fun u e2 n x => ?_) (fun z => ?_) (fun z c e2 z2 => ?_) fun p hp z => ?_⟩
  · obtain ⟨o, e3⟩ := I.base.there ea u e2 x
    rw [hm.new] at e3; cases e3
  · obtain ⟨m, ⟨oL, es, ep, hoL, _⟩, _⟩ := I.loc
    rw [z, hm.new] at hoL; cases hoL
  · obtain ⟨v, oc, hoc, _⟩ := I.cell z c e2
    rw [z2, hm.new] at hoc; cases hoc
  · have := (I.pin p hp).1
    rw [z, hm.new] at this; cases this
theorem pe_makeP (O : OwnCls x C bm newId X.mg X.base) (kp : PySem.W.keepIn X.K (.ref C) = true) (Fn : ExcBaseFacts Bn newId inN bmN) (hBn : bm.contains (.type Bn) = true) (FB : ExcBaseFacts B nid initId bm) (ha : PA X (e :: es) t)
    (hg : Gl X x := by rfl) (hdb : (x == ("__debug__" : Str)) = false := by decide) (he : starEach (e :: es) X.env = (false, eval e X.env) :: starEach es X.env := by rfl) (hpl : (backTo pos (starEach es X.env)).any (·.1) = false := by rfl) :
    PE X (.Call (.Name x np) (e :: es) [] pos) (tMakeP C t) := by
  refine ⟨?_⟩
  intro pins s σ H Q I h
  obtain ⟨tl, N, nm, q, bs, hdct, sn, sub, ab, col, dd, k0, k1, k2, k3, k5, mN, hC, hN, hni, T⟩ := O.obj
  refine wpAny_Call_Name_kw (ld_glob I hg O.bound ?_ hdb)
  refine PySem.W.callWith_K (h₀ := X.base) I.ok.mod.kin kp (thn (ha pos pins s σ H _ I h) fun us s1 ⟨vs, H1, I1, r, hl, q⟩ => ⟨I1.kIn, ?_⟩) he hpl
  obtain ⟨hh, g, d, tk, os⟩ := s1
  refine wpAny_call_exc_subU Fn hBn FB (T.keeps I1.bk) (I1.bk _ _ hC) (hN.keeps I1.bk) hni (fun h' ea hm => ?_) (by rw [List.nil_append, ← r.length]; exact hl)
  obtain ⟨hn, tu, I2⟩ := I1.madeP hm
  exact ⟨.ref ea, _, I2, rfl, q ea tu hn⟩
end
end L2

set_option Elab.async false
set_option linter.all false
set_option maxRecDepth 100000
set_option maxHeartbeats 4000000
namespace L2
open PySem PySem.Spec PyProof.Rows
section
variable {X : Cx} {pins : List (Addr × Obj)} {σ : St} {H : Hp} {s : Shared} {M : Model} {A : Around} {E : Value → Shared → Prop} {i : Nat} {n : Str} {pos : Pos}
end
section
variable {X : Cx} {pins : List (Addr × Obj)} {σ : St} {H : Hp} {s : Shared} {ea : Addr}
variable {st b₀ : Stmt} {suite : List Stmt} {c n : Str} {np hpos pos : Pos} {C : Addr} {i : Nat} {tb : XK → TS} {ts : TS} {ok : Value → Prop}
end
section
variable {X : Cx} {pins : List (Addr × Obj)} {σ : St} {e : Expr} {es : List Expr} {t : TA} {E : XK} {x : Str} {p pos : Pos} {k : Nat} {f C : Addr} {fd : FuncData} {ps : List Str} {sp : Sp} {dvs : List V} {ds : List Value}
end
end L2

set_option Elab.async false
set_option linter.all false
set_option maxRecDepth 100000
set_option maxHeartbeats 4000000
namespace L2
open PySem PySem.Spec PyProof.Rows
/-! ### an exception in flight, its object known -/
abbrev excF (C : Addr) (od : Option Addr) (t : Addr) (tb : Value) : Obj := { cls := .ref C, dict := od, data := .fields #[.ref t, tb, .none, .none, .bool false, .none] }
/-- it has been noted: its traceback stands outside the base -/
def TrS (h base : Heap) (e C : Addr) (od : Option Addr) (t : Addr) : Prop := ∃ (tb : Addr) (oT : Obj) (ts : Array Value), h.get? e = some (excF C od t (.ref tb)) ∧ base.get? tb = none ∧ tb ≠ e ∧ h.get? tb = some oT ∧ oT.data = .fields ts ∧ ts[3]? = some .none
section
variable {M : Model} {A : Around} {E : Value → Shared → Prop} {s : Shared} {base : Heap} {env : Env} {outer : List Env} {L e C t : Addr} {od : Option Addr} {tb0 head : Value} {hn : Bool} {Q : Unit → Shared → Prop}
theorem entryS (fr : A.frames = some (env :: outer)) (fl : s.heap.FunFrames base (env :: outer)) (hfl : env.frame = some L) (he : s.heap.get? e = some (excF C od t tb0)) (hst : base.StaysIn s.heap) (hb : base.get? e = none)
    (q : ∀ h' : Heap, base.StaysIn h' → h'.FunFrames base (env :: outer) → TrS h' base e C od t → s.heap.UpToSlots h' → Q () { s with heap := h' }) :
    wpAny M A (do
      let a ← frameOf env
      let pl ← entryPlaceOf L hn
      let b ← EntryCells.newEntry head a Value.none (rawInt L) Value.none pl
      setField (Value.ref e) 1 b) (fun _ s' => wpAny M A (setFlight (Value.ref e) none) Q E s') E s := by
  refine wpAny_bind (wpAny_frameOf_fun fr fl hfl fun h1 so => ?_)
  obtain ⟨sz, oth, sl⟩ := so
  refine wpAny_bind (wpAny_entryPlaceOf fun pl hpl => ?_)
  unfold EntryCells.newEntry newFields
  have eS : e ∉ List.filterMap (fun x : Env => x.frame) (env :: outer) := fun z => by
    obtain ⟨_, o, ho, hd⟩ := fl.mem z
    rw [he] at ho
    cases ho
    exact hd _ rfl
  have e1 : h1.get? e = some (excF C od t tb0) := (oth e eS).trans he
  have lp : (if pl.isEmpty = true then List.replicate 6 Value.none else pl).length = 6 := by
    rcases hpl with rfl | ⟨a, b, c, d, c9, b10, _, rfl⟩ <;> rfl
  have sz11 : ([head, Value.ref L, Value.none, rawInt L, Value.none] ++ if pl.isEmpty = true then List.replicate 6 Value.none else pl).length = 11 := by
    rw [List.length_append, lp]
    rfl
  have hL : A.frames = some (env :: outer) := fr
  generalize hcells : ([head, Value.ref L, Value.none, rawInt L, Value.none] ++ if pl.isEmpty = true then List.replicate 6 Value.none else pl) = cells at sz11 ⊢
  have c3 : cells[3]? = some (rawInt L) := by rw [← hcells]; rfl
  refine wpAny_bind (wpAny_newObj_type ?_ (by show sizeOk (Data.fields cells.toArray); unfold sizeOk; simp only [List.size_toArray, sz11]; decide))
  dsimp only
  have hlt : e < h1.objs.size := Heap.lt_size e1
  have ne : h1.objs.size ≠ e := Nat.ne_of_gt hlt
  refine wpAny_setField (Heap.get?_push_of_some _ e1) rfl (by show 1 < 6; decide) ?_
  have x2 : ((h1.push { cls := .type "traceback", data := .fields cells.toArray }).update e (Obj.mapFields fun x => x.setIfInBounds 1 (.ref h1.objs.size))).get? e = some (excF C od t (.ref h1.objs.size)) :=
    Heap.get?_update_self _ (Heap.get?_push_of_some _ e1) rfl
  have x3 : ((h1.push { cls := .type "traceback", data := .fields cells.toArray }).update e (Obj.mapFields fun x => x.setIfInBounds 1 (.ref h1.objs.size))).get? h1.objs.size = some { cls := .type "traceback", data := .fields cells.toArray } := by
    rw [Heap.get?_update_ne _ _ _ _ ne]
    exact Heap.get?_push_size h1 rfl
  have x4 : ∀ b o, b ≠ e → h1.get? b = some o → ((h1.push { cls := .type "traceback", data := .fields cells.toArray }).update e (Obj.mapFields fun x => x.setIfInBounds 1 (.ref h1.objs.size))).get? b = some o := fun b o hbe hbo => by
    rw [Heap.get?_update_ne _ _ _ _ hbe]
    exact Heap.get?_push_of_some _ hbo
  generalize (h1.push { cls := .type "traceback", data := .fields cells.toArray }).update e (Obj.mapFields fun x => x.setIfInBounds 1 (.ref h1.objs.size)) = h2 at x2 x3 x4 ⊢
  unfold setFlight
  refine wpAny_bind (wpAny_field (x := .ref h1.objs.size) x2 rfl rfl ?_)
  rw [if_pos (show (Value.ref h1.objs.size != Value.none) = true from rfl)]
  refine wpAny_setField x3 rfl (by rw [List.size_toArray, sz11]; decide) ?_
  show Q () { s with heap := h2.update h1.objs.size (Obj.mapFields fun x => x.setIfInBounds 3 Value.none) }
  have y1 : ∀ b, b ≠ h1.objs.size → (h2.update h1.objs.size (Obj.mapFields fun x => x.setIfInBounds 3 Value.none)).get? b = h2.get? b := fun b hb' => Heap.get?_update_ne _ _ _ _ hb'
  have y2 : (h2.update h1.objs.size (Obj.mapFields fun x => x.setIfInBounds 3 Value.none)).get? h1.objs.size = some { cls := .type "traceback", data := .fields (cells.toArray.setIfInBounds 3 .none) } := Heap.get?_update_self _ x3 rfl
  have kp : ∀ b o, s.heap.get? b = some o → (∀ vs, o.data ≠ .fields vs) → ∃ sl, (h2.update h1.objs.size (Obj.mapFields fun x => x.setIfInBounds 3 Value.none)).get? b = some { o with slots := sl } := fun b o hbo hd => by
    obtain ⟨sl', hs'⟩ := sl b o hbo
    have n1 : b ≠ h1.objs.size := Nat.ne_of_lt (Heap.lt_size hs')
    have n2 : b ≠ e := fun z => by rw [z, he] at hbo; cases hbo; exact hd _ rfl
    exact ⟨sl', by rw [y1 b n1]; exact x4 b _ n2 hs'⟩
  refine q _ (fun b o hbo => ?_) (fl.of_keeps fun b o hbo hd => ?_) ?_ kp
  · have n0 : b ∉ List.filterMap (fun x : Env => x.frame) (env :: outer) := fun z => by
      rw [(fl.mem z).1] at hbo; cases hbo
    have hs' := (oth b n0).trans (hst b o hbo)
    have n1 : b ≠ h1.objs.size := Nat.ne_of_lt (Heap.lt_size hs')
    have n2 : b ≠ e := fun z => by rw [z, hb] at hbo; cases hbo
    rw [y1 b n1]
    exact x4 b o n2 hs'
  · obtain ⟨sl', hs'⟩ := kp b o hbo hd
    exact ⟨_, hs', rfl⟩
  · refine ⟨h1.objs.size, _, _, (by rw [y1 e (Ne.symm ne)]; exact x2), ?_, ne, y2, rfl, ?_⟩
    · cases z : base.get? h1.objs.size with
      | none => rfl
      | some o =>
        have := Heap.lt_size (hst _ o z)
        rw [← sz] at this
        exact absurd this (Nat.lt_irrefl _)
    · rw [Array.getElem?_setIfInBounds_self_of_lt (by rw [List.size_toArray, sz11]; decide)]
/-- the frame is noted, then the flight's mark goes: the exception new, or noted already -/
theorem noteS (fr : A.frames = some (env :: outer)) (fl : s.heap.FunFrames base (env :: outer)) (hfl : env.frame = some L) (hst : base.StaysIn s.heap) (hb : base.get? e = none)
    (he : s.heap.get? e = some (excF C od t .none) ∨ TrS s.heap base e C od t)
    (q : ∀ h' : Heap, base.StaysIn h' → h'.FunFrames base (env :: outer) → TrS h' base e C od t → s.heap.UpToSlots h' → Q () { s with heap := h' }) :
    wpAny M A (noteFrame (.ref e) env) (fun _ s' => wpAny M A (setFlight (.ref e) none) Q E s') E s := by
  unfold noteFrame
  rw [hfl]
  dsimp only
  rcases he with he | ⟨tb, oT, ts, h1, h2, h3, h4, h5, h6⟩
  · refine wpAny_bind (wpAny_field (x := Value.none) he rfl rfl ?_)
    rw [if_neg (show ¬ (Value.none != Value.none) = true by decide)]
    exact entryS fr fl hfl he hst hb q
  · refine wpAny_bind (wpAny_field (x := .ref tb) h1 rfl rfl ?_)
    rw [if_pos (show (Value.ref tb != Value.none) = true from rfl)]
    refine wpAny_bind (wpAny_field (x := Value.none) h4 h5 h6 ?_)
    rw [if_neg (show ¬ (Value.none == rawInt (L : Nat)) = true from fun z => by cases z)]
    have l3 : 3 < ts.size := by
      have := (Array.getElem?_eq_some_iff.mp h6).1
      exact this
    refine wpAny_bind (wpAny_setField h4 h5 l3 ?_)
    have z1 : ∀ b, b ≠ tb → (s.heap.update tb (Obj.mapFields fun x => x.setIfInBounds 3 Value.none)).get? b = s.heap.get? b := fun b hb' => Heap.get?_update_ne _ _ _ _ hb'
    have up : s.heap.UpToSlots (s.heap.update tb (Obj.mapFields fun x => x.setIfInBounds 3 Value.none)) := fun b o hbo hd => by
      have n : b ≠ tb := fun z => by rw [z, h4] at hbo; cases hbo; exact hd _ h5
      exact ⟨o.slots, by rw [z1 b n]; exact hbo⟩
    refine entryS (s := { s with heap := s.heap.update tb (Obj.mapFields fun x => x.setIfInBounds 3 Value.none) }) fr (fl.of_keeps fun b o hbo hd => ?_) hfl (tb0 := .ref tb) (by rw [z1 e (Ne.symm h3)]; exact h1) (fun b o hbo => ?_) hb fun h' a1 a2 a3 a4 => q h' a1 a2 a3 (up.trans a4)
    · obtain ⟨sl, hs⟩ := up b o hbo hd
      exact ⟨_, hs, rfl⟩
    · have n : b ≠ tb := fun z => by rw [z, h2] at hbo; cases hbo
      show (s.heap.update tb (Obj.mapFields fun x => x.setIfInBounds 3 Value.none)).get? b = some o
      rw [z1 b n]
      exact hst b o hbo
end
end L2

set_option Elab.async false
set_option linter.all false
set_option maxRecDepth 100000
set_option maxHeartbeats 4000000
namespace L2
open PySem PySem.Spec PyProof.Rows
def FlS (B : Heap) (l : List Env) (e C : Addr) (od : Option Addr) (t : Addr) (h : Heap) : Prop := B.StaysIn h ∧ B.get? e = none ∧ h.FunFrames B l ∧ TrS h B e C od t
structure FlyS (P : Program) (w : World) (outer : List Env) (H : Hp) (s : Shared) (C : Addr) (od : Option Addr) (t : Addr) (H' : Hp) (ea : Addr) (s' : Shared) : Prop where
  os : s'.os = s.os
  bare : AllBare s'.gens
  un : Un (frs outer) [] H H' s.heap s'.heap
  hok : HOk P w H' s'.heap
  nt : H' ea = none
  fly : ∃ B, FlS B outer ea C od t s'.heap ∧ (∀ b u, H' b = some u → ∃ o, B.get? b = some o) ∧ (∀ b o, s.heap.get? b = some o → H b = none → b ∉ frs outer → B.get? b = some o) ∧
    ∀ b o, s.heap.get? b = some o → b ∉ frs outer → ∃ o', B.get? b = some o'
abbrev CXs (P : Program) (w : World) : CXT := fun outer H s E e s' => ∃ ea C od t H', e = .ref ea ∧ FlyS P w outer H s C od t H' ea s' ∧ E (.ref C) od H'
section
variable {X : Cx} {pins : List (Addr × Obj)} {σ : St} {H H' : Hp} {s s' : Shared} {ea C t : Addr} {od : Option Addr} {M : Model} {E : Value → Shared → Prop}
theorem fly_madeS (I : Inv X pins σ H s) (hstk : X.stack = X.env :: X.outer) (hfl : X.env.frame = some X.env.locals) (hex : X.ex = []) (hx : H ea = some (excX ea C od t)) (hnew : X.H₀ ea = none) :
    wpAny M X.A (leaving X.env (.ref ea)) (fun _ s'' => FlyS X.prog X.w X.outer X.H₀ X.s₀ C od t (drop H ea) ea s'') E s := by
  have fr := frs_stack hstk hfl
  have he := excX_at I hx
  have fl : s.heap.FunFrames (PySem.W.hideAll s.heap (ea :: frs X.stack)) (X.env :: X.outer) := by
    have := I.stack
    rw [hstk] at this
    refine PySem.W.funFrames_hide this fun env he b hb => ?_
    rw [hstk]
    exact List.mem_cons_of_mem _ (List.mem_filterMap.mpr ⟨env, he, hb⟩)
  have fr0 := I.ok.frames
  rw [hstk] at fr0
  have neL : ∀ b o, X.s₀.heap.get? b = some o → b ≠ X.env.locals := fun b o e => Nat.ne_of_lt (Nat.lt_of_lt_of_le (Heap.lt_size e) I.ok.above)
  have noEx : ∀ b : Addr, b ∉ X.ex := fun b => by rw [hex]; simp
  have inB : ∀ b o, s.heap.get? b = some o → b ≠ ea → b ∉ frs X.stack → (PySem.W.hideAll s.heap (ea :: frs X.stack)).get? b = some o := fun b o e n1 n => PySem.W.hideAll_get _ e (fun z => (List.mem_cons.mp z).elim n1 n)
  have trB : ∀ b u, H b = some u → b ∉ frs X.stack := fun b u e n => by rw [I.stkFree b n] at e; cases e
  have eaS : ∀ u, X.s₀.heap.get? ea = some u → False := fun u e => by
    have := I.base.free ea u e hnew (noEx ea)
    rw [hx] at this; cases this
  unfold leaving
  refine wpAny_bind (noteS fr0 fl hfl (fun b o q => PySem.W.of_hideAll _ q) (PySem.W.hideAll_none _ List.mem_cons_self) (.inl he) fun h2 x1 x2 x3 x4 => ?_)
  have stay : ∀ b o, s.heap.get? b = some o → b ≠ ea → b ∉ frs X.stack → h2.get? b = some o := fun b o e n1 n => x1 b o (inB b o e n1 n)
  have x2' : h2.FunFrames (PySem.W.hideAll s.heap (ea :: frs X.stack)) X.outer := by
    unfold Heap.FunFrames at x2
    exact x2.2.2
  have nEa : ∀ b o, X.s₀.heap.get? b = some o → b ≠ ea := fun b o e z => by subst z; exact eaS o e
  refine ⟨I.os, I.bare, ⟨fun b o e n hb _ => ?_, fun b o e n hb _ => ?_, fun b o e n _ => ?_, fun b o e _ => ?_, fun b xs e => ?_, fun b u v e => ?_, fun b ps e => ?_⟩, ?_, drop_same, ?_⟩
  · refine stay b o (I.base.keep b o e n hb (noEx b)) (nEa b o e) ?_
    rw [fr]
    exact fun z => (List.mem_cons.mp z).elim (neL b o e) hb
  · obtain ⟨sl, e1⟩ := I.base.slot b o e n hb (noEx b)
    obtain ⟨_, o', ho', hd⟩ := I.funs.mem hb
    rw [e1] at ho'
    cases ho'
    obtain ⟨sl2, e2⟩ := x4 b _ e1 hd
    exact ⟨sl2, e2⟩
  · rw [drop_ne (nEa b o e)]
    exact I.base.free b o e n (noEx b)
  · obtain ⟨o1, e1⟩ := I.base.there b o e (noEx b)
    by_cases hb : b ∈ frs X.stack
    · obtain ⟨_, o', ho', hd⟩ := I.stack.mem hb
      obtain ⟨sl2, e2⟩ := x4 b o' ho' hd
      exact ⟨_, e2⟩
    · exact ⟨o1, stay b o1 e1 (nEa b o e) hb⟩
  · have e1 := I.base.tups b xs e
    rw [drop_ne (fun z => by rw [z, hx] at e1; cases e1)]; exact e1
  · have e1 := I.base.frzs b u v e
    rw [drop_ne (fun z => by rw [z, hx] at e1; cases e1)]; exact e1
  · obtain ⟨more, e1⟩ := I.base.tbls b ps e
    exact ⟨more, by rw [drop_ne (fun z => by rw [z, hx] at e1; cases e1)]; exact e1⟩
  · exact (I.hok.drop hx).sameAt fun b u o e q => stay b o q (drop_some e).1 (trB b u (drop_some e).2)
  · refine ⟨_, ⟨x1, PySem.W.hideAll_none _ List.mem_cons_self, x2', x3⟩, fun b u e => ?_, fun b o e n hb => ?_, fun b o e hb => ?_⟩
    · obtain ⟨n1, e⟩ := drop_some e
      obtain ⟨o, q⟩ := I.hok.rec e
      exact ⟨o, inB b o q n1 (trB b u e)⟩
    · refine inB b o (I.base.keep b o e n hb (noEx b)) (nEa b o e) ?_
      rw [fr]
      exact fun z => (List.mem_cons.mp z).elim (neL b o e) hb
    · obtain ⟨o1, e1⟩ := I.base.there b o e (noEx b)
      refine ⟨o1, inB b o1 e1 (nEa b o e) ?_⟩
      rw [fr]
      exact fun z => (List.mem_cons.mp z).elim (neL b o e) hb
/-- an exception of a callee leaves the frame -/
theorem fly_onS (I : Inv X pins σ H s) (hstk : X.stack = X.env :: X.outer) (hfl : X.env.frame = some X.env.locals) (hex : X.ex = []) (F : FlyS X.prog X.w X.stack H s C od t H' ea s') :
    wpAny M X.A (leaving X.env (.ref ea)) (fun _ s'' => FlyS X.prog X.w X.outer X.H₀ X.s₀ C od t H' ea s'') E s' := by
  have fr := frs_stack hstk hfl
  have fr0 := I.ok.frames
  rw [hstk] at fr0
  obtain ⟨B, fl, tr, old, olds⟩ := F.fly
  have neL : ∀ b o, X.s₀.heap.get? b = some o → b ≠ X.env.locals := fun b o e => Nat.ne_of_lt (Nat.lt_of_lt_of_le (Heap.lt_size e) I.ok.above)
  have noEx : ∀ b : Addr, b ∉ X.ex := fun b => by rw [hex]; simp
  have nst : ∀ b o, X.s₀.heap.get? b = some o → b ∉ frs X.outer → b ∉ frs X.stack := fun b o e hb => by
    rw [fr]
    exact fun z => (List.mem_cons.mp z).elim (neL b o e) hb
  have fl' := fl
  rw [hstk] at fl'
  unfold leaving
  refine wpAny_bind (noteS fr0 fl'.2.2.1 hfl fl'.1 fl'.2.1 (.inr fl'.2.2.2) fun h2 y1 y2 y3 x2 => ?_)
  have x1 : FlS B X.outer ea C od t h2 := ⟨y1, fl'.2.1, (by unfold Heap.FunFrames at y2; exact y2.2.2), y3⟩
  have oldB : ∀ b o, X.s₀.heap.get? b = some o → X.H₀ b = none → b ∉ frs X.outer → B.get? b = some o := fun b o e n hb =>
    old b o (I.base.keep b o e n hb (noEx b)) (I.base.free b o e n (noEx b)) (nst b o e hb)
  refine ⟨F.os.trans I.os, F.bare, ⟨fun b o e n hb _ => x1.1 b o (oldB b o e n hb), fun b o e n hb _ => ?_, fun b o e n _ => ?_, fun b o e _ => ?_, fun b xs e => F.un.tups b xs (I.base.tups b xs e), fun b o u e => F.un.frzs b o u (I.base.frzs b o u e), fun b ps e => ?_⟩, F.hok.sameAt fun b u o e q => ?_, F.nt, ⟨B, x1, tr, oldB, fun b o e hb => ?_⟩⟩
  · obtain ⟨sl, e1⟩ := I.base.slot b o e n hb (noEx b)
    obtain ⟨sl1, e2⟩ := F.un.any e1 (I.base.free b o e n (noEx b)) (by simp)
    have hd : ∀ vs, o.data ≠ .fields vs := by
      obtain ⟨_, o', ho', hd⟩ := I.funs.mem hb
      rw [e1] at ho'
      cases ho'
      exact hd
    obtain ⟨sl2, e3⟩ := x2 b _ e2 hd
    exact ⟨sl2, e3⟩
  · obtain ⟨o', e1⟩ := I.base.there b o e (noEx b)
    exact F.un.free b o' e1 (I.base.free b o e n (noEx b)) (by simp)
  · obtain ⟨o1, e1⟩ := I.base.there b o e (noEx b)
    obtain ⟨o2, e2⟩ := F.un.there b o1 e1 (by simp)
    by_cases hb : b ∈ frs X.stack
    · obtain ⟨_, o', ho', hd⟩ := fl.2.2.1.mem hb
      obtain ⟨sl2, e3⟩ := x2 b o' ho' hd
      exact ⟨_, e3⟩
    · obtain ⟨o3, e3⟩ := olds b o1 e1 hb
      exact ⟨o3, x1.1 b o3 e3⟩
  · obtain ⟨m1, e1⟩ := I.base.tbls b ps e
    obtain ⟨m2, e2⟩ := F.un.tbls b _ e1
    exact ⟨m1 ++ m2, by rw [e2, Array.append_assoc]⟩
  · obtain ⟨o3, e3⟩ := tr b u e
    have e4 := fl.1 b o3 e3
    rw [q] at e4
    cases e4
    exact x1.1 b o e3
  · obtain ⟨o1, e1⟩ := I.base.there b o e (noEx b)
    exact olds b o1 e1 (nst b o e hb)
end
end L2

set_option Elab.async false
set_option linter.all false
set_option maxRecDepth 100000
set_option maxHeartbeats 4000000
namespace L2
open PySem PySem.Spec PyProof.Rows
/-- a caught exception, its object known -/
abbrev excC (ea C : Addr) (od : Option Addr) (t : Addr) : HO := .ext fun h => ∃ tb, h.get? ea = some (excF C od t tb)
theorem excC_ok {P : Program} {w : World} {H : Hp} {h : Heap} {ea C t : Addr} {od : Option Addr} {tb : Value} (e : h.get? ea = some (excF C od t tb)) : ObjOk P w H h ea (excC ea C od t) :=
  ⟨⟨tb, e⟩, ⟨_, e⟩, fun g1 g2 ⟨tb', q⟩ k => ⟨tb', k _ q⟩⟩
section
variable {X : Cx} {pins : List (Addr × Obj)} {σ : St} {H H' : Hp} {s s' : Shared} {ea C t : Addr} {od : Option Addr} {M : Model} {A : Around} {E : Value → Shared → Prop} {h5 : Heap}
theorem FlyS.move {P : Program} {w : World} {l : List Env} {B : Heap} (F : FlyS P w l H s C od t H' ea s') (fl : FlS B l ea C od t s'.heap) (tr : ∀ b u, H' b = some u → ∃ o, B.get? b = some o)
    (old : ∀ b o, s.heap.get? b = some o → H b = none → b ∉ frs l → B.get? b = some o) (olds : ∀ b o, s.heap.get? b = some o → b ∉ frs l → ∃ o', B.get? b = some o')
    (fl5 : FlS B l ea C od t h5) (up : s'.heap.UpToSlots h5) : FlyS P w l H s C od t H' ea { s' with heap := h5 } := by
  refine ⟨F.os, F.bare, ⟨fun b o e n hb _ => fl5.1 b o (old b o e n hb), fun b o e n hb _ => ?_, F.un.free, fun b o e _ => ?_, F.un.tups, F.un.frzs, F.un.tbls⟩, F.hok.sameAt fun b u o e q => ?_, F.nt, ⟨B, fl5, tr, old, olds⟩⟩
  · obtain ⟨sl, e1⟩ := F.un.slot b o e n hb (by simp)
    obtain ⟨_, o', ho', hd⟩ := fl.2.2.1.mem hb
    rw [e1] at ho'
    cases ho'
    obtain ⟨sl2, e2⟩ := up b _ e1 hd
    exact ⟨sl2, e2⟩
  · by_cases hb : b ∈ frs l
    · obtain ⟨_, o', ho', hd⟩ := fl5.2.2.1.mem hb
      exact ⟨o', ho'⟩
    · obtain ⟨o3, e3⟩ := olds b o e hb
      exact ⟨o3, fl5.1 b o3 e3⟩
  · obtain ⟨o3, e3⟩ := tr b u e
    have e4 := fl.1 b o3 e3
    rw [q] at e4
    cases e4
    exact fl5.1 b o e3
theorem landS {B : Heap} {l : List Env} {Q : Unit → Shared → Prop} (fl : FlS B l ea C od t s.heap) (q : ∀ h' : Heap, FlS B l ea C od t h' → s.heap.UpToSlots h' → Q () { s with heap := h' }) : wpAny M A (setFlight (.ref ea) none) Q E s := by
  obtain ⟨f1, f2, f3, tb, oT, ts, h1, h2, h3, h4, h5, h6⟩ := fl
  unfold setFlight
  refine wpAny_bind (wpAny_field (x := .ref tb) h1 rfl rfl ?_)
  rw [if_pos (show (Value.ref tb != Value.none) = true from rfl)]
  have l3 : 3 < ts.size := (Array.getElem?_eq_some_iff.mp h6).1
  refine wpAny_setField h4 h5 l3 ?_
  show Q () { s with heap := s.heap.update tb (Obj.mapFields fun x => x.setIfInBounds 3 Value.none) }
  have z1 : ∀ b, b ≠ tb → (s.heap.update tb (Obj.mapFields fun x => x.setIfInBounds 3 Value.none)).get? b = s.heap.get? b := fun b hb' => Heap.get?_update_ne _ _ _ _ hb'
  have up : s.heap.UpToSlots (s.heap.update tb (Obj.mapFields fun x => x.setIfInBounds 3 Value.none)) := fun b o hbo hd => by
    have n : b ≠ tb := fun z => by rw [z, h4] at hbo; cases hbo; exact hd _ h5
    exact ⟨o.slots, by rw [z1 b n]; exact hbo⟩
  obtain ⟨oc, odd, da, osl⟩ := oT
  have h5' : da = .fields ts := h5
  subst h5'
  have z2 : (s.heap.update tb (Obj.mapFields fun x => x.setIfInBounds 3 Value.none)).get? tb = some ⟨oc, odd, .fields (ts.setIfInBounds 3 .none), osl⟩ := Heap.get?_update_self _ h4 rfl
  refine q _ ⟨fun b o hbo => ?_, f2, f3.of_keeps fun b o hbo hd => ?_, tb, _, _, (by rw [z1 ea (Ne.symm h3)]; exact h1), h2, h3, z2, rfl, ?_⟩ up
  · have n : b ≠ tb := fun z => by rw [z, h2] at hbo; cases hbo
    rw [z1 b n]
    exact f1 b o hbo
  · obtain ⟨sl, hs⟩ := up b o hbo hd
    exact ⟨_, hs, rfl⟩
  · rw [Array.getElem?_setIfInBounds_self_of_lt l3]
theorem FlyS.track {B : Heap} (I : Inv X pins σ H s) (F : FlyS X.prog X.w X.stack H s C od t H' ea s') (fl : FlS B X.stack ea C od t s'.heap) (old : ∀ b o, s.heap.get? b = some o → H b = none → b ∉ frs X.stack → B.get? b = some o) :
    Inv X pins σ (upd H' ea (excC ea C od t)) s' := by
  have I1 : Inv X pins σ H' s' := I.call' F.os F.un F.hok F.bare fun b z => nomatch z
  obtain ⟨tb, oT, ts, he, _⟩ := fl.2.2.2
  have nfr : ea ∉ frs X.stack := fun z => by
    obtain ⟨_, o', ho', hd'⟩ := fl.2.2.1.mem z
    rw [he] at ho'
    cases ho'
    exact hd' _ rfl
  have nold : ∀ b o, s.heap.get? b = some o → H b = none → b ≠ ea := fun b o e n z => by
    subst z
    have := old b o e n nfr
    rw [fl.2.1] at this
    cases this
  refine I1.track F.nt (excC_ok he) (fun u e n hx => ?_) (fun z => ?_) (fun x c e z => ?_) fun p hp => ?_
  · by_cases hb : ea ∈ X.fs
    · obtain ⟨_, o', ho', hd'⟩ := I1.funs.mem hb
      rw [he] at ho'
      cases ho'
      exact hd' _ rfl
    · exact nold ea u (I.base.keep ea u e n hb hx) (I.base.free ea u e n hx) rfl
  · obtain ⟨m, ⟨oL, es, ep, hoL, hdL, _⟩, _⟩ := I1.loc
    rw [z, he] at hoL
    cases hoL
    cases hdL
  · obtain ⟨v, oc, hoc, hdc⟩ := I1.cell x c e
    rw [z, he] at hoc
    cases hoc
    cases hdc
  · obtain ⟨q1, q2, _⟩ := I.pin p hp
    exact nold p.1 p.2 q1 q2
end
/-! ### raising, passing, defs -/
def RaisesS (X : Cx) (E : XK) : Prop := ∀ (pins : List (Addr × Obj)) (σ : St) (H : Hp) (s : Shared) (ea C : Addr) (od : Option Addr) (t : Addr), Inv X pins σ H s → H ea = some (excX ea C od t) → X.H₀ ea = none → E (.ref C) od (drop H ea) → X.xe (.ref ea) s
def tRaiseS (K : PySem.W.Frag) (H0 : Hp) (E : XK) (te : TE) : TS := fun _ σ H => te σ H fun x H1 => ∃ (ea C : Addr) (od : Option Addr) (t : Addr), x = .ref ea ∧ H1 ea = some (excX ea C od t) ∧ ExcCls K C ∧ xmIn K C = true ∧ H0 ea = none ∧ E (.ref C) od (drop H1 ea)
section
variable {X : Cx} {E : XK} {pos : Pos} {e : Expr} {te : TE}
theorem ps_raiseS (hX : RaisesS X E) (hc : X.calm = true) (he : PE X e te) : PS X (.Raise (some e) none pos) (tRaiseS X.K X.H₀ E te) := by
  refine ⟨?_⟩
  intro pins s σ H D I h
  rw [arm_exec_Raise]
  refine wpAny_bind (wpAny_standAt ?_)
  unfold raiseStmt
  show wpAny _ _ (do
    let xv ← (do
      let v ← eval e X.env
      standAt pos
      pure v)
    _) _ _ _
  refine wpAny_bind (wpAny_bind (thn (he pins s σ H _ I h) fun u s1 ⟨x, H1, I1, rx, ea, C, od, t, ex, hx, c, m, hn, q⟩ => ?_))
  subst ex
  obtain rfl : u = Value.ref ea := rx
  refine wpAny_bind (wpAny_standAt (wpAny_pure ?_))
  have ho := excX_at I1 hx
  have XO := xobj_of I1.kIn m
  obtain ⟨nm, q', N, bs, bm, sn, sub, ab, col, dd, k0, k1, k2, k3, k5, hC, b1, b2, b3, b4⟩ := XO.ob
  have hq : X.xe (.ref ea) s1 := hX pins σ H1 s1 ea C od t I1 hx hn q
  have LT : PySem.W.Looks (model X.prog X.w) s1.heap (typeOf (.ref ea)) (.ref C) := (PySem.W.Looks.ld ho).andThen .now
  have LTC : PySem.W.Looks (model X.prog X.w) s1.heap (typeOf (.ref C)) (.type "type") := (PySem.W.Looks.ld hC).andThen .now
  have LB := PySem.W.looks_mroIn (M := model X.prog X.w) I1.kIn c.be
  have LIs : PySem.W.Looks (model X.prog X.w) s1.heap (isType (.ref ea)) false := (PySem.W.Looks.ld ho).andThen .now
  have hcalm := I1.ok.hd hc
  obtain ⟨hh, g, d, tk, os⟩ := s1
  dsimp only
  refine wpAny_bind (wpAny_pure (wpAny_bind (wpAny_holding ?_)))
  unfold excFromValue isExcClass
  refine wpAny_bind (wpAny_bind (LIs.at ?_))
  rw [if_neg Bool.false_ne_true]
  refine wpAny_pure ?_
  rw [if_neg Bool.false_ne_true]
  unfold isInstance
  refine wpAny_bind (wpAny_bind (LT.at (LB.at ?_)))
  rw [if_pos rfl]
  refine wpAny_pure ?_
  dsimp only
  refine wpAny_bind (LIs.at ?_)
  rw [if_neg Bool.false_ne_true]
  unfold raisedInstance
  refine wpAny_bind (wpAny_bind (LT.at (wpAny_bind (LTC.at ?_))))
  rw [if_pos (by decide)]
  refine wpAny_pure (wpAny_bind ?_)
  unfold setFlight
  refine wpAny_bind (wpAny_field (x := Value.none) ho rfl rfl ?_)
  rw [if_neg (show ¬ (Value.none != Value.none) = true by decide)]
  refine wpAny_pure ?_
  unfold raiseNew
  refine wpAny_bind (wpAny_handled_none hcalm ?_)
  exact wpAny_throw hq
end
section
variable {P : Program} {w : World} {K : PySem.W.Frag} {mg : Str → Option Value} {base : Heap} {N : List Str} {qual : Str} {scope : Scope} {f : Addr} {cd : Value} {A : Around} {outer : List Env} {s : Shared} {H : Hp} {E E' : XK}
theorem raisesS_cx : RaisesS (cxOf (CXs P w) P w K mg base N qual scope f cd A outer s H E) E := fun pins σ H1 s1 ea C od t I hx hn q => by
  refine wpAny_mono (fly_madeS I rfl rfl rfl hx hn) (fun _ s2 F => ?_) fun _ _ z => z
  exact ⟨ea, _, _, _, _, rfl, F, q⟩
theorem passS (hE : ∀ c d H, E' c d H → E c d H) : Passes (CXs P w) (cxOf (CXs P w) P w K mg base N qual scope f cd A outer s H E) E' := fun pins σ H1 s1 e s' I q => by
  obtain ⟨ea, C, od, t, H', rfl, F, q⟩ := q
  refine wpAny_mono (fly_onS I rfl rfl rfl F) (fun _ s2 F2 => ?_) fun _ _ z => z
  exact ⟨ea, C, od, t, H', rfl, F2, hE _ _ _ q⟩
theorem Fun.okS {x : Str} {st : Stmt} {fd : FuncData} {ps : List Str} {k : Nat} {sp : Sp} (F : Fun K x qual st f fd) (S : FnScope N ps (defScope st)) (len : ∀ vs H Q E, sp vs H Q E → vs.length = ps.length)
    (hbody : ∀ (cdv : Value) (A : Around) (outer : List Env) (s : Shared) (H : Hp) (vs : List V) (Q : VK) (E : XK), Room k (A.deeper (envOfC qual (defScope st) s.heap.objs.size f cdv)) → sp vs H Q E →
      ∃ t, PSs (cxOf (CXs P w) P w K mg base N qual (defScope st) f cdv A outer s H E) (defBody st) t ∧ t { nx := fun _ H' => Q .non H', rt := Q } (start N vs) H) : FnOk P w K mg base (CXs P w) (k + 1) f fd ps sp := by
  obtain ⟨oc, od, kV, doc, pm, an, cdv, ct, osl, rfl, lk, hcd⟩ := F.ex
  exact fn_of lk hcd S len fun A outer s H vs Q E hr hsp => hbody cdv A outer s H vs Q E hr hsp
end
structure CalleeS (P : Program) (w : World) (K : PySem.W.Frag) (mg : Str → Option Value) (base : Heap) (k : Nat) (x : Str) (f : Addr) (fd : FuncData) (ps : List Str) (sp : Sp) : Prop where
  ok : FnOk P w K mg base (CXs P w) k f fd ps sp
  mg : mg x = some (.ref f)
  kp : PySem.W.keepIn K (.ref f) = true
  bd : Binds K fd ps []
section
variable {X : Cx} {k : Nat} {f : Addr} {fd : FuncData} {ps : List Str} {sp : Sp} {E : XK} {x : Str} {p pos : Pos} {e : Expr} {es : List Expr} {t : TA}
theorem cS (c : CalleeS X.prog X.w X.K X.mg X.base k x f fd ps sp) (hp : Passes (CXs X.prog X.w) X E) (hr : Room k X.A) (ha : PA X (e :: es) t) (hg : Gl X x := by rfl) (hdb : (x == ("__debug__" : Str)) = false := by decide)
    (h1 : isSt e = false := by rfl) (h2 : es.any isSt = false := by rfl) : PE X (.Call (.Name x p) (e :: es) [] pos) (tCall sp [] E t) :=
  pe_call c.ok hr hg c.mg c.kp c.bd .nil hp ha hdb (star_cons h1) (star_any h2)
end
end L2

set_option Elab.async false
set_option linter.all false
set_option maxRecDepth 100000
set_option maxHeartbeats 4000000
namespace L2
open PySem PySem.Spec PyProof.Rows
/-! ### except clauses, one after the other -/
abbrev HK := Addr → Option Addr → Addr → Addr → Ends → St → Hp → Prop
structure PH (X : Cx) (hs : List ExceptHandler) (th : HK) : Prop where
  run : ∀ (pins : List (Addr × Obj)) (σ : St) (H1 : Hp) (s1 : Shared) (H' : Hp) (ea C : Addr) (od : Option Addr) (t : Addr) (s5 : Shared) (D : Ends), Inv X pins σ H1 s1 → FlyS X.prog X.w X.stack H1 s1 C od t H' ea s5 → th C od t ea D σ H' → wpAny (model X.prog X.w) X.A (handleBy (.ref ea) X.env hs) (SP X pins D) X.xe s5
/-- except C' as n: the exception is of that class, or it goes on -/
def hAs (K : PySem.W.Frag) (C' : Addr) (i : Nat) (ts : TS) (rest : HK) : HK := fun C od t ea D σ H' =>
  (PySem.W.exmOne K (.ref C) (.ref C') = some true ∧ ts (endsN D i) (σ.set i (some (.ref ea))) (upd H' ea (excC ea C od t))) ∨ (PySem.W.exmOne K (.ref C) (.ref C') = some false ∧ rest C od t ea D σ H')
def hNo (K : PySem.W.Frag) (C' : Addr) (ts : TS) (rest : HK) : HK := fun C od t ea D σ H' =>
  (PySem.W.exmOne K (.ref C) (.ref C') = some true ∧ ts D σ (upd H' ea (excC ea C od t))) ∨ (PySem.W.exmOne K (.ref C) (.ref C') = some false ∧ rest C od t ea D σ H')
section
variable {X : Cx} {hs : List ExceptHandler} {th : HK} {c n : Str} {C' : Addr} {i : Nat} {ts : TS} {b₀ : Stmt} {suite : List Stmt} {np hpos : Pos}
theorem ph_nil : PH X [] (fun _ _ _ _ _ _ _ => False) := ⟨fun _ _ _ _ _ _ _ _ _ _ _ _ _ h => h.elim⟩
theorem ph_as (hN : X.N.Nodup) (hi : X.N[i]? = some n) (hk : X.env.scope.names.lookup n = some .local) (hg : Gl X c) (hm : X.mg c = some (.ref C')) (hs' : ∀ ea, PSs (X.suite ea) (b₀ :: suite) ts) (hr : PH X hs th)
    (hd : (c == ("__debug__" : Str)) = false := by decide) : PH X (.ExceptHandler (some (.Name c np)) (some n) (b₀ :: suite) hpos :: hs) (hAs X.K C' i ts th) := by
  refine ⟨fun pins σ H1 s1 H' ea C od t s5 D I1 F5 h => ?_⟩
  obtain ⟨B, fl, tr, old, olds⟩ := F5.fly
  have I5 : Inv X pins σ H' s5 := I1.call' F5.os F5.un F5.hok F5.bare fun b z => nomatch z
  have LT : PySem.W.Looks (model X.prog X.w) s5.heap (typeOf (.ref ea)) (.ref C) := by
    obtain ⟨tb, oT, ts', he, _⟩ := fl.2.2.2
    exact (PySem.W.Looks.ld he).andThen .now
  refine wpAny_handleBy_cons (codeAny_handlers_test (ld_glob (I5.suite ea) hg hm ?_ hd)) (by intro z; cases z)
  rcases h with ⟨hx, h⟩ | ⟨hx, h⟩
  · refine (PySem.W.exm_one (M := model X.prog X.w) (h := s5.heap) I5.kIn LT hx) _ _ _ _ (fun _ _ z => z) ?_
    refine codeAny_handlers_suite_as (landS fl fun h6 fl6 up6 => ?_)
    have F6 := F5.move fl tr old olds fl6 up6
    have I6 := F6.track I1 fl6 old
    refine store_ok (v := .ref ea) I6 hN hi (.inl hk) rfl (fun s7 I7 => ?_) (.inr hk)
    refine wpAny_mono ((hs' ea) pins s7 _ _ (endsN D i) (I7.suite ea) h) (fun f s8 h8 => ?_) fun _ _ z => z.elim
    show wpAny (model X.prog X.w) X.A (do bindName X.env n .none; unbindBehindTheSuite X.env n hpos) (fun _ s9 => SP X pins D f s9) X.xe s8
    cases f with
    | next =>
      obtain ⟨σ', H2, I8, q8⟩ := h8
      exact name_goes (Inv.unsuite I1.ok I8) hN hi hk fun s9 I9 => ⟨_, H2, I9, q8⟩
    | brk =>
      obtain ⟨σ', H2, I8, q8⟩ := h8
      exact name_goes (Inv.unsuite I1.ok I8) hN hi hk fun s9 I9 => ⟨_, H2, I9, q8⟩
    | cont =>
      obtain ⟨σ', H2, I8, q8⟩ := h8
      exact name_goes (Inv.unsuite I1.ok I8) hN hi hk fun s9 I9 => ⟨_, H2, I9, q8⟩
    | ret u =>
      obtain ⟨v, σ', H2, I8, rv, q8⟩ := h8
      exact name_goes (Inv.unsuite I1.ok I8) hN hi hk fun s9 I9 => ⟨v, _, H2, I9, rv, q8⟩
  · refine (PySem.W.exm_one (M := model X.prog X.w) (h := s5.heap) I5.kIn LT hx) _ _ _ _ (fun _ _ z => z) ?_
    exact hr.run pins σ H1 s1 H' ea C od t s5 D I1 F5 h
theorem ph_no (hg : Gl X c) (hm : X.mg c = some (.ref C')) (hs' : ∀ ea, PSs (X.suite ea) (b₀ :: suite) ts) (hr : PH X hs th)
    (hd : (c == ("__debug__" : Str)) = false := by decide) : PH X (.ExceptHandler (some (.Name c np)) none (b₀ :: suite) hpos :: hs) (hNo X.K C' ts th) := by
  refine ⟨fun pins σ H1 s1 H' ea C od t s5 D I1 F5 h => ?_⟩
  obtain ⟨B, fl, tr, old, olds⟩ := F5.fly
  have I5 : Inv X pins σ H' s5 := I1.call' F5.os F5.un F5.hok F5.bare fun b z => nomatch z
  have LT : PySem.W.Looks (model X.prog X.w) s5.heap (typeOf (.ref ea)) (.ref C) := by
    obtain ⟨tb, oT, ts', he, _⟩ := fl.2.2.2
    exact (PySem.W.Looks.ld he).andThen .now
  refine wpAny_handleBy_cons (codeAny_handlers_test (ld_glob (I5.suite ea) hg hm ?_ hd)) (by intro z; cases z)
  rcases h with ⟨hx, h⟩ | ⟨hx, h⟩
  · refine (PySem.W.exm_one (M := model X.prog X.w) (h := s5.heap) I5.kIn LT hx) _ _ _ _ (fun _ _ z => z) ?_
    refine codeAny_handlers_suite (landS fl fun h6 fl6 up6 => ?_)
    have F6 := F5.move fl tr old olds fl6 up6
    have I6 := F6.track I1 fl6 old
    refine wpAny_mono ((hs' ea) pins _ _ _ D (I6.suite ea) h) (fun f s8 h8 => ?_) fun _ _ z => z.elim
    show SP X pins D f s8
    cases f with
    | next =>
      obtain ⟨σ', H2, I8, q8⟩ := h8
      exact ⟨_, H2, Inv.unsuite I1.ok I8, q8⟩
    | brk =>
      obtain ⟨σ', H2, I8, q8⟩ := h8
      exact ⟨_, H2, Inv.unsuite I1.ok I8, q8⟩
    | cont =>
      obtain ⟨σ', H2, I8, q8⟩ := h8
      exact ⟨_, H2, Inv.unsuite I1.ok I8, q8⟩
    | ret u =>
      obtain ⟨v, σ', H2, I8, rv, q8⟩ := h8
      exact ⟨v, _, H2, Inv.unsuite I1.ok I8, rv, q8⟩
  · refine (PySem.W.exm_one (M := model X.prog X.w) (h := s5.heap) I5.kIn LT hx) _ _ _ _ (fun _ _ z => z) ?_
    exact hr.run pins σ H1 s1 H' ea C od t s5 D I1 F5 h
end
/-! ### try, with such clauses -/
def Passes2 (X : Cx) (pins : List (Addr × Obj)) (σ : St) (E : XK) : Prop := ∀ (H : Hp) (s : Shared) (e : Value) (s' : Shared), Inv X pins σ H s → CXs X.prog X.w X.stack H s E e s' → X.xe e s'
def tTryS (tb : XK → TS) (th : HK) : TS := fun D σ H => tb (fun cls od H' => ∃ C, cls = .ref C ∧ ∀ t ea, H' ea = none → th C od t ea D σ H') D σ H
section
variable {X : Cx} {st : Stmt} {h₀ : ExceptHandler} {hs : List ExceptHandler} {pos : Pos} {tb : XK → TS} {th : HK}
theorem ps_tryS (hstk : X.stack = X.env :: X.outer) (hfl : X.env.frame = some X.env.locals) (hh : PH X (h₀ :: hs) th)
    (hb : ∀ (pins : List (Addr × Obj)) (σ : St) (xe : Value → Shared → Prop) (E : XK), Passes2 (X.wish xe) pins σ E → PS1 (X.wish xe) pins σ st (tb E)) : PS X (.Try [st] (h₀ :: hs) [] [] pos) (tTryS tb th) := by
  refine ⟨?_⟩
  intro pins s σ H D I h
  have fr0 := I.ok.frames
  rw [hstk] at fr0
  refine wpAny_Try_except ?_
  have key : Passes2 (X.wish (tryXe X pins D (h₀ :: hs))) pins σ (fun cls od H' => ∃ C, cls = .ref C ∧ ∀ t ea, H' ea = none → th C od t ea D σ H') := by
    intro H1 s1 e s2 I1 q
    obtain ⟨ea, C, od, t, H', rfl, F, C0, e0, q⟩ := q
    cases e0
    have I1 := I1.unwish
    have F : FlyS X.prog X.w X.stack H1 s1 C od t H' ea s2 := F
    obtain ⟨B, fl, tr, old, olds⟩ := F.fly
    have fl' := fl
    rw [hstk] at fl'
    refine noteS fr0 fl'.2.2.1 hfl fl'.1 fl'.2.1 (.inr fl'.2.2.2) fun h5 y1 y2 y3 y4 => ?_
    have fl5 : FlS B X.stack ea C od t h5 := by rw [hstk]; exact ⟨y1, fl'.2.1, y2, y3⟩
    have F5 := F.move fl tr old olds fl5 y4
    exact hh.run pins σ H1 s1 H' ea C od t _ D I1 F5 (q t ea F.nt)
  have run := (hb pins σ _ _ key).run s H D (I.wish _) h
  refine wpAny_execs_cons (thn run fun f s1 q => ?_)
  · cases f with
    | next => exact wpAny_execs_nil (wpAny_execs_nil (SP.unwish (f := .next) q))
    | ret v => exact SP.unwish (f := .ret v) q
    | brk => exact SP.unwish (f := .brk) q
    | cont => exact SP.unwish (f := .cont) q
end
section
variable {X : Cx} {pins : List (Addr × Obj)} {σ : St} {e : Expr} {es : List Expr} {te : TE} {t : TA} {E : XK} {x m : Str} {p pos apos : Pos} {k : Nat} {f C : Addr} {fd : FuncData} {ps : List Str} {sp : Sp} {dvs : List V} {ds : List Value}
theorem p2_make (M : Mk X.K C f) (F : FnOk X.prog X.w X.K X.mg X.base (CXs X.prog X.w) k f fd ps sp) (hr : Room (k + 1) X.A) (hg : Gl X x) (hm : X.mg x = some (.ref C)) (hb : Binds X.K fd ps ds) (hd : Vals dvs ds) (hp : Passes2 X pins σ E)
    (ha : PA X (e :: es) t) (hdb : (x == ("__debug__" : Str)) = false := by decide) (he : starEach (e :: es) X.env = (false, eval e X.env) :: starEach es X.env := by rfl) (hpl : (backTo pos (starEach es X.env)).any (·.1) = false := by rfl) :
    PE1 X pins σ (.Call (.Name x p) (e :: es) [] pos) (tMake C sp dvs E t) := by
  refine ⟨fun s H Q I h => ?_⟩
  refine wpAny_Call_Name_kw (ld_glob I hg hm ?_ hdb)
  refine PySem.W.callWith_K (h₀ := X.base) I.ok.mod.kin M.kp (thn (ha pos pins s σ H _ I h) fun us s1 ⟨vs, H1, I1, r, q⟩ => ⟨I1.kIn, ?_⟩) he hpl
  have hq := q (s1.heap.objs.size + 1) s1.heap.objs.size (I1.hok.fresh (Nat.le_succ _)) (I1.hok.fresh (Nat.le_refl _)) (Nat.ne_of_lt (Nat.lt_succ_self _))
  have I2 := Inv.made (C := C) I1
  have r2 : Vals (V.ref (s1.heap.objs.size + 1) :: (vs ++ dvs)) (Value.ref (s1.heap.objs.size + 1) :: (us ++ ds)) := .cons rfl (r.append hd)
  have hl : (Value.ref (s1.heap.objs.size + 1) :: us ++ ds).length = ps.length := by
    have e := r2.length
    rw [F.len _ _ _ _ hq] at e
    exact e.symm
  refine wpAny_call (make_map (f := f) I1.kIn M.makes M.init (beq_iff_eq.mp M.fn) (codeAny_mono (F.run _ X.stack _ _ ⟨Value.ref (s1.heap.objs.size + 1) :: us, []⟩ (Value.ref (s1.heap.objs.size + 1) :: (us ++ ds)) _ _ E (hr.make C us [])
    (I2.env0.make C us []) (hb _ (Value.ref (s1.heap.objs.size + 1) :: us) I2.kIn hl) r2 hq) fun r s' hq' => ?_))
  cases r with
  | error e => exact hp _ _ e s' I2 hq'
  | ok fl =>
    cases fl with
    | ret u =>
      obtain ⟨v, H', I3, rv, ev, q3⟩ := I2.after hq'
      subst ev
      exact ⟨rv, ⟨V.ref (s1.heap.objs.size + 1), H', I3, rfl, q3⟩⟩
    | next => exact False.elim hq'
    | brk => exact False.elim hq'
    | cont => exact False.elim hq'
end
/-! ### e.x, e a caught exception -/
section
variable {X : Cx} {pins : List (Addr × Obj)} {σ : St} {H : Hp} {s : Shared} {x C t : Addr} {f : Str} {A : Around} {E : Value → Shared → Prop}
theorem getC_ok {b : Bool} {dx : Addr} {fs : List (Str × V)} {v : V} {Q : Value → Shared → Prop} (I : Inv X pins σ H s) (e : H x = some (excC x C (some dx) t)) (ed : H dx = some (.xd fs)) (c : ExcCls X.K C) (m : XSet X.K C) (n : NoAttr X.K C f) (l : fs.lookup f = some v)
    (h : ∀ u s', Inv X pins σ H s' → RelV v u → Q u s') : wpAny (model X.prog X.w) A (getAttr (.ref x) f b) Q E s := by
  obtain ⟨tb, hx⟩ := (I.hok x _ e).1
  obtain ⟨mA, ns, r⟩ := I.hok dx _ ed
  obtain ⟨u, hu, ru⟩ := RelO.some_of (v := v) (o := mA f) (by rw [← l]; exact r f)
  exact get_exc c m I.kIn n hx rfl rfl rfl ns hu (handed_of ru) (h u _ (I.tok _) ru)
end
def tFldC (K : PySem.W.Frag) (ta : TE) (f : Str) : TE := fun σ H Q => ta σ H fun x H1 => ∃ (a C t dx : Addr) (fs : List (Str × V)) (v : V), x = .ref a ∧ H1 a = some (excC a C (some dx) t) ∧ H1 dx = some (.xd fs) ∧ ExcCls K C ∧ XSet K C ∧ NoAttr K C f ∧ fs.lookup f = some v ∧ Q v H1
section
variable {X : Cx} {e : Expr} {f : Str} {pos : Pos} {ta : TE}
theorem pe_fldC (he : PE X e ta) (hb : attributeBase e f X.env (eval e X.env) = eval e X.env) : PE X (.Attribute e f pos) (tFldC X.K ta f) := by
  refine ⟨?_⟩
  intro pins s σ H Q I h
  refine attr_of hb (thn (he pins s σ H _ I h) fun u s1 ⟨x, H1, I1, rx, a, C, t, dx, fs, v, ex, ea, ed, c, m, n, l, q⟩ => ?_)
  subst ex
  obtain rfl : u = Value.ref a := rx
  exact getC_ok I1 ea ed c m n l fun u' s2 I2 ru => ⟨v, H1, I2, ru, q⟩
end
end L2

set_option Elab.async false
set_option linter.all false
set_option maxRecDepth 100000
set_option maxHeartbeats 4000000
namespace L2
open PySem PySem.Spec PyProof.Rows PySem.Builtin
section
variable {prog : Program} {w : World} {A : Around} {E : Value → Shared → Prop} {s : Shared} {it ea C t : Addr} {od : Option Addr} {tb : Value} {x left step : Int} {Q : Option Value → Shared → Prop}
end
end L2

set_option Elab.async false
set_option linter.all false
set_option maxRecDepth 100000
set_option maxHeartbeats 4000000
namespace L2
open PySem PySem.Spec PyProof.Rows
/-! ### a list comprehension over a range, within an except suite -/
structure TurnH (ea : Addr) (P : Program) (w : World) (K : PySem.W.Frag) (tg : Expr) (J : It) (fp : List Addr) (it : Addr) (tn : Nat → Heap → Prop) : Prop where
  mem : it ∈ fp
  obj : ∀ i h, tn i h → ∀ b ∈ fp, ∃ o, h.get? b = some o ∧ ∀ v, o.data ≠ .cell v
  keep : ∀ i h h', tn i h → (∀ b ∈ fp, ∀ o, h.get? b = some o → h'.get? b = some o) → tn i h'
  item : ∀ (X : Cx), X.prog = P → X.w = w → X.K = K → X.A.handled = some (.ref ea) → ∀ (i : Nat) (pins : List (Addr × Obj)) (s : Shared) (σ : St) (H : Hp) (E : Value → Shared → Prop), Inv X pins σ H s → (∀ b ∈ fp, FpOk X pins H b) → tn i s.heap → J.go i H →
    wpAny (model P w) X.A (pyNext (.ref it)) (fun r s1 => ∃ u, r = some u ∧
      wpAny (model P w) X.A (letOwnedTupleGo tg (.ref it) u) (fun _ s2 => ∃ x H', Inv X pins σ H' s2 ∧ RelV x u ∧ J.yld i H x H' ∧ tn (i + 1) s2.heap ∧ ∀ b ∈ fp, H' b = none) E s1) E s
  done : ∀ (X : Cx), X.prog = P → X.w = w → X.K = K → X.A.handled = some (.ref ea) → ∀ (i : Nat) (pins : List (Addr × Obj)) (s : Shared) (σ : St) (H : Hp) (E : Value → Shared → Prop), Inv X pins σ H s → (∀ b ∈ fp, FpOk X pins H b) → tn i s.heap → J.stop i H →
    wpAny (model P w) X.A (pyNext (.ref it)) (fun r s1 => r = none ∧ Inv X pins σ H s1) E s
  self : ∀ (A : Around) (i : Nat) (s : Shared) (Q : Value → Shared → Prop) (E : Value → Shared → Prop), tn i s.heap → Q (.ref it) s → wpAny (model P w) A (pyIter (.ref it)) Q E s
def PIEH (X : Cx) (ea : Addr) (pins : List (Addr × Obj)) (σ : St) (tg : Expr) (R : It → Hp → Prop) (itv : Value) (s2 : Shared) : Prop :=
  ∃ (it : Addr) (fp : List Addr) (tn : Nat → Heap → Prop) (J : It) (H' : Hp), itv = .ref it ∧ Inv X pins σ H' s2 ∧ TurnH ea X.prog X.w X.K tg J fp it tn ∧ tn 0 s2.heap ∧ (∀ b ∈ fp, FpOk X pins H' b) ∧ R J H'
section
variable {X : Cx} {tg : Expr}
end
section
variable {X : Cx} {pins : List (Addr × Obj)} {σ : St} {s : Shared} {sc : Scope} {fr Nc : List Str} {caps : List (Option Nat)} {elt tg iter : Expr} {ifs : List Expr} {g : TG} {tt : TT} {te : TE} {ow : List Nat} {pos pos2 : Pos} {E : Value → Shared → Prop}
end
theorem FunD.okS {P : Program} {w : World} {K : PySem.W.Frag} {mg : Str → Option Value} {base : Heap} {x qual : Str} {st : Stmt} {f : Addr} {fd : FuncData} {items : List Value} {N ps : List Str} {k : Nat} {sp : Sp} (F : FunD K x qual st f fd items) (S : FnScope N ps (defScope st)) (len : ∀ vs H Q E, sp vs H Q E → vs.length = ps.length)
    (hbody : ∀ (cdv : Value) (A : Around) (outer : List Env) (s : Shared) (H : Hp) (vs : List V) (Q : VK) (E : XK), Room k (A.deeper (envOfC qual (defScope st) s.heap.objs.size f cdv)) → sp vs H Q E →
      ∃ t, PSs (cxOf (CXs P w) P w K mg base N qual (defScope st) f cdv A outer s H E) (defBody st) t ∧ t { nx := fun _ H' => Q .non H', rt := Q } (start N vs) H) : FnOk P w K mg base (CXs P w) (k + 1) f fd ps sp := by
  obtain ⟨oc, od, T, kV, doc, pm, an, cdv, ct, osl, o, n, rfl, lk, hcd, _, _⟩ := F.ex
  exact fn_of lk hcd S len fun A outer s H vs Q E hr hsp => hbody cdv A outer s H vs Q E hr hsp
section
variable {X : Cx} {hs : List ExceptHandler} {th : HK} {c n : Str} {C' : Addr} {i : Nat} {ts : TS} {b₀ : Stmt} {suite : List Stmt} {np hpos : Pos}
end
end L2

set_option Elab.async false
set_option linter.all false
set_option maxRecDepth 100000
set_option maxHeartbeats 4000000
namespace L2
open PySem PySem.Spec PyProof.Rows
section
variable {X : Cx}
/-! ### sep.join(xs) -/
theorem strs_are {ys : List Str} : ∀ {its : List Value}, Vals (ys.map V.str) its → StrsAre its ys := by
  induction ys with
  | nil => intro its h; cases h; exact .nil
  | cons y ys ih =>
    intro its h
    cases h with
    | cons r t =>
      obtain ⟨tk, rfl⟩ := r
      exact .cons _ _ (ih t)
def rJoin : V → List V → Hp → VK → Prop := fun x xs H Q => ∃ (z : Str) (a : Addr) (ys : List Str), x = .str z ∧ xs = [.ref a] ∧ H a = some (.lst (ys.map V.str)) ∧ z.length ≤ 16 ∧ (ys.map (·.length)).sum + ys.length ≤ 1048576 ∧ Q (.str (Txt.join z ys)) H
theorem mt_join : MtR X "str.join" rJoin := by
  intro pins s σ H x xs v us Q I rx r h
  obtain ⟨z, a, ys, rfl, rfl, ha, hz, hl, q⟩ := h
  obtain ⟨t, rfl⟩ := rx
  obtain ⟨u, rfl, ru⟩ := r.one
  cases ru
  obtain ⟨its, rv, pl, _⟩ := I.list (SqL.of ha)
  exact join_listW pl.isList (by simpa using strs_are rv) hz hl fun t' k => ⟨.str _, H, I.tok _, ⟨_, rfl⟩, q⟩
/-! ### xs.insert(i, y) -/
def rInsert : V → List V → Hp → VK → Prop := fun x vs H Q => ∃ (l : Addr) (xs : List V) (i : Nat) (y : V), x = .ref l ∧ vs = [.int (i : Nat), y] ∧ H l = some (.lst xs) ∧ i ≤ xs.length ∧ xs.length < 1000 ∧ Q .non (upd H l (.lst (xs.take i ++ y :: xs.drop i)))
theorem mt_insert : MtM X "list.insert" rInsert := by
  intro pins s σ H x vs v us Q I rx rv h
  obtain ⟨l, xs, i, y, rfl, rfl, hH, hi, hz, q⟩ := h
  cases rx
  obtain ⟨u1, u2, rfl, r1, r2⟩ := vals2 rv
  obtain ⟨tk, rfl⟩ := r1
  obtain ⟨z, its, n, r, hl, e⟩ := I.lstM hH
  have big : (1000 : Int) < 2 ^ 63 := by decide
  obtain ⟨x, hx⟩ : ∃ x : Int, x = ((i : Nat) : Int) := ⟨_, rfl⟩
  have hfit : ¬ (!Builtin.List.listFitsIndex x) = true := by
    rw [fitsIndex_both (Int.le_trans (by decide) (show 0 ≤ x by omega)) (Int.lt_trans (by omega) big)]
    exact Bool.false_ne_true
  have hsz : its.toArray.size ≤ sizeLine := by
    rw [List.size_toArray, ← hl]
    exact z
  have M := @PySem.AutoListH.list_insert_list_int_val_1 l its.toArray n x tk u2 hfit hsz
  rw [← hx]
  clear hfit
  refine call_meets F.slot_list_insert ⟨_, e, rfl⟩ F.entry_list_insert (F.args_list_insert_3 _ _ _) M ⟨e, ?_⟩
  refine ⟨.non, _, I.lset (its' := its.take i ++ u2 :: its.drop i) hH e ?_ ?_ ?_, rfl, q⟩
  · have e0 : (if x < 0 then (x + (its.toArray.size : Int)).toNat else min x.toNat its.toArray.size) = i := by
      rw [if_neg (by omega), List.size_toArray]
      omega
    show (let k := if x < 0 then (x + (its.toArray.size : Int)).toNat else min x.toNat its.toArray.size; (its.toArray.extract 0 k).push u2 ++ its.toArray.extract k) = (its.take i ++ u2 :: its.drop i).toArray
    rw [e0]
    apply Array.ext'
    simp [List.extract_eq_drop_take, List.take_of_length_le]
  · exact Vals.append (r.take i) (.cons r2 (r.drop i))
  · rw [List.length_append, List.length_cons, List.length_take, List.length_drop]
    exact Nat.le_of_lt (Nat.lt_of_le_of_lt (by omega : _ ≤ 1000) (by decide))
end
end L2

set_option Elab.async false
set_option linter.all false
set_option maxRecDepth 100000
set_option maxHeartbeats 4000000
namespace L2
open PySem PySem.Spec PyProof.Rows
section
variable {X : Cx}
/-- "q" * 6 -/
theorem op_q6 : OpR X (binaryOp .Mult) (fun x y H Q => x = .str "q" ∧ y = .int 6 ∧ Q (.str "qqqqqq") H) := by
  intro pins s σ H x y v u Q I rx ry h
  obtain ⟨rfl, rfl, q⟩ := h
  obtain ⟨t, rfl⟩ := rx
  obtain ⟨t', rfl⟩ := ry
  refine P.mul_str (by decide +kernel) (fun _ _ => by decide +kernel) (fun _ _ => by decide +kernel) ?_
  rw [if_neg (by decide), if_neg (by decide +kernel)]
  rw [show ({ cps := List.foldl (fun x1 x2 => x1 ++ x2) #[] (List.replicate (Int.toNat 6) (Str.cps (Str.ofString "q"))) } : Str) = Str.ofString "qqqqqq" by decide +kernel]
  exact ⟨by decide +kernel, .str "qqqqqq", H, I.tok _, ⟨_, rfl⟩, q⟩
end
end L2

set_option Elab.async false
set_option linter.all false
set_option maxRecDepth 100000
set_option maxHeartbeats 4000000
namespace K16
open PySem L2 PyProof.Rows
def top (i : Nat) : Stmt := PySem.Challenge.pw_callbinds_k16_whole_forms_one_step_besid.main.body.getD i (.Pass ⟨0, 0, 0, 0⟩)
abbrev sPInit : Stmt := inClass (top 26) 0
abbrev sFree : Stmt := inClass (top 26) 1
abbrev sByPlace : Stmt := inClass (top 26) 2
abbrev sByName : Stmt := inClass (top 26) 3
abbrev sTakes : Stmt := inClass (top 26) 4
abbrev sTold : Stmt := inClass (top 26) 5
abbrev sSeat : Stmt := inClass (top 27) 0
abbrev sBoth : Stmt := inClass (top 28) 0
abbrev sTail : Stmt := inClass (top 29) 0
abbrev sTag : Stmt := inClass (top 30) 0
abbrev sBag : Stmt := inClass (top 31) 0
abbrev sFInit : Stmt := inClass (top 16) 0
abbrev sKeep : Stmt := inClass (top 16) 1
abbrev sFTold : Stmt := inClass (top 16) 8
abbrev sXBad : Stmt := inClass (top 5) 0
abbrev sXTwice : Stmt := inClass (top 6) 0
abbrev sIs : Stmt := top 10
abbrev sRMany : Stmt := top 17
abbrev sROrder : Stmt := top 18
abbrev sRBars : Stmt := top 19
abbrev sRTwice : Stmt := top 20
abbrev sNumW : Stmt := top 21
abbrev sPot : Stmt := top 33
abbrev sTake : Stmt := top 34
abbrev sWord : Stmt := top 35
abbrev sRRw : Stmt := top 36
abbrev sRFm : Stmt := top 37
abbrev sOSort : Stmt := top 38
abbrev sRStep : Stmt := top 39
abbrev sBStep : Stmt := top 40
abbrev sBes : Stmt := top 41
abbrev sMade : Stmt := top 42
abbrev sMisp : Stmt := top 43
abbrev sIsT : Stmt := top 44
abbrev sDue : Stmt := top 45
abbrev sDone : Stmt := top 46
abbrev sLTold : Stmt := top 47
abbrev sLaw : Stmt := top 48


/-! ### the mathematics of names -/
def low (c : Nat) : Bool := decide (97 ≤ c) && decide (c ≤ 122)
def nameB (z : Str) : Bool := decide (1 ≤ z.length) && decide (z.length ≤ 8) && z.cps.toList.all low
def nmV : V → Bool
  | .str z => nameB z
  | _ => false
def OkS (z : Str) : Prop := z.length ≤ 1000 ∧ ∀ c ∈ z.cps.toList, c < 128
def OkV (K : PySem.W.Frag) (H : Hp) (x : V) : Prop := (∃ z, x = .str z ∧ OkS z) ∨ (nmV x = false ∧ ∃ t, TyOf K H x t ∧ PySem.W.kitOne K t (.type "str") = some false)
theorem nameB_iff {z : Str} : nameB z = true ↔ 1 ≤ z.length ∧ z.length ≤ 8 ∧ ∀ c ∈ z.cps.toList, 97 ≤ c ∧ c ≤ 122 := by
  unfold nameB low
  simp only [Bool.and_eq_true, decide_eq_true_eq, List.all_eq_true]
  constructor
  · rintro ⟨⟨a, b⟩, c⟩; exact ⟨a, b, c⟩
  · rintro ⟨a, b, c⟩; exact ⟨⟨a, b⟩, c⟩
theorem nameB_long {z : Str} (h : z.length = 0 ∨ 9 ≤ z.length) : nameB z = false := by
  cases e : nameB z with
  | false => rfl
  | true =>
    have := nameB_iff.mp e
    omega
theorem nameB_ok {z : Str} (h : nameB z = true) : OkS z := by
  obtain ⟨_, h2, h3⟩ := nameB_iff.mp h
  exact ⟨by omega, fun c hc => by have := h3 c hc; omega⟩
theorem app_len (x y : Str) : (x ++ y).length = x.length + y.length := by
  show (x.cps ++ y.cps).size = _
  rw [Array.size_append]; rfl
theorem app_cps (x y : Str) : (x ++ y).cps.toList = x.cps.toList ++ y.cps.toList := by
  show (x.cps ++ y.cps).toList = _
  rw [Array.toList_append]
theorem OkS.app {x y : Str} (hx : OkS x) (hy : OkS y) (h : x.length + y.length ≤ 1000) : OkS (x ++ y) := by
  refine ⟨by rw [app_len]; exact h, fun c hc => ?_⟩
  rw [app_cps] at hc
  rcases List.mem_append.mp hc with q | q
  · exact hx.2 c q
  · exact hy.2 c q
theorem slice_mem {x : Str} {l u : Option Int} {c : Nat} (h : c ∈ (Txt.slice x l u).cps.toList) : c ∈ x.cps.toList := by
  unfold Txt.slice at h
  split at h
  · exact h
  · have h' : c ∈ (Builtin.Str.strSliceIndices l u 1 x.length).filterMap (x.cps[·]?) := by simpa using h
    obtain ⟨i, _, e⟩ := List.mem_filterMap.mp h'
    have := Array.mem_of_getElem? e
    simpa using this
theorem OkS.slice {x : Str} (hx : OkS x) (l u : Option Int) : OkS (Txt.slice x l u) := ⟨Nat.le_trans (Txt.slice_le x l u) hx.1, fun c hc => hx.2 c (slice_mem hc)⟩
def letters : Str := "abcdefghijklmnopqrstuvwxyz"
theorem letters_at : ∀ k : Nat, k < 26 → letters.cps.toList[k]? = some (97 + k) := by decide +kernel
theorem letters_len : letters.length = 26 := by decide +kernel
theorem letters_in : ∀ c : Nat, c < 128 → (!(Builtin.Str.occurrences letters ⟨#[c]⟩ 0 letters.length 1).isEmpty) = low c := by decide +kernel
theorem same_new {H : Hp} {p : Addr} (h : H p = none) (o : HO) : Same H (upd H p o) := fun b u q => by rw [upd_ne (ne_of_none q h)]; exact q
theorem tyOf_same {K : PySem.W.Frag} {H H' : Hp} {x : V} {t : Value} (s : Same H H') (h : TyOf K H x t) : TyOf K H' x t := by
  cases h with
  | non => exact .non
  | bl b => exact .bl b
  | int i => exact .int i
  | str z => exact .str z
  | flt z => exact .flt z
  | lst e => exact .lst (s _ _ e)
  | frz e => exact .frz (s _ _ e)
  | tup e => exact .tup (s _ _ e)
  | dK e => exact .dK (s _ _ e)
  | dT e => exact .dT (s _ _ e)
  | ins e a b c d f => exact .ins (s _ _ e) a b c d f
theorem OkV.same {K : PySem.W.Frag} {H H' : Hp} {x : V} (s : Same H H') (h : OkV K H x) : OkV K H' x := by
  rcases h with h | ⟨h, t, ty, e⟩
  · exact .inl h
  · exact .inr ⟨h, t, tyOf_same s ty, e⟩
theorem nd1 : ([Str.ofString "sign"] : List Str).Nodup := by decide +kernel
/-! ### the promises -/
def spIs (K : PySem.W.Frag) : Sp := fun vs H Q _ => ∃ x, vs = [x] ∧ OkV K H x ∧ ∀ H', Same H H' → Q (.bl (nmV x)) H'
def spLaw (K : PySem.W.Frag) : Sp := fun vs H Q _ => ∃ (a : Addr) (ns : List Int), vs = [.ref a] ∧ SqL K H a (ns.map V.int) ∧ ns.length ≤ 63 ∧ ∀ H', Q (.bl true) H'
structure Txt1 (K : PySem.W.Frag) (mg : Str → Option Value) : Prop where
  isi : mg "isinstance" = none
  str : mg "str" = none
  bool : mg "bool" = none
  len : mg "len" = none
  all : mg "all" = none
  range : mg "range" = none
  letters : ∃ t, mg "LETTERS" = some (.str letters t)
  longest : ∃ t, mg "LONGEST" = some (.int 8 t)
  kNon : PySem.W.kitOne K (.type "NoneType") (.type "str") = some false
  kInt : PySem.W.kitOne K (.type "int") (.type "str") = some false
  kBl : PySem.W.kitOne K (.type "bool") (.type "str") = some false
  kLst : PySem.W.kitOne K (.type "list") (.type "str") = some false
  kTup : PySem.W.kitOne K (.type "tuple") (.type "str") = some false
  kDct : PySem.W.kitOne K (.type "dict") (.type "str") = some false
  kStr : PySem.W.kitOne K (.type "str") (.type "str") = some true
  bBl : PySem.W.kitOne K (.type "bool") (.type "bool") = some true
end K16

set_option Elab.async false
set_option linter.all false
set_option maxRecDepth 100000
set_option maxHeartbeats 4000000
namespace K16
open PySem L2 PyProof.Rows
section
variable {P : Program} {w : World} {K : PySem.W.Frag} {mg : Str → Option Value} {base : Heap} {f : Addr} {fd : FuncData}
theorem scIs : FnScope ["thing"] ["thing"] (defScope sIs) := ⟨rfl, rfl, rfl, by decide +kernel, rfl, by decide +kernel, by decide +kernel⟩
theorem ok_is (F : Fun K "is_name" "is_name" sIs f fd) (T : Txt1 K mg) : FnOk P w K mg base CX0 1 f fd ["thing"] (spIs K) := by
  refine F.ok scIs (fun vs H Q E h => ?_) (fun cdv A outer s H vs Q E hr h => ?_)
  · obtain ⟨x, rfl, _⟩ := h
    rfl
  obtain ⟨x, rfl, hx, q⟩ := h
  obtain ⟨tL, hL⟩ := T.letters
  obtain ⟨tN, hN⟩ := T.longest
  refine ⟨_, pss_cons (ps_if (PW.pt (pw_or (pt_not (pt_val (cB call_isinst T.isi boot_isinstance (ac (pv 0) (ac (pe_bltn (v := .ty "str") rfl T.str PyProof.Rows.boot_str rfl) pa_nil)))))
      (pw_or1 (pt_not (pt_chain op_le op_le pe_int (cB call_len_str T.len PySem.boot_len (ac (pv 0) pa_nil)) (pe_glob (v := .int 8) rfl hN ⟨_, rfl⟩))))))
      (pss_one (ps_ret pe_bl)) pss_nil)
    (pss_one (ps_ret (cB (call_allB rfl) T.all boot_all (ac (pe_lc [] ["sign"] [none] rfl ⟨rfl, rfl, rfl, rfl⟩ (pi_str (pv 0)) (gown_name 0) rfl rfl rfl
      (fun pins fp s H C => ⟨pg_name (i := 0) nd1 rfl (Or.inl rfl) (.inr rfl), pif_nil, pe_cmpR op_in_str (pv 0) (pe_glob (v := .str letters) rfl hL ⟨_, rfl⟩) (by with_unfolding_all rfl)⟩)) pa_nil)))), ?_⟩
  rcases hx with ⟨z, rfl, hz1, hz2⟩ | ⟨hn, t, ty, e⟩
  · refine ⟨_, rfl, _, _, _, _, rfl, .str z, T.kStr, _, rfl, ?_⟩
    refine iteF ?_
    refine ⟨_, rfl, z, rfl, Nat.le_trans hz1 (by decide), _, _, rfl, rfl, _, rfl, ?_⟩
    have no : nameB z = false → Q (.bl false) H := fun e => by
      have := q H (Same.refl H)
      have e' : nmV (.str z) = false := e
      rw [e'] at this
      exact this
    refine ite2 (fun c => ?_) (fun c => ?_)
    · have c' : (1 : Int) ≤ (z.length : Int) := of_decide_eq_true c
      refine ⟨_, _, rfl, rfl, _, rfl, ?_⟩
      by_cases h8 : (z.length : Int) ≤ 8
      · rw [decide_eq_true h8]
        refine iteF ?_
        -- all([sign in LETTERS for sign in thing])
        refine ⟨_, rfl, z, rfl, fun D hD => ?_⟩
        refine ⟨fun i m ys H' => i ≤ z.cps.size ∧ m = z.cps.size - i ∧ ys = (z.cps.toList.take i).map (fun c => V.bl (low c)) ∧ H' = upd H D (.lst ys), ⟨_, Nat.zero_le _, rfl, rfl, rfl⟩, ?_⟩
        rintro i m ys H' ⟨hi, rfl, rfl, rfl⟩
        by_cases he : i = z.cps.size
        · subst he
          refine .inl ⟨Nat.le_refl _, ?_⟩
          refine ⟨D, z.cps.toList.map low, rfl, SqL.of ?_, ?_⟩
          · rw [upd_same, List.take_of_length_le (by simp), List.map_map]
            rfl
          · have e : (z.cps.toList.map low).all id = nmV (.str z) := by
              show _ = nameB z
              unfold nameB
              rw [decide_eq_true (show 1 ≤ z.length by omega), decide_eq_true (show z.length ≤ 8 by omega), List.all_map]
              rfl
            rw [e]
            exact q _ (same_new hD _)
        · refine .inr ⟨by show i < z.cps.size; omega, ?_⟩
          rintro x H' ⟨rfl, c, hc, rfl⟩
          refine ⟨fun _ => ?_, fun e => Bool.noConfusion e⟩
          refine ⟨_, rfl, _, _, rfl, rfl, upd_same, ?_, z.cps.size - (i + 1), by omega, by omega, rfl, ?_, ?_⟩
          · rw [List.length_map, List.length_take]
            have : z.cps.size ≤ 1000 := hz1
            exact small1000 (by omega)
          · have hc' : z.cps.toList[i]? = some c := by simpa using hc
            have hlow := letters_in c (hz2 c (List.mem_of_getElem? hc'))
            rw [hlow, List.take_add_one, hc', List.map_append]
            rfl
          · rw [upd_upd]
      · rw [decide_eq_false h8]
        refine iteT ?_
        exact no (nameB_long (.inr (by omega)))
    · have c' : ¬ (1 : Int) ≤ (z.length : Int) := of_decide_eq_false (Bool.eq_false_iff.mpr c)
      refine ⟨_, rfl, ?_⟩
      exact iteT (no (nameB_long (.inl (by omega))))
  · refine ⟨_, rfl, _, _, _, _, rfl, ty, e, _, rfl, ?_⟩
    refine iteT ?_
    refine iteT ?_
    have := q H (Same.refl H)
    rw [hn] at this
    exact this


end
end K16

set_option Elab.async false
set_option linter.all false
set_option maxRecDepth 100000
set_option maxHeartbeats 4000000
namespace K16
open PySem L2 PyProof.Rows
abbrev EB : List Value := [.type "ValueError", .type "Exception", .type "BaseException", .type "object"]
theorem dT {A B : Prop} {c : Prop} [Decidable c] (h : c) (a : A) : if decide c = true then A else B := by rw [decide_eq_true h]; exact iteT a
theorem dF {A B : Prop} {c : Prop} [Decidable c] (h : ¬ c) (b : B) : if decide c = true then A else B := by rw [decide_eq_false h]; exact iteF b
def kw : Nat → Str
  | 0 => "seat" | 1 => "both" | 2 => "tail" | 3 => "tag" | _ => "bag"
def rowV (k : Nat) (x : V) (b : Bool) : List V := match k with
  | 0 => [.str "seat", x, .bl b] | 1 => [.str "both", x, .bl b] | 2 => [.str "tail", x] | 3 => [.str "tag", x, .bl b] | _ => [.str "bag", x]
def fr (k : Nat) (b : Bool) : Bool := match k with
  | 0 => b | 1 => b | 2 => true | 3 => b | _ => true
theorem lt5 {k : Nat} (h : k < 5) : k = 0 ∨ k = 1 ∨ k = 2 ∨ k = 3 ∨ k = 4 := by omega
/-- the attributes of a parameter -/
def pf (wd : Str) (x : V) (b : Bool) : List (Str × V) := putF "may_lack" (.bl b) (putF "name" x (putF "word" (.str wd) []))
theorem pf_word {wd : Str} {x : V} {b : Bool} : (pf wd x b).lookup ("word" : Str) = some (.str wd) := by
  unfold pf
  rw [lookup_putF, if_neg (by decide +kernel), lookup_putF, if_neg (by decide +kernel), lookup_putF, if_pos rfl]
theorem pf_name {wd : Str} {x : V} {b : Bool} : (pf wd x b).lookup ("name" : Str) = some x := by
  unfold pf
  rw [lookup_putF, if_neg (by decide +kernel), lookup_putF, if_pos rfl]
theorem pf_lack {wd : Str} {x : V} {b : Bool} : (pf wd x b).lookup ("may_lack" : Str) = some (.bl b) := by
  unfold pf
  rw [lookup_putF, if_pos rfl]
theorem pf_no {wd : Str} {x : V} {b : Bool} {m : Str} (h1 : ¬ m = "may_lack") (h2 : ¬ m = "name") (h3 : ¬ m = "word") : (pf wd x b).lookup m = none := by
  unfold pf
  rw [lookup_putF, if_neg h1, lookup_putF, if_neg h2, lookup_putF, if_neg h3]
  rfl
/-- the methods' defs -/
structure MA where
  (fF fP fB fT fO : Addr)
structure PC (K : PySem.W.Frag) (m : MA) (C : Addr) : Prop where
  cl : Cls K C
  nW : NoAttr K C "word"
  nN : NoAttr K C "name"
  nM : NoAttr K C "may_lack"
  mF : Meth K C "free" m.fF
  mP : Meth K C "by_place" m.fP
  mB : Meth K C "by_name" m.fB
  mT : Meth K C "takes_one" m.fT
  mO : Meth K C "told" m.fO
def spP (K : PySem.W.Frag) (m : MA) (N : Addr) : Sp := fun vs H Q E => ∃ (p dx C : Addr) (wd : Str) (x : V) (b : Bool), vs = [.ref p, .str wd, x, .bl b] ∧ H p = some (.ins C dx []) ∧ PC K m C ∧ OkV K H x ∧ (nmV x = true → ∀ H1, Same H H1 → Q .non (upd H1 p (.ins C dx (pf wd x b)))) ∧ (nmV x = false → ∀ H1, Same H H1 → E (.ref N) none H1)
def spS (K : PySem.W.Frag) (C N : Addr) (wd : Str) : Sp := fun vs H Q E => ∃ (p dx : Addr) (x : V) (b : Bool), vs = [.ref p, x, .bl b] ∧ H p = some (.ins C dx []) ∧ OkV K H x ∧ (nmV x = true → ∀ H1, Same H H1 → Q .non (upd H1 p (.ins C dx (pf wd x b)))) ∧ (nmV x = false → ∀ H1, Same H H1 → E (.ref N) none H1)
def spT (K : PySem.W.Frag) (C N : Addr) (wd : Str) : Sp := fun vs H Q E => ∃ (p dx : Addr) (x : V), vs = [.ref p, x] ∧ H p = some (.ins C dx []) ∧ OkV K H x ∧ (nmV x = true → ∀ H1, Same H H1 → Q .non (upd H1 p (.ins C dx (pf wd x true)))) ∧ (nmV x = false → ∀ H1, Same H H1 → E (.ref N) none H1)
def bpL : List V := [.str "seat", .str "both"]
def bnL : List V := [.str "both", .str "tag"]
def otL : List V := [.str "seat", .str "both", .str "tag"]
def spIn (K : PySem.W.Frag) (m : MA) (l : List V) : Sp := fun vs H Q _ => ∃ (p dx C : Addr) (wd : Str) (x : V) (b : Bool), vs = [.ref p] ∧ PC K m C ∧ H p = some (.ins C dx (pf wd x b)) ∧ Q (.bl (inV (.str wd) l)) H
def spTold (K : PySem.W.Frag) (m : MA) : Sp := fun vs H Q _ => ∃ (p dx C : Addr) (k : Nat) (x : V) (b : Bool), vs = [.ref p] ∧ k < 5 ∧ PC K m C ∧ H p = some (.ins C dx (pf (kw k) x (fr k b))) ∧ ∀ (r : Addr) (H' : Hp), Same H H' → H' r = some (.tup (rowV k x b)) → Q (.ref r) H'
/-- the written tuples of words -/
structure Wds (K : PySem.W.Frag) (mg : Str → Option Value) (tP tB tO : Addr) : Prop where
  mP : mg "BY_PLACE" = some (.ref tP)
  mB : mg "BY_NAME" = some (.ref tB)
  mO : mg "OF_ONE_THING" = some (.ref tO)
  hP : ∀ H, SqT K H tP bpL
  hB : ∀ H, SqT K H tB bnL
  hO : ∀ H, SqT K H tO otL
section
variable {P : Program} {w : World} {K : PySem.W.Frag} {mg : Str → Option Value} {base : Heap} {f C N tP tB tO : Addr} {fd : FuncData} {m : MA}
theorem scPInit : FnScope ["self", "word", "name", "may_lack"] ["self", "word", "name", "may_lack"] (defScope sPInit) := ⟨rfl, rfl, rfl, by decide +kernel, rfl, by decide +kernel, by decide +kernel⟩
theorem ok_pinit {g : Addr} {gd : FuncData} (F : Fun K "__init__" "Parameter.__init__" sPInit f fd) (own : OwnCls "NoName" N EB "ValueError.__new__" mg base) (cI : Callee P w K mg base 1 "is_name" g gd ["thing"] (spIs K)) :
    FnOk P w K mg base (CXe P w) 2 f fd ["self", "word", "name", "may_lack"] (spP K m N) := by
  refine F.okE scPInit (fun vs H Q E h => ?_) (fun cdv A outer s H vs Q E hr h => ?_)
  · obtain ⟨p, dx, C, wd, x, b, rfl, _⟩ := h
    rfl
  obtain ⟨p, dx, C, wd, x, b, rfl, hp, c, hx, q1, q2⟩ := h
  refine ⟨_, pss_cons (ps_if (pt_not (pt_val (cF cI hr (ac (pv 2) pa_nil)))) (pss_one (ps_raise raises_cx own PySem.F.excBase_ValueError (by decide) PySem.F.excBase_ValueError rfl (ac pe_str pa_nil))) pss_nil)
    (pss_cons (ps_fld (pv 0) (pv 1) rfl) (pss_cons (ps_fld (pv 0) (pv 2) rfl) (pss_one (ps_fld (pv 0) (pv 3) rfl)))), ?_⟩
  refine ⟨_, rfl, x, rfl, hx, fun H1 s1 => ⟨_, rfl, ?_⟩⟩
  cases e : nmV x with
  | false =>
    refine iteT ?_
    exact ⟨by show 1 ≤ sizeLine; decide, q2 e _ s1⟩
  | true =>
    refine iteF ?_
    refine ⟨_, rfl, _, rfl, p, C, dx, [], rfl, s1 _ _ hp, c.cl, c.nW, (by show 0 < 1000; decide), ?_⟩
    refine ⟨_, rfl, _, rfl, p, C, dx, _, rfl, upd_same, c.cl, c.nN, (by show 1 < 1000; decide), ?_⟩
    refine ⟨_, rfl, _, rfl, p, C, dx, _, rfl, upd_same, c.cl, c.nM, (by show 2 < 1000; decide), ?_⟩
    rw [upd_upd, upd_upd]
    exact q1 e _ s1
theorem scSeat : FnScope ["self", "name", "free"] ["self", "name", "free"] (defScope sSeat) := ⟨rfl, rfl, rfl, by decide +kernel, rfl, by decide +kernel, by decide +kernel⟩
theorem ok_seat {g D : Addr} {gd : FuncData} {ds : List Value} (F : FunD K "__init__" "Seat.__init__" sSeat f fd ds) (c : PC K m C) (B : ClsFn K D "__init__" g) (mD : mg "Parameter" = some (.ref D)) (G : FnOk P w K mg base (CXe P w) 2 g gd ["self", "word", "name", "may_lack"] (spP K m N)) (bg : Binds K gd ["self", "word", "name", "may_lack"] []) :
    FnOk P w K mg base (CXe P w) 3 f fd ["self", "name", "free"] (spS K C N "seat") := by
  refine F.okE scSeat (fun vs H Q E h => ?_) (fun cdv A outer s H vs Q E hr h => ?_)
  · obtain ⟨p, dx, x, b, rfl, _⟩ := h
    rfl
  obtain ⟨p, dx, x, b, rfl, hp, hx, q1, q2⟩ := h
  refine ⟨_, pss_one (ps_expr (pe_cm B mD G hr bg (passE fun _ _ _ z => z) (ac (pv 0) (ac pe_str (ac (pv 1) (ac (pv 2) pa_nil)))))), ?_⟩
  exact ⟨_, rfl, _, rfl, _, rfl, p, dx, C, _, x, b, rfl, hp, c, hx, q1, q2⟩
theorem scBoth : FnScope ["self", "name", "free"] ["self", "name", "free"] (defScope sBoth) := ⟨rfl, rfl, rfl, by decide +kernel, rfl, by decide +kernel, by decide +kernel⟩
theorem ok_both {g D : Addr} {gd : FuncData} {ds : List Value} (F : FunD K "__init__" "Both.__init__" sBoth f fd ds) (c : PC K m C) (B : ClsFn K D "__init__" g) (mD : mg "Parameter" = some (.ref D)) (G : FnOk P w K mg base (CXe P w) 2 g gd ["self", "word", "name", "may_lack"] (spP K m N)) (bg : Binds K gd ["self", "word", "name", "may_lack"] []) :
    FnOk P w K mg base (CXe P w) 3 f fd ["self", "name", "free"] (spS K C N "both") := by
  refine F.okE scBoth (fun vs H Q E h => ?_) (fun cdv A outer s H vs Q E hr h => ?_)
  · obtain ⟨p, dx, x, b, rfl, _⟩ := h
    rfl
  obtain ⟨p, dx, x, b, rfl, hp, hx, q1, q2⟩ := h
  refine ⟨_, pss_one (ps_expr (pe_cm B mD G hr bg (passE fun _ _ _ z => z) (ac (pv 0) (ac pe_str (ac (pv 1) (ac (pv 2) pa_nil)))))), ?_⟩
  exact ⟨_, rfl, _, rfl, _, rfl, p, dx, C, _, x, b, rfl, hp, c, hx, q1, q2⟩
theorem scTag : FnScope ["self", "name", "free"] ["self", "name", "free"] (defScope sTag) := ⟨rfl, rfl, rfl, by decide +kernel, rfl, by decide +kernel, by decide +kernel⟩
theorem ok_tag {g D : Addr} {gd : FuncData} {ds : List Value} (F : FunD K "__init__" "Tag.__init__" sTag f fd ds) (c : PC K m C) (B : ClsFn K D "__init__" g) (mD : mg "Parameter" = some (.ref D)) (G : FnOk P w K mg base (CXe P w) 2 g gd ["self", "word", "name", "may_lack"] (spP K m N)) (bg : Binds K gd ["self", "word", "name", "may_lack"] []) :
    FnOk P w K mg base (CXe P w) 3 f fd ["self", "name", "free"] (spS K C N "tag") := by
  refine F.okE scTag (fun vs H Q E h => ?_) (fun cdv A outer s H vs Q E hr h => ?_)
  · obtain ⟨p, dx, x, b, rfl, _⟩ := h
    rfl
  obtain ⟨p, dx, x, b, rfl, hp, hx, q1, q2⟩ := h
  refine ⟨_, pss_one (ps_expr (pe_cm B mD G hr bg (passE fun _ _ _ z => z) (ac (pv 0) (ac pe_str (ac (pv 1) (ac (pv 2) pa_nil)))))), ?_⟩
  exact ⟨_, rfl, _, rfl, _, rfl, p, dx, C, _, x, b, rfl, hp, c, hx, q1, q2⟩
theorem scTail : FnScope ["self", "name"] ["self", "name"] (defScope sTail) := ⟨rfl, rfl, rfl, by decide +kernel, rfl, by decide +kernel, by decide +kernel⟩
theorem ok_tail {g D : Addr} {gd : FuncData} (F : Fun K "__init__" "Tail.__init__" sTail f fd) (c : PC K m C) (B : ClsFn K D "__init__" g) (mD : mg "Parameter" = some (.ref D)) (G : FnOk P w K mg base (CXe P w) 2 g gd ["self", "word", "name", "may_lack"] (spP K m N)) (bg : Binds K gd ["self", "word", "name", "may_lack"] []) :
    FnOk P w K mg base (CXe P w) 3 f fd ["self", "name"] (spT K C N "tail") := by
  refine F.okE scTail (fun vs H Q E h => ?_) (fun cdv A outer s H vs Q E hr h => ?_)
  · obtain ⟨p, dx, x, rfl, _⟩ := h
    rfl
  obtain ⟨p, dx, x, rfl, hp, hx, q1, q2⟩ := h
  refine ⟨_, pss_one (ps_expr (pe_cm B mD G hr bg (passE fun _ _ _ z => z) (ac (pv 0) (ac pe_str (ac (pv 1) (ac pe_bl pa_nil)))))), ?_⟩
  exact ⟨_, rfl, _, rfl, p, dx, C, _, x, true, rfl, hp, c, hx, q1, q2⟩
theorem scBag : FnScope ["self", "name"] ["self", "name"] (defScope sBag) := ⟨rfl, rfl, rfl, by decide +kernel, rfl, by decide +kernel, by decide +kernel⟩
theorem ok_bag {g D : Addr} {gd : FuncData} (F : Fun K "__init__" "Bag.__init__" sBag f fd) (c : PC K m C) (B : ClsFn K D "__init__" g) (mD : mg "Parameter" = some (.ref D)) (G : FnOk P w K mg base (CXe P w) 2 g gd ["self", "word", "name", "may_lack"] (spP K m N)) (bg : Binds K gd ["self", "word", "name", "may_lack"] []) :
    FnOk P w K mg base (CXe P w) 3 f fd ["self", "name"] (spT K C N "bag") := by
  refine F.okE scBag (fun vs H Q E h => ?_) (fun cdv A outer s H vs Q E hr h => ?_)
  · obtain ⟨p, dx, x, rfl, _⟩ := h
    rfl
  obtain ⟨p, dx, x, rfl, hp, hx, q1, q2⟩ := h
  refine ⟨_, pss_one (ps_expr (pe_cm B mD G hr bg (passE fun _ _ _ z => z) (ac (pv 0) (ac pe_str (ac (pv 1) (ac pe_bl pa_nil)))))), ?_⟩
  exact ⟨_, rfl, _, rfl, p, dx, C, _, x, true, rfl, hp, c, hx, q1, q2⟩
theorem scByPlace : FnScope ["self"] ["self"] (defScope sByPlace) := ⟨rfl, rfl, rfl, by decide +kernel, rfl, by decide +kernel, by decide +kernel⟩
theorem ok_by_place (F : Fun K "by_place" "Parameter.by_place" sByPlace f fd) (Wd : Wds K mg tP tB tO) : FnOk P w K mg base CX0 1 f fd ["self"] (spIn K m bpL) := by
  refine F.ok scByPlace (fun vs H Q E h => ?_) (fun cdv A outer s H vs Q E hr h => ?_)
  · obtain ⟨p, dx, C, wd, x, b, rfl, _⟩ := h
    rfl
  obtain ⟨p, dx, C, wd, x, b, rfl, c, hp, q⟩ := h
  refine ⟨_, pss_one (ps_ret (pe_cmpR op_in_seq (pe_fld (pv 0) rfl) (pe_glob (v := .ref tP) rfl Wd.mP rfl) (by with_unfolding_all rfl))), ?_⟩
  exact ⟨_, rfl, p, C, dx, _, _, rfl, hp, c.cl, c.nW, pf_word, tP, bpL, rfl, .inr (Wd.hP H), rfl, (by decide), q⟩
theorem scByName : FnScope ["self"] ["self"] (defScope sByName) := ⟨rfl, rfl, rfl, by decide +kernel, rfl, by decide +kernel, by decide +kernel⟩
theorem ok_by_name (F : Fun K "by_name" "Parameter.by_name" sByName f fd) (Wd : Wds K mg tP tB tO) : FnOk P w K mg base CX0 1 f fd ["self"] (spIn K m bnL) := by
  refine F.ok scByName (fun vs H Q E h => ?_) (fun cdv A outer s H vs Q E hr h => ?_)
  · obtain ⟨p, dx, C, wd, x, b, rfl, _⟩ := h
    rfl
  obtain ⟨p, dx, C, wd, x, b, rfl, c, hp, q⟩ := h
  refine ⟨_, pss_one (ps_ret (pe_cmpR op_in_seq (pe_fld (pv 0) rfl) (pe_glob (v := .ref tB) rfl Wd.mB rfl) (by with_unfolding_all rfl))), ?_⟩
  exact ⟨_, rfl, p, C, dx, _, _, rfl, hp, c.cl, c.nW, pf_word, tB, bnL, rfl, .inr (Wd.hB H), rfl, (by decide), q⟩
theorem scTakes : FnScope ["self"] ["self"] (defScope sTakes) := ⟨rfl, rfl, rfl, by decide +kernel, rfl, by decide +kernel, by decide +kernel⟩
theorem ok_takes_one (F : Fun K "takes_one" "Parameter.takes_one" sTakes f fd) (Wd : Wds K mg tP tB tO) : FnOk P w K mg base CX0 1 f fd ["self"] (spIn K m otL) := by
  refine F.ok scTakes (fun vs H Q E h => ?_) (fun cdv A outer s H vs Q E hr h => ?_)
  · obtain ⟨p, dx, C, wd, x, b, rfl, _⟩ := h
    rfl
  obtain ⟨p, dx, C, wd, x, b, rfl, c, hp, q⟩ := h
  refine ⟨_, pss_one (ps_ret (pe_cmpR op_in_seq (pe_fld (pv 0) rfl) (pe_glob (v := .ref tO) rfl Wd.mO rfl) (by with_unfolding_all rfl))), ?_⟩
  exact ⟨_, rfl, p, C, dx, _, _, rfl, hp, c.cl, c.nW, pf_word, tO, otL, rfl, .inr (Wd.hO H), rfl, (by decide), q⟩
theorem scTold : FnScope ["self"] ["self"] (defScope sTold) := ⟨rfl, rfl, rfl, by decide +kernel, rfl, by decide +kernel, by decide +kernel⟩
theorem ok_told {gd : FuncData} (F : Fun K "told" "Parameter.told" sTold f fd) (G : FnOk P w K mg base CX0 1 m.fT gd ["self"] (spIn K m otL)) (bg : Binds K gd ["self"] []) : FnOk P w K mg base CX0 2 f fd ["self"] (spTold K m) := by
  refine F.ok scTold (fun vs H Q E h => ?_) (fun cdv A outer s H vs Q E hr h => ?_)
  · obtain ⟨p, dx, C, k, x, b, rfl, _⟩ := h
    rfl
  obtain ⟨p, dx, C, k, x, b, rfl, hk, c, hp, q⟩ := h
  have nt : (pf (kw k) x (fr k b)).lookup ("takes_one" : Str) = none := pf_no (by decide +kernel) (by decide +kernel) (by decide +kernel)
  refine ⟨_, pss_cons (ps_if (pt_val (pe_meth0 (pv 0) c.cl c.mT G hr bg .nil pass0)) (pss_one (ps_ret (pe_tup (ac (pe_fld (pv 0) rfl) (ac (pe_fld (pv 0) rfl) (ac (pe_fld (pv 0) rfl) pa_nil)))))) pss_nil)
    (pss_one (ps_ret (pe_tup (ac (pe_fld (pv 0) rfl) (ac (pe_fld (pv 0) rfl) pa_nil))))), ?_⟩
  refine ⟨_, rfl, p, dx, _, rfl, hp, nt, p, dx, C, kw k, x, fr k b, rfl, c, hp, _, rfl, ?_⟩
  have fW : ∃ b', pf (kw k) x (fr k b) = pf (kw k) x b' := ⟨_, rfl⟩
  rcases lt5 hk with rfl | rfl | rfl | rfl | rfl
  · refine iteT ?_
    exact ⟨_, rfl, p, C, dx, _, _, rfl, hp, c.cl, c.nW, pf_word, _, rfl, p, C, dx, _, _, rfl, hp, c.cl, c.nN, pf_name, _, rfl, p, C, dx, _, _, rfl, hp, c.cl, c.nM, pf_lack, (by show 3 ≤ sizeLine; decide), fun r hr => q r _ (same_new hr _) upd_same⟩
  · refine iteT ?_
    exact ⟨_, rfl, p, C, dx, _, _, rfl, hp, c.cl, c.nW, pf_word, _, rfl, p, C, dx, _, _, rfl, hp, c.cl, c.nN, pf_name, _, rfl, p, C, dx, _, _, rfl, hp, c.cl, c.nM, pf_lack, (by show 3 ≤ sizeLine; decide), fun r hr => q r _ (same_new hr _) upd_same⟩
  · refine iteF ?_
    exact ⟨_, rfl, p, C, dx, _, _, rfl, hp, c.cl, c.nW, pf_word, _, rfl, p, C, dx, _, _, rfl, hp, c.cl, c.nN, pf_name, (by show 2 ≤ sizeLine; decide), fun r hr => q r _ (same_new hr _) upd_same⟩
  · refine iteT ?_
    exact ⟨_, rfl, p, C, dx, _, _, rfl, hp, c.cl, c.nW, pf_word, _, rfl, p, C, dx, _, _, rfl, hp, c.cl, c.nN, pf_name, _, rfl, p, C, dx, _, _, rfl, hp, c.cl, c.nM, pf_lack, (by show 3 ≤ sizeLine; decide), fun r hr => q r _ (same_new hr _) upd_same⟩
  · refine iteF ?_
    exact ⟨_, rfl, p, C, dx, _, _, rfl, hp, c.cl, c.nW, pf_word, _, rfl, p, C, dx, _, _, rfl, hp, c.cl, c.nN, pf_name, (by show 2 ≤ sizeLine; decide), fun r hr => q r _ (same_new hr _) upd_same⟩
end
end K16

set_option Elab.async false
set_option linter.all false
set_option maxRecDepth 100000
set_option maxHeartbeats 4000000
namespace K16
open PySem L2 PyProof.Rows
structure C5 where
  (c0 c1 c2 c3 c4 : Addr)
def C5.at (c : C5) : Nat → Addr
  | 0 => c.c0 | 1 => c.c1 | 2 => c.c2 | 3 => c.c3 | _ => c.c4
def g21 {α : Type} : List α → List α → List α
  | [u, v], [w] => [u, v, w]
  | _, _ => []
theorem g21_rel {vs : List V} {us : List Value} {zs : List V} {ws : List Value} (r : Vals vs us) (q : Vals zs ws) : Vals (g21 vs zs) (g21 us ws) := by
  cases r with
  | nil => exact .nil
  | cons a r => cases r with
    | nil => exact .nil
    | cons a2 r => cases r with
      | cons _ _ => exact .nil
      | nil => cases q with
        | nil => exact .nil
        | cons b q => cases q with
          | nil => exact .cons a (.cons a2 (.cons b .nil))
          | cons _ _ => exact .nil
structure Ctors (P : Program) (w : World) (K : PySem.W.Frag) (mg : Str → Option Value) (base : Heap) (c : C5) (N : Addr) (i0 i1 i2 i3 i4 : Addr) (d0 d1 d2 d3 d4 : FuncData) : Prop where
  k0 : Ctor P w K mg base (CXe P w) 3 "Seat" c.c0 i0 d0 ["self", "name", "free"] [] (spS K c.c0 N "seat")
  e0 : Ctor P w K mg base (CXe P w) 3 "Seat" c.c0 i0 d0 ["self", "name", "free"] [.bool false] (spS K c.c0 N "seat")
  b0 : KBinds K d0 ["self", "name", "free"] ["free"] g21 g21
  k1 : Ctor P w K mg base (CXe P w) 3 "Both" c.c1 i1 d1 ["self", "name", "free"] [] (spS K c.c1 N "both")
  e1 : Ctor P w K mg base (CXe P w) 3 "Both" c.c1 i1 d1 ["self", "name", "free"] [.bool false] (spS K c.c1 N "both")
  b1 : KBinds K d1 ["self", "name", "free"] ["free"] g21 g21
  k2 : Ctor P w K mg base (CXe P w) 3 "Tail" c.c2 i2 d2 ["self", "name"] [] (spT K c.c2 N "tail")
  k3 : Ctor P w K mg base (CXe P w) 3 "Tag" c.c3 i3 d3 ["self", "name", "free"] [] (spS K c.c3 N "tag")
  e3 : Ctor P w K mg base (CXe P w) 3 "Tag" c.c3 i3 d3 ["self", "name", "free"] [.bool false] (spS K c.c3 N "tag")
  b3 : KBinds K d3 ["self", "name", "free"] ["free"] g21 g21
  k4 : Ctor P w K mg base (CXe P w) 3 "Bag" c.c4 i4 d4 ["self", "name"] [] (spT K c.c4 N "bag")
def Res (c : C5) (N : Addr) (H : Hp) (k : Nat) (x : V) (b : Bool) (Q : VK) (E : XK) : Prop :=
  (nmV x = true → ∀ (o dx : Addr) (H' : Hp), Same H H' → H' o = some (.ins (c.at k) dx (pf (kw k) x (fr k b))) → Q (.ref o) H') ∧ (nmV x = false → ∀ H', Same H H' → E (.ref N) none H')
theorem ne02 : ¬ (V.str "seat" = V.str "tail") := by decide +kernel
theorem ne04 : ¬ (V.str "seat" = V.str "bag") := by decide +kernel
theorem ne10 : ¬ (V.str "both" = V.str "seat") := by decide +kernel
theorem ne12 : ¬ (V.str "both" = V.str "tail") := by decide +kernel
theorem ne14 : ¬ (V.str "both" = V.str "bag") := by decide +kernel
theorem ne30 : ¬ (V.str "tag" = V.str "seat") := by decide +kernel
theorem ne31 : ¬ (V.str "tag" = V.str "both") := by decide +kernel
theorem ne32 : ¬ (V.str "tag" = V.str "tail") := by decide +kernel
theorem ne34 : ¬ (V.str "tag" = V.str "bag") := by decide +kernel
theorem ne42 : ¬ (V.str "bag" = V.str "tail") := by decide +kernel
theorem vF : Vals [V.bl false] [Value.bool false] := .cons rfl .nil
section
variable {P : Program} {w : World} {K : PySem.W.Frag} {mg : Str → Option Value} {base : Heap} {f N i0 i1 i2 i3 i4 : Addr} {fd d0 d1 d2 d3 d4 : FuncData} {c : C5}
theorem lk_1 {x : V} {k : Nat} {b : Bool} : atI (rowV k x b) 1 = some x := by unfold rowV; split <;> rfl
theorem lk_0 {x : V} {k : Nat} {b : Bool} (h : k < 5) : atI (rowV k x b) 0 = some (.str (kw k)) := by rcases lt5 h with rfl | rfl | rfl | rfl | rfl <;> rfl
def spMade1 (K : PySem.W.Frag) (c : C5) (N : Addr) : Sp := fun vs H Q E => ∃ (p : Addr) (k : Nat) (x : V) (b : Bool), vs = [.ref p] ∧ k < 5 ∧ H p = some (.tup (rowV k x b)) ∧ OkV K H x ∧ Res c N H k x b Q E
end
end K16

set_option Elab.async false
set_option linter.all false
set_option maxRecDepth 100000
set_option maxHeartbeats 4000000
namespace L2
open PySem PySem.Spec PyProof.Rows
/-- what a turn of a block that makes the dict at D asks of its pair -/
def dcN (n i : Nat) (D : Addr) (Pv : Nat → List (Key × V) → Hp → Prop) (ys : List (Key × V)) (y : V) : VK := fun v H5 => ∃ k, y = kV k ∧ H5 D = some (.dK ys) ∧ ys.length < sizeLine ∧ ∃ m', m' < n - i ∧ m' = n - (i + 1) ∧ i + 1 ≤ n ∧ Pv (i + 1) (putK ys k v) (upd H5 D (.dK (putK ys k v)))
def dcS (n i : Nat) (Pv : Nat → List (Key × V) → Hp → Prop) (ys : List (Key × V)) (H4 : Hp) : Prop := ∃ m', m' < n - i ∧ m' = n - (i + 1) ∧ i + 1 ≤ n ∧ Pv (i + 1) ys H4
theorem dcN.mk {n i : Nat} {D : Addr} {Pv : Nat → List (Key × V) → Hp → Prop} {ys : List (Key × V)} {y v : V} {H5 : Hp} (k : Key) (hi : i < n) (ek : y = kV k) (hn : n ≤ sizeLine) (hD : H5 D = some (.dK ys)) (hy : ys.length ≤ i) (p : Pv (i + 1) (putK ys k v) (upd H5 D (.dK (putK ys k v)))) : dcN n i D Pv ys y v H5 :=
  ⟨k, ek, hD, by omega, n - (i + 1), by omega, rfl, hi, p⟩
theorem dcS.mk {n i : Nat} {Pv : Nat → List (Key × V) → Hp → Prop} {ys : List (Key × V)} {H4 : Hp} (hi : i < n) (p : Pv (i + 1) ys H4) : dcS n i Pv ys H4 := ⟨n - (i + 1), by omega, rfl, hi, p⟩
theorem dc_enum {K : PySem.W.Frag} {a : Addr} {xs : List V} {caps : List (Option Nat)} {g : TG} {tt : TT} {tk tv : TE} {σ : St} {H1 : Hp} {Q : VK} {D : Addr} (Pv : Nat → List (Key × V) → Hp → Prop) (h0 : Pv 0 [] (upd H1 D (.dK [])))
    (hl : ∀ i ys H, Pv i ys H → SqL K H a xs)
    (hs : ∀ i x p ys H, i < xs.length → xs[i]? = some x → Pv i ys H → H p = none → g (.ref p) (capS caps σ) (upd H p (.tup [.int i, x])) fun σ2 H2 => tt σ2 H2 fun ok H3 => (ok = true → tk σ2 H3 fun y H4 => tv σ2 H4 (dcN xs.length i D Pv ys y)) ∧ (ok = false → dcS xs.length i Pv ys H3))
    (hd : ∀ ys H, Pv xs.length ys H → Q (.ref D) H) : DCr (Ite K a) caps g tt tk tv σ H1 Q D := by
  refine ⟨fun i m ys H => m = xs.length - i ∧ i ≤ xs.length ∧ Pv i ys H, ⟨xs.length, by simp, Nat.zero_le _, h0⟩, ?_⟩
  rintro i m ys H ⟨rfl, hi, p⟩
  have q := hl i ys H p
  by_cases hlt : i < xs.length
  · refine .inr ⟨⟨xs, xs[i], q, by simp [hlt]⟩, fun x H' y => ?_⟩
    obtain ⟨pp, y, rfl, hp, y2, rfl⟩ := y
    exact hs i y pp ys H hlt (y2 xs q) p hp
  · have e : i = xs.length := by omega
    subst e
    exact .inl ⟨⟨xs, q, Nat.le_refl _⟩, hd ys H p⟩
end L2
namespace K16
open PySem L2 PyProof.Rows
/-! ### rows and forms -/
structure Rw where
  (k : Nat) (z : Str) (b : Bool)
def Rw.ok (r : Rw) : Prop := r.k < 5 ∧ nameB r.z = true
abbrev rv (r : Rw) : List V := rowV r.k (.str r.z) r.b
abbrev pr (r : Rw) : List (Str × V) := pf (kw r.k) (.str r.z) (fr r.k r.b)
def PAt (c : C5) (H : Hp) (p : Addr) (r : Rw) : Prop := ∃ dx, H p = some (.ins (c.at r.k) dx (pr r))
def byPl (k : Nat) : Bool := k == 0 || k == 1
def byNm (k : Nat) : Bool := k == 1 || k == 3
theorem in_pl : ∀ k : Nat, k < 5 → inV (.str (kw k)) bpL = byPl k := by decide +kernel
theorem in_nm : ∀ k : Nat, k < 5 → inV (.str (kw k)) bnL = byNm k := by decide +kernel
def grp : Nat → Nat
  | 0 => 0 | 1 => 0 | 2 => 1 | 3 => 2 | _ => 3
def badAt (l g : Nat) : Bool := decide (g < l) || (g == l && (g == 1 || g == 3))
def ordOk : Nat → List Rw → Bool
  | _, [] => true
  | l, r :: rs => !badAt l (grp r.k) && ordOk (grp r.k) rs
def nms (rows : List Rw) : List Str := (rows.filter fun r => byNm r.k).map (·.z)
def firstK (kk : Nat) : Nat → List Rw → Option Nat
  | _, [] => none
  | i, r :: rs => if r.k = kk then some i else firstK kk (i + 1) rs
def numV : Option Nat → V
  | none => .non
  | some i => .int i
def doorsF : Nat → List (Key × V) → List Rw → List (Key × V)
  | _, acc, [] => acc
  | i, acc, r :: rs => doorsF (i + 1) (if byNm r.k = true then putK acc (.inr r.z) (.int i) else acc) rs
def plN (rows : List Rw) : Nat := (rows.filter fun r => byPl r.k).length
def attrs : List Str := ["row", "bar_names", "place_count", "tail_number", "bag_number", "doors"]
structure FF (fs : List (Str × V)) (lr lb ld : Addr) (rows : List Rw) : Prop where
  row : fs.lookup ("row" : Str) = some (.ref lr)
  bn : fs.lookup ("bar_names" : Str) = some (.ref lb)
  pc : fs.lookup ("place_count" : Str) = some (.int (plN rows))
  tn : fs.lookup ("tail_number" : Str) = some (numV (firstK 2 0 rows))
  bg : fs.lookup ("bag_number" : Str) = some (numV (firstK 4 0 rows))
  dr : fs.lookup ("doors" : Str) = some (.ref ld)
  no : ∀ m, m ∉ attrs → fs.lookup m = none
def FormAt (c : C5) (CF : Addr) (H : Hp) (f : Addr) (rows : List Rw) (bars : List Str) : Prop :=
  ∃ dx fs lr lb ld ps, H f = some (.ins CF dx fs) ∧ FF fs lr lb ld rows ∧ H lr = some (.lst (ps.map V.ref)) ∧ Paired (PAt c H) ps rows ∧ H lb = some (.lst (bars.map V.str)) ∧ H ld = some (.dK (doorsF 0 [] rows))
section
variable {c : C5} {CF f p : Addr} {H H' : Hp} {rows : List Rw} {bars : List Str} {r : Rw} {ps : List Addr}
theorem PAt.same (h : PAt c H p r) (s : Same H H') : PAt c H' p r := h.imp fun _ => s _ _
theorem pats_same (s : Same H H') (h : Paired (PAt c H) ps rows) : Paired (PAt c H') ps rows := Paired.imp' (fun _ _ z => z.same s) h
def FormN (c : C5) (CF : Addr) (H H' : Hp) (f : Addr) (rows : List Rw) (bars : List Str) : Prop :=
  ∃ dx fs lr lb ld ps, H' f = some (.ins CF dx fs) ∧ FF fs lr lb ld rows ∧ H' lr = some (.lst (ps.map V.ref)) ∧ Paired (PAt c H') ps rows ∧ H' lb = some (.lst (bars.map V.str)) ∧ H' ld = some (.dK (doorsF 0 [] rows)) ∧ H lr = none ∧ H lb = none
theorem FormN.at (h : FormN c CF H H' f rows bars) : FormAt c CF H' f rows bars := by
  obtain ⟨dx, fs, lr, lb, ld, ps, h1, h2, h3, h4, h5, h6, _, _⟩ := h
  exact ⟨dx, fs, lr, lb, ld, ps, h1, h2, h3, h4, h5, h6⟩
theorem FormN.of {H0 : Hp} (h : FormN c CF H H' f rows bars) (s : Same H0 H) : FormN c CF H0 H' f rows bars := by
  obtain ⟨dx, fs, lr, lb, ld, ps, h1, h2, h3, h4, h5, h6, h7, h8⟩ := h
  exact ⟨dx, fs, lr, lb, ld, ps, h1, h2, h3, h4, h5, h6, s.free h7, s.free h8⟩
theorem paired_at {α β : Type} {R : α → β → Prop} {xs : List α} {ys : List β} (h : Paired R xs ys) : ∀ {i : Nat} {x : α}, xs[i]? = some x → ∃ y, ys[i]? = some y ∧ R x y := by
  induction h with
  | nil => intro i x e; simp at e
  | cons r t ih =>
    intro i x e
    cases i with
    | zero => exact ⟨_, rfl, by simp at e; exact e ▸ r⟩
    | succ i => simpa using ih (by simpa using e)
end
end K16

set_option Elab.async false
set_option linter.all false
set_option maxRecDepth 100000
set_option maxHeartbeats 4000000
namespace K16
open PySem L2 PyProof.Rows
def grpV (x : Str) : Option V := ([(("seat" : Str), V.int 0), ("both", .int 0), ("tail", .int 1), ("tag", .int 2), ("bag", .int 3)] : List (Str × V)).lookup x
theorem grpV_kw : ∀ k : Nat, k < 5 → grpV (kw k) = some (.int (grp k)) := by decide +kernel
theorem grp_lt (k : Nat) : grp k < 4 := by unfold grp; split <;> decide
structure TxtF (w : World) (K : PySem.W.Frag) (mg : Str → Option Value) (G sg : Addr) : Prop where
  len : mg "len" = none
  en : mg "enumerate" = none
  lst : mg "list" = none
  set : mg "set" = none
  mp : ∃ t, mg "MOST_PARAMETERS" = some (.int 24 t)
  mb : ∃ t, mg "MOST_BARS" = some (.int 60 t)
  mgr : mg "GROUPS" = some (.ref G)
  gt : KTab w K G grpV
  ms : mg "SINGLE_GROUPS" = some (.ref sg)
  hs : ∀ H, SqT K H sg [.int 1, .int 3]
def Cs5 (c : C5) : Addr → Prop := fun C => ∃ k, k < 5 ∧ C = c.at k
def spNW (c : C5) : Sp := fun vs H Q _ => ∃ (a : Addr) (ps : List Addr) (rows : List Rw) (kk : Nat), vs = [.ref a, .str (kw kk)] ∧ kk < 5 ∧ H a = some (.lst (ps.map V.ref)) ∧ Paired (PAt c H) ps rows ∧ (∀ r ∈ rows, r.ok) ∧ ∀ H', Same H H' → Q (numV (firstK kk 0 rows)) H'
theorem kw_inj : ∀ i : Nat, i < 5 → ∀ k : Nat, k < 5 → decide (V.str (kw k) = V.str (kw i)) = (k == i) := by decide +kernel
theorem drop_at {α : Type} {xs : List α} {i : Nat} {x : α} (h : xs[i]? = some x) : xs.drop i = x :: xs.drop (i + 1) := by
  have hi : i < xs.length := (List.getElem?_eq_some_iff.mp h).1
  rw [List.drop_eq_getElem_cons hi]
  rw [List.getElem?_eq_getElem hi] at h
  rw [Option.some.inj h]
theorem refs_at {ps : List Addr} {i : Nat} {x : V} (h : (ps.map V.ref)[i]? = some x) : ∃ p, ps[i]? = some p ∧ x = .ref p := by
  rw [List.getElem?_map] at h
  cases e : ps[i]? with
  | none => rw [e] at h; cases h
  | some p => rw [e] at h; exact ⟨p, rfl, (Option.some.inj h).symm⟩
theorem strs_at {zs : List Str} {i : Nat} {x : V} (h : (zs.map V.str)[i]? = some x) : ∃ z, zs[i]? = some z ∧ x = .str z := by
  rw [List.getElem?_map] at h
  cases e : zs[i]? with
  | none => rw [e] at h; cases h
  | some p => rw [e] at h; exact ⟨p, rfl, (Option.some.inj h).symm⟩
section
variable {P : Program} {w : World} {K : PySem.W.Frag} {mg : Str → Option Value} {base : Heap} {f G sg : Addr} {fd : FuncData} {c : C5} {m : MA}
/-- what the five classes have -/
def Pcs (K : PySem.W.Frag) (m : MA) (c : C5) : Prop := ∀ k, k < 5 → PC K m (c.at k)
theorem scRMany : FnScope ["parameters", "bars"] ["parameters", "bars"] (defScope sRMany) := ⟨rfl, rfl, rfl, by decide +kernel, rfl, by decide +kernel, by decide +kernel⟩
theorem scROrder : FnScope ["parameters", "last", "at", "parameter", "group"] ["parameters"] (defScope sROrder) := ⟨rfl, rfl, rfl, by decide +kernel, rfl, by decide +kernel, by decide +kernel⟩
end
end K16

set_option Elab.async false
set_option linter.all false
set_option maxRecDepth 100000
set_option maxHeartbeats 4000000
namespace L2
open PySem PySem.Spec PyProof.Rows
theorem pe_fldK {X : Cx} {K : PySem.W.Frag} {e : Expr} {f : Str} {pos : Pos} {ta : TE} (hK : X.K = K) (he : PE X e ta) (hb : attributeBase e f X.env (eval e X.env) = eval e X.env) : PE X (.Attribute e f pos) (tFld K ta f) := hK ▸ pe_fld he hb
end L2
namespace K16
open PySem L2 PyProof.Rows
theorem le1000 {n : Nat} (h : n ≤ 1000) : n ≤ sizeLine := Nat.le_of_lt (small1000 h)
theorem nm_take {rows : List Rw} {i : Nat} {r : Rw} (h : rows[i]? = some r) : nms (rows.take (i + 1)) = nms (rows.take i) ++ (if byNm r.k = true then [r.z] else []) := by
  have hi : i < rows.length := (List.getElem?_eq_some_iff.mp h).1
  have e : rows[i] = r := by rw [List.getElem?_eq_getElem hi] at h; exact Option.some.inj h
  unfold nms
  rw [List.take_succ_eq_append_getElem hi, List.filter_append, List.map_append, e]
  cases hb : byNm r.k <;> simp [hb]
section
variable {P : Program} {w : World} {K : PySem.W.Frag} {mg : Str → Option Value} {base : Heap} {f G sg : Addr} {fd : FuncData} {c : C5} {m : MA}
theorem scNumW : FnScope ["parameters", "word", "at", "parameter"] ["parameters", "word"] (defScope sNumW) := ⟨rfl, rfl, rfl, by decide +kernel, rfl, by decide +kernel, by decide +kernel⟩
theorem ok_numw (F : Fun K "number_of_word" "number_of_word" sNumW f fd) (T : TxtF w K mg G sg) (PP : Pcs K m c) : FnOk P w K mg base CX0 1 f fd ["parameters", "word"] (spNW c) := by
  refine F.ok scNumW (fun vs H Q E h => ?_) (fun cdv A outer s H vs Q E hr h => ?_)
  · obtain ⟨a, ps, rows, kk, rfl, _⟩ := h
    rfl
  obtain ⟨a, ps, rows, kk, rfl, hkk, ha, hp, hok, q⟩ := h
  refine ⟨_, pss_cons (ps_for PassesOwn.never rfl (pi_enum rfl T.en (ac (pv 0) pa_nil)) (pg_tup rfl (pgs_cons (pg_name (i := 2) scNumW.nd rfl (Or.inl rfl)) (pgs_cons (pg_name (i := 3) scNumW.nd rfl (Or.inl rfl)) pgs_nil)))
      (pss_one (ps_if (pt_cmpR op_eq (pe_fld (pv 3) rfl) (pv 1) (nomark _)) (pss_one (ps_ret (pv 2))) pss_nil))) (pss_one (ps_ret pe_non)), ?_⟩
  refine ⟨_, rfl, a, rfl, ⟨_, SqL.of ha⟩, for_enum (K := K) (a := a) (xs := ps.map V.ref) (fun i σ H' => ∃ (v2 v3 : Option V), σ = [some (.ref a), some (.str (kw kk)), v2, v3] ∧ Same H H' ∧ firstK kk i (rows.drop i) = firstK kk 0 rows)
    ⟨_, _, rfl, Same.refl _, rfl⟩ (fun i σ H' _ ⟨_, _, _, sH, _⟩ => SqL.of (sH _ _ ha)) ?_ ?_⟩
  · rintro i x p σ H' hx ⟨v2, v3, rfl, sH, hl⟩ hpn
    obtain ⟨pa, hpa, rfl⟩ := refs_at hx
    obtain ⟨r, hr', dx, hdx⟩ := paired_at hp hpa
    have rok := hok r (List.mem_of_getElem? hr')
    have C := PP r.k rok.1
    rw [drop_at hr'] at hl
    have hl' : (if r.k = kk then some i else firstK kk (i + 1) (rows.drop (i + 1))) = firstK kk 0 rows := hl
    have sp := same_new hpn (.tup [.int (i : Nat), .ref pa])
    refine ⟨p, _, rfl, SqT.of upd_same, rfl, _, _, rfl, _, _, rfl, rfl, ?_⟩
    refine ⟨_, rfl, pa, _, dx, _, _, rfl, sp _ _ (sH _ _ hdx), C.cl, C.nW, pf_word, _, rfl, rfl, _, rfl, ?_⟩
    by_cases e : r.k = kk
    · refine dT (by rw [e]) ?_
      rw [if_pos e] at hl'
      refine ⟨_, rfl, ?_⟩
      have := q _ (sH.trans sp)
      rw [← hl'] at this
      exact this
    · refine dF (fun z => ?_) ?_
      · have h1 := kw_inj kk hkk r.k rok.1
        rw [decide_eq_true z] at h1
        exact e (by simpa using h1.symm)
      · rw [if_neg e] at hl'
        exact ⟨_, _, rfl, sH.trans sp, hl'⟩
  · rintro σ H' ⟨v2, v3, rfl, sH, hl⟩
    have e : firstK kk 0 rows = none := by
      rw [← hl, List.length_map, hp.length, List.drop_length]
      rfl
    have := q _ sH
    rw [e] at this
    exact this
theorem scRBars : FnScope ["bars", "bar"] ["bars"] (defScope sRBars) := ⟨rfl, rfl, rfl, by decide +kernel, rfl, by decide +kernel, by decide +kernel⟩
theorem ndPm : ([Str.ofString "parameter"] : List Str).Nodup := by decide +kernel
theorem scRTwice : FnScope ["parameters", "bars", "seen", "name"] ["parameters", "bars"] (defScope sRTwice) := ⟨rfl, rfl, rfl, by decide +kernel, rfl, by decide +kernel, by decide +kernel⟩
end
end K16

set_option Elab.async false
set_option linter.all false
set_option maxRecDepth 100000
set_option maxHeartbeats 4000000
namespace K16
open PySem L2 PyProof.Rows
def SX (f : Addr) (H H' : Hp) : Prop := ∀ b u, H b = some u → b ≠ f → H' b = some u
theorem SX.same {f : Addr} {H H1 H2 : Hp} (x : SX f H H1) (s : Same H1 H2) : SX f H H2 := fun b u e n => s b u (x b u e n)
theorem SX.upd {f : Addr} {H H1 : Hp} {o : HO} (x : SX f H H1) : SX f H (upd H1 f o) := fun b u e n => by rw [upd_ne n]; exact x b u e n
theorem SX.refl {f : Addr} {H : Hp} : SX f H H := fun _ _ e _ => e
theorem putF_le (f : Str) (v : V) : ∀ fs : List (Str × V), (putF f v fs).length ≤ fs.length + 1
  | [] => Nat.le_refl _
  | (g, x) :: r => by
    show (if g = f then (g, v) :: r else (g, x) :: putF f v r).length ≤ _
    split
    · simp
    · have := putF_le f v r
      simp only [List.length_cons]
      omega
def Pre (fs : List (Str × V)) : Prop := fs.length ≤ 50 ∧ ∀ m, m ∉ attrs → fs.lookup m = none
structure FC (K : PySem.W.Frag) (CF : Addr) : Prop where
  cl : Cls K CF
  n1 : NoAttr K CF "row"
  n2 : NoAttr K CF "bar_names"
  n3 : NoAttr K CF "place_count"
  n4 : NoAttr K CF "tail_number"
  n5 : NoAttr K CF "bag_number"
  n6 : NoAttr K CF "doors"
def spKeep (c : C5) (CF : Addr) : Sp := fun vs H Q _ => ∃ (f a b dx : Addr) (fs : List (Str × V)) (ps : List Addr) (rows : List Rw) (bars : List Str), vs = [.ref f, .ref a, .ref b] ∧ H f = some (.ins CF dx fs) ∧ Pre fs ∧ H a = some (.lst (ps.map V.ref)) ∧ Paired (PAt c H) ps rows ∧ (∀ r ∈ rows, r.ok) ∧ rows.length ≤ 500 ∧ H b = some (.lst (bars.map V.str)) ∧
  ∀ H', SX f H H' → FormN c CF H H' f rows bars → (∃ dx' fs', H' f = some (.ins CF dx' fs') ∧ fs'.length ≤ fs.length + 6) → Q .non H'
theorem pl_take {rows : List Rw} {i : Nat} {r : Rw} (h : rows[i]? = some r) : plN (rows.take (i + 1)) = plN (rows.take i) + (if byPl r.k = true then 1 else 0) := by
  have hi : i < rows.length := (List.getElem?_eq_some_iff.mp h).1
  have e : rows[i] = r := by rw [List.getElem?_eq_getElem hi] at h; exact Option.some.inj h
  unfold plN
  rw [List.take_succ_eq_append_getElem hi, List.filter_append, List.length_append, e]
  cases hb : byPl r.k <;> simp [hb]
theorem doors_len : ∀ (rows : List Rw) (i : Nat) (acc : List (Key × V)), (doorsF i acc rows).length ≤ acc.length + rows.length
  | [], _, _ => Nat.le_refl _
  | r :: rs, i, acc => by
    have h := doors_len rs (i + 1) (if byNm r.k = true then putK acc (.inr r.z) (.int i) else acc)
    have h2 : (if byNm r.k = true then putK acc (.inr r.z) (.int i) else acc).length ≤ acc.length + 1 := by
      split
      · exact length_putK acc _ _
      · omega
    show (doorsF (i + 1) _ rs).length ≤ acc.length + (rs.length + 1)
    omega
theorem doorsF_take {r : Rw} : ∀ (rows : List Rw) (j i : Nat) (acc : List (Key × V)), rows[i]? = some r → doorsF j acc (rows.take (i + 1)) = (if byNm r.k = true then putK (doorsF j acc (rows.take i)) (.inr r.z) (.int (j + i : Nat)) else doorsF j acc (rows.take i))
  | [], _, _, _, h => by simp at h
  | r0 :: rs, j, 0, acc, h => by
    have e : r0 = r := by simpa using h
    subst e
    show (if byNm r0.k = true then putK acc (.inr r0.z) (.int j) else acc) = _
    rfl
  | r0 :: rs, j, i + 1, acc, h => by
    have := doorsF_take rs (j + 1) i (if byNm r0.k = true then putK acc (.inr r0.z) (.int j) else acc) (by simpa using h)
    show doorsF (j + 1) _ (rs.take (i + 1)) = _
    rw [this, show j + 1 + i = j + (i + 1) by omega]
    rfl
section
variable {P : Program} {w : World} {K : PySem.W.Frag} {mg : Str → Option Value} {base : Heap} {f G sg CF : Addr} {fd : FuncData} {c : C5} {m : MA}
theorem PAt.ne {H : Hp} {p f CF dx : Addr} {r : Rw} {fs : List (Str × V)} (h : PAt c H p r) (e : H f = some (.ins CF dx fs)) (n : fs.lookup ("word" : Str) = none) : p ≠ f := fun z => by
  obtain ⟨d, h⟩ := h
  rw [z, e] at h
  injection h with h
  injection h with h1 h2 h3
  rw [h3, pf_word] at n
  cases n
theorem pats_sx {H H' : Hp} {f CF dx : Addr} {fs : List (Str × V)} (e : H f = some (.ins CF dx fs)) (n : fs.lookup ("word" : Str) = none) (x : SX f H H') {ps : List Addr} {rows : List Rw} (h : Paired (PAt c H) ps rows) : Paired (PAt c H') ps rows :=
  Paired.imp' (fun _ _ z => by
    have ne := z.ne e n
    obtain ⟨d, q⟩ := z
    exact ⟨d, x _ _ q ne⟩) h
theorem ndAP : ([Str.ofString "at", Str.ofString "parameter"] : List Str).Nodup := by decide +kernel
theorem scKeep : FnScope ["self", "parameters", "bars"] ["self", "parameters", "bars"] (defScope sKeep) := ⟨rfl, rfl, rfl, by decide +kernel, rfl, by decide +kernel, by decide +kernel⟩
theorem ok_keep {g : Addr} {gd gp gb : FuncData} (F : Fun K "keep" "Form.keep" sKeep f fd) (T : TxtF w K mg G sg) (PP : Pcs K m c) (FK : FC K CF) (cW : Callee P w K mg base 1 "number_of_word" g gd ["parameters", "word"] (spNW c))
    (GP : FnOk P w K mg base CX0 1 m.fP gp ["self"] (spIn K m bpL)) (bP : Binds K gp ["self"] []) (GB : FnOk P w K mg base CX0 1 m.fB gb ["self"] (spIn K m bnL)) (bB : Binds K gb ["self"] []) : FnOk P w K mg base CX0 2 f fd ["self", "parameters", "bars"] (spKeep c CF) := by
  refine F.ok scKeep (fun vs H Q E h => ?_) (fun cdv A outer s H vs Q E hr h => ?_)
  · obtain ⟨f, a, b, dx, fs, ps, rows, bars, rfl, _⟩ := h
    rfl
  obtain ⟨f, a, b, dx, fs, ps, rows, bars, rfl, hf, ⟨pl, pn⟩, ha, hp, hok, l5, hb, q⟩ := h
  have hP : ∀ C, Cs5 c C → Cls K C ∧ Meth K C "by_place" m.fP := fun C ⟨k, hk, e⟩ => by rw [e]; exact ⟨(PP k hk).cl, (PP k hk).mP⟩
  have hB : ∀ C, Cs5 c C → Cls K C ∧ Meth K C "by_name" m.fB := fun C ⟨k, hk, e⟩ => by rw [e]; exact ⟨(PP k hk).cl, (PP k hk).mB⟩
  have nw : fs.lookup ("word" : Str) = none := pn _ (by decide +kernel)
  refine ⟨_, pss_cons (ps_fld (pv 0) (cTy call_list_of T.lst PyProof.Rows.boot_list (ac (pv 1) pa_nil)) rfl)
    (pss_cons (ps_fld (pv 0) (cTy call_list_of T.lst PyProof.Rows.boot_list (ac (pv 2) pa_nil)) rfl)
    (pss_cons (ps_fld (pv 0) (cB call_len_seq T.len PySem.boot_len (ac (pe_lc [] ["parameter"] [none] rfl ⟨rfl, rfl, rfl, rfl⟩ (pi_list (pe_fld (pv 0) rfl)) (gown_name 0) rfl rfl rfl
        (fun pins fp s H C => ⟨pg_name (i := 0) ndPm rfl (Or.inl rfl) (.inr rfl), pif_one (pt_val (pe_methP (pv 0) hP GP hr bP pass0)), pv 0⟩)) pa_nil)) rfl)
    (pss_cons (ps_fld (pv 0) (cF cW hr (ac (pe_fld (pv 0) rfl) (ac pe_str pa_nil))) rfl)
    (pss_cons (ps_fld (pv 0) (cF cW hr (ac (pe_fld (pv 0) rfl) (ac pe_str pa_nil))) rfl)
    (pss_one (ps_fld (pv 0) (pe_dc [] ["at", "parameter"] [none, none] rfl ⟨rfl, rfl, rfl, rfl⟩ (pi_enum rfl T.en (ac (pe_fld (pv 0) rfl) pa_nil)) (gown_tup2 (K := K) (n := 2) 0 1) rfl rfl rfl
        (fun pins fp s H C => ⟨pg_tup rfl (pgs_cons (pg_name (i := 0) ndAP rfl (Or.inl rfl) (.inr rfl)) (pgs_cons (pg_name (i := 1) ndAP rfl (Or.inl rfl) (.inr rfl)) pgs_nil)), pif_one (pt_val (pe_methP (pv 1) hB GB hr bB pass0)), pe_fldK (K := K) rfl (pv 1) rfl, pv 0⟩)) rfl)))))), ?_⟩
  -- row
  refine ⟨_, rfl, a, _, rfl, .inl (SqL.of ha), fun l1 hl1 => ?_⟩
  have s1 := same_new hl1 (.lst (ps.map V.ref))
  refine ⟨_, rfl, f, CF, dx, fs, rfl, s1 _ _ hf, FK.cl, FK.n1, (by omega), ?_⟩
  have x1 : SX f H (upd (upd H l1 (.lst (ps.map V.ref))) f (.ins CF dx (putF "row" (.ref l1) fs))) := (SX.refl.same s1).upd
  have f1 : upd (upd H l1 (.lst (ps.map V.ref))) f (.ins CF dx (putF "row" (.ref l1) fs)) f = some (.ins CF dx (putF "row" (.ref l1) fs)) := upd_same
  have e1 : upd (upd H l1 (.lst (ps.map V.ref))) f (.ins CF dx (putF "row" (.ref l1) fs)) l1 = some (.lst (ps.map V.ref)) := by
    rw [upd_ne (fun z => by rw [z, hf] at hl1; cases hl1), upd_same]
  have p1 := putF_le "row" (.ref l1) fs
  have r1 : (putF "row" (.ref l1) fs).lookup ("row" : Str) = some (.ref l1) := by rw [lookup_putF, if_pos rfl]
  show tSeq _ _ _ _ (upd (upd H l1 (.lst (ps.map V.ref))) f (.ins CF dx (putF "row" (.ref l1) fs)))
  generalize upd (upd H l1 (.lst (ps.map V.ref))) f (.ins CF dx (putF "row" (.ref l1) fs)) = H1 at x1 f1 e1 ⊢
  have nbf : b ≠ f := ne_of hb hf (by intro z; cases z)
  -- bar_names
  refine ⟨_, rfl, b, _, rfl, .inl (SqL.of (x1 _ _ hb nbf)), fun l2 hl2 => ?_⟩
  have s2 := same_new hl2 (.lst (bars.map V.str))
  have hlb : H l2 = none := by
    cases e : H l2 with
    | none => rfl
    | some u => exact absurd (x1 _ _ e (fun z => by rw [z, f1] at hl2; cases hl2)) (by rw [hl2]; intro z; cases z)
  refine ⟨_, rfl, f, CF, dx, _, rfl, s2 _ _ f1, FK.cl, FK.n2, (by omega), ?_⟩
  have x2 : SX f H (upd (upd H1 l2 (.lst (bars.map V.str))) f (.ins CF dx (putF "bar_names" (.ref l2) (putF "row" (.ref l1) fs)))) := (x1.same s2).upd
  have f2 : upd (upd H1 l2 (.lst (bars.map V.str))) f (.ins CF dx (putF "bar_names" (.ref l2) (putF "row" (.ref l1) fs))) f = some (.ins CF dx (putF "bar_names" (.ref l2) (putF "row" (.ref l1) fs))) := upd_same
  have g2 : upd (upd H1 l2 (.lst (bars.map V.str))) f (.ins CF dx (putF "bar_names" (.ref l2) (putF "row" (.ref l1) fs))) l2 = some (.lst (bars.map V.str)) := by
    rw [upd_ne (fun z => by rw [z, f1] at hl2; cases hl2), upd_same]
  have e2 : upd (upd H1 l2 (.lst (bars.map V.str))) f (.ins CF dx (putF "bar_names" (.ref l2) (putF "row" (.ref l1) fs))) l1 = some (.lst (ps.map V.ref)) := by
    rw [upd_ne (ne_of e1 f1 (by intro z; cases z)), s2 _ _ e1]
  have p2 := putF_le "bar_names" (.ref l2) (putF "row" (.ref l1) fs)
  have r2 : (putF "bar_names" (.ref l2) (putF "row" (.ref l1) fs)).lookup ("row" : Str) = some (.ref l1) := by rw [lookup_putF, if_neg (by decide +kernel)]; exact r1
  show tSeq _ _ _ _ (upd (upd H1 l2 (.lst (bars.map V.str))) f (.ins CF dx (putF "bar_names" (.ref l2) (putF "row" (.ref l1) fs))))
  generalize hfs2 : putF "bar_names" (.ref l2) (putF "row" (.ref l1) fs) = fs2 at f2 e2 g2 p2 r2 x2 ⊢
  generalize upd (upd H1 l2 (.lst (bars.map V.str))) f (.ins CF dx fs2) = H2 at x2 f2 e2 g2 ⊢
  have hp2 := pats_sx hf nw x2 hp
  -- place_count
  refine ⟨_, rfl, f, CF, dx, _, _, rfl, f2, FK.cl, FK.n1, r2, l1, rfl, ⟨_, SqL.of e2⟩, fun D hD => ?_⟩
  refine lc_list (K := K) (xs := ps.map V.ref) (fun i ys H' => Same H2 H' ∧ H' D = some (.lst ys) ∧ ys.length = plN (rows.take i)) ⟨same_new hD _, upd_same, rfl⟩ (fun i ys H' h => SqL.of (h.1 _ _ e2)) ?_ ?_
  · rintro i x ys H' hlt hx ⟨sH, hDy, ey⟩
    obtain ⟨pa, hpa, rfl⟩ := refs_at hx
    obtain ⟨r, hr', dx', hdx⟩ := paired_at hp2 hpa
    have rok := hok r (List.mem_of_getElem? hr')
    have C := PP r.k rok.1
    have nl : ys.length ≤ i := by
      rw [ey]
      unfold plN
      refine Nat.le_trans (List.length_filter_le _ _) ?_
      rw [List.length_take]
      omega
    have hd2 := sH _ _ hdx
    refine ⟨_, rfl, pa, _, dx', _, rfl, ⟨r.k, rok.1, rfl⟩, hd2, pf_no (by decide +kernel) (by decide +kernel) (by decide +kernel), pa, dx', _, _, _, _, rfl, C, hd2, _, rfl, ?_⟩
    rw [in_pl r.k rok.1]
    have tk := pl_take hr'
    refine ⟨fun e => ?_, fun e => ?_⟩
    · rw [e, if_pos rfl] at tk
      refine ⟨_, rfl, lcN.mk hlt (le1000 (by rw [List.length_map, hp.length]; omega)) hDy nl ⟨fun b u e => ?_, upd_same, ?_⟩⟩
      · rw [upd_ne (ne_of_none e hD)]
        exact sH b u e
      · rw [List.length_append, ey, tk]
        rfl
    · rw [e, if_neg Bool.false_ne_true] at tk
      exact lcS.mk hlt ⟨sH, hDy, by rw [ey, tk]; rfl⟩
  rintro ys H3 ⟨s3, hDy, ey⟩
  rw [List.length_map, hp.length, List.take_length] at ey
  refine ⟨D, _, rfl, .inl (SqL.of hDy), ?_⟩
  rw [ey]
  have x3 := x2.same s3
  refine ⟨_, rfl, f, CF, dx, _, rfl, s3 _ _ f2, FK.cl, FK.n3, (by omega), ?_⟩
  have f3 : upd H3 f (.ins CF dx (putF "place_count" (.int (plN rows : Nat)) fs2)) f = some (.ins CF dx (putF "place_count" (.int (plN rows : Nat)) fs2)) := upd_same
  have x4 : SX f H (upd H3 f (.ins CF dx (putF "place_count" (.int (plN rows : Nat)) fs2))) := x3.upd
  have e4 : upd H3 f (.ins CF dx (putF "place_count" (.int (plN rows : Nat)) fs2)) l1 = some (.lst (ps.map V.ref)) := by rw [upd_ne (ne_of e2 f2 (by intro z; cases z))]; exact s3 _ _ e2
  have g4 : upd H3 f (.ins CF dx (putF "place_count" (.int (plN rows : Nat)) fs2)) l2 = some (.lst (bars.map V.str)) := by rw [upd_ne (ne_of g2 f2 (by intro z; cases z))]; exact s3 _ _ g2
  have p3 := putF_le "place_count" (.int (plN rows : Nat)) fs2
  have r3 : (putF "place_count" (.int (plN rows : Nat)) fs2).lookup ("row" : Str) = some (.ref l1) := by rw [lookup_putF, if_neg (by decide +kernel)]; exact r2
  show tSeq _ _ _ _ (upd H3 f (.ins CF dx (putF "place_count" (.int (plN rows : Nat)) fs2)))
  generalize hfs3 : putF "place_count" (.int (plN rows : Nat)) fs2 = fs3 at f3 x4 e4 g4 p3 r3 ⊢
  generalize upd H3 f (.ins CF dx fs3) = H4 at x4 f3 e4 g4 ⊢
  -- tail_number
  refine ⟨_, rfl, f, CF, dx, _, _, rfl, f3, FK.cl, FK.n1, r3, l1, ps, rows, 2, rfl, by decide, e4, pats_sx hf nw x4 hp, hok, fun H5 s5 => ?_⟩
  refine ⟨_, rfl, f, CF, dx, _, rfl, s5 _ _ f3, FK.cl, FK.n4, (by omega), ?_⟩
  have f5 : upd H5 f (.ins CF dx (putF "tail_number" (numV (firstK 2 0 rows)) fs3)) f = some (.ins CF dx (putF "tail_number" (numV (firstK 2 0 rows)) fs3)) := upd_same
  have x5 : SX f H (upd H5 f (.ins CF dx (putF "tail_number" (numV (firstK 2 0 rows)) fs3))) := (x4.same s5).upd
  have e5 : upd H5 f (.ins CF dx (putF "tail_number" (numV (firstK 2 0 rows)) fs3)) l1 = some (.lst (ps.map V.ref)) := by rw [upd_ne (ne_of e4 f3 (by intro z; cases z))]; exact s5 _ _ e4
  have g5 : upd H5 f (.ins CF dx (putF "tail_number" (numV (firstK 2 0 rows)) fs3)) l2 = some (.lst (bars.map V.str)) := by rw [upd_ne (ne_of g4 f3 (by intro z; cases z))]; exact s5 _ _ g4
  have p4 := putF_le "tail_number" (numV (firstK 2 0 rows)) fs3
  have r4 : (putF "tail_number" (numV (firstK 2 0 rows)) fs3).lookup ("row" : Str) = some (.ref l1) := by rw [lookup_putF, if_neg (by decide +kernel)]; exact r3
  show tSeq _ _ _ _ (upd H5 f (.ins CF dx (putF "tail_number" (numV (firstK 2 0 rows)) fs3)))
  generalize hfs4 : putF "tail_number" (numV (firstK 2 0 rows)) fs3 = fs4 at f5 x5 e5 g5 p4 r4 ⊢
  generalize upd H5 f (.ins CF dx fs4) = H6 at x5 f5 e5 g5 ⊢
  -- bag_number
  refine ⟨_, rfl, f, CF, dx, _, _, rfl, f5, FK.cl, FK.n1, r4, l1, ps, rows, 4, rfl, by decide, e5, pats_sx hf nw x5 hp, hok, fun H7 s7 => ?_⟩
  refine ⟨_, rfl, f, CF, dx, _, rfl, s7 _ _ f5, FK.cl, FK.n5, (by omega), ?_⟩
  have f7 : upd H7 f (.ins CF dx (putF "bag_number" (numV (firstK 4 0 rows)) fs4)) f = some (.ins CF dx (putF "bag_number" (numV (firstK 4 0 rows)) fs4)) := upd_same
  have x7 : SX f H (upd H7 f (.ins CF dx (putF "bag_number" (numV (firstK 4 0 rows)) fs4))) := (x5.same s7).upd
  have e7 : upd H7 f (.ins CF dx (putF "bag_number" (numV (firstK 4 0 rows)) fs4)) l1 = some (.lst (ps.map V.ref)) := by rw [upd_ne (ne_of e5 f5 (by intro z; cases z))]; exact s7 _ _ e5
  have g7 : upd H7 f (.ins CF dx (putF "bag_number" (numV (firstK 4 0 rows)) fs4)) l2 = some (.lst (bars.map V.str)) := by rw [upd_ne (ne_of g5 f5 (by intro z; cases z))]; exact s7 _ _ g5
  have p5 := putF_le "bag_number" (numV (firstK 4 0 rows)) fs4
  have r5 : (putF "bag_number" (numV (firstK 4 0 rows)) fs4).lookup ("row" : Str) = some (.ref l1) := by rw [lookup_putF, if_neg (by decide +kernel)]; exact r4
  generalize hfs5 : putF "bag_number" (numV (firstK 4 0 rows)) fs4 = fs5 at f7 x7 e7 g7 p5 r5 ⊢
  generalize upd H7 f (.ins CF dx fs5) = H8 at x7 f7 e7 g7 ⊢
  have hp8 := pats_sx hf nw x7 hp
  -- doors
  refine ⟨_, rfl, f, CF, dx, _, _, rfl, f7, FK.cl, FK.n1, r5, l1, rfl, ⟨_, SqL.of e7⟩, fun D2 hD2 => ?_⟩
  refine dc_enum (K := K) (xs := ps.map V.ref) (fun i ys H' => Same H8 H' ∧ H' D2 = some (.dK ys) ∧ ys = doorsF 0 [] (rows.take i)) ⟨same_new hD2 _, upd_same, rfl⟩ (fun i ys H' h => SqL.of (h.1 _ _ e7)) ?_ ?_
  · rintro i x p ys H' hlt hx ⟨sH, hDy, ey⟩ hpn
    obtain ⟨pa, hpa, rfl⟩ := refs_at hx
    obtain ⟨r, hr', dx', hdx⟩ := paired_at hp8 hpa
    have rok := hok r (List.mem_of_getElem? hr')
    have C := PP r.k rok.1
    have sp := same_new hpn (.tup [.int (i : Nat), .ref pa])
    have hd2 := sp _ _ (sH _ _ hdx)
    have hDp : upd H' p (.tup [.int (i : Nat), .ref pa]) D2 = some (.dK ys) := by rw [upd_ne (ne_of_none hDy hpn)]; exact hDy
    have nl : ys.length ≤ i := by
      rw [ey]
      refine Nat.le_trans (doors_len _ _ _) ?_
      rw [List.length_take]
      show 0 + _ ≤ i
      omega
    refine ⟨p, _, rfl, SqT.of upd_same, rfl, _, _, rfl, _, _, rfl, rfl, ?_⟩
    refine ⟨_, rfl, pa, _, dx', _, rfl, ⟨r.k, rok.1, rfl⟩, hd2, pf_no (by decide +kernel) (by decide +kernel) (by decide +kernel), pa, dx', _, _, _, _, rfl, C, hd2, _, rfl, ?_⟩
    rw [in_nm r.k rok.1]
    have tk := doorsF_take rows 0 i [] hr'
    refine ⟨fun e => ?_, fun e => ?_⟩
    · rw [e, if_pos rfl] at tk
      refine ⟨_, rfl, pa, _, dx', _, _, rfl, hd2, C.cl, C.nN, pf_name, _, rfl, dcN.mk (.inr r.z) hlt rfl (le1000 (by rw [List.length_map, hp.length]; omega)) hDp nl ⟨fun b u e => ?_, upd_same, ?_⟩⟩
      · rw [upd_ne (ne_of_none e hD2)]
        exact sp _ _ (sH b u e)
      · rw [tk, ← ey, Nat.zero_add]
    · rw [e, if_neg Bool.false_ne_true] at tk
      exact dcS.mk hlt ⟨sH.trans sp, hDp, by rw [ey, tk]⟩
  rintro ys H9 ⟨s9, hDy, ey⟩
  rw [List.length_map, hp.length, List.take_length] at ey
  refine ⟨_, rfl, f, CF, dx, _, rfl, s9 _ _ f7, FK.cl, FK.n6, (by omega), ?_⟩
  have nf : ∀ {x : Addr} {o : HO}, H9 x = some o → (∀ C d g, o ≠ .ins C d g) → upd H9 f (.ins CF dx (putF "doors" (.ref D2) fs5)) x = some o := fun {x o} e n => by
    rw [upd_ne (ne_of e (s9 _ _ f7) (by intro z; exact n _ _ _ z))]
    exact e
  refine q _ (x7.same s9).upd ⟨dx, _, l1, l2, D2, ps, upd_same, ?_, nf (s9 _ _ e7) (by intro _ _ _ z; cases z), pats_sx hf nw (x7.same s9).upd hp, nf (s9 _ _ g7) (by intro _ _ _ z; cases z), nf (by rw [hDy, ey]) (by intro _ _ _ z; cases z), hl1, hlb⟩ ⟨dx, _, upd_same, Nat.le_trans (putF_le _ _ _) (by omega)⟩
  rw [← hfs5, ← hfs4, ← hfs3, ← hfs2]
  refine ⟨?_, ?_, ?_, ?_, ?_, ?_, fun mm hm => ?_⟩
  · rw [lookup_putF, if_neg (by decide +kernel), lookup_putF, if_neg (by decide +kernel), lookup_putF, if_neg (by decide +kernel), lookup_putF, if_neg (by decide +kernel), lookup_putF, if_neg (by decide +kernel), lookup_putF, if_pos rfl]
  · rw [lookup_putF, if_neg (by decide +kernel), lookup_putF, if_neg (by decide +kernel), lookup_putF, if_neg (by decide +kernel), lookup_putF, if_neg (by decide +kernel), lookup_putF, if_pos rfl]
  · rw [lookup_putF, if_neg (by decide +kernel), lookup_putF, if_neg (by decide +kernel), lookup_putF, if_neg (by decide +kernel), lookup_putF, if_pos rfl]
  · rw [lookup_putF, if_neg (by decide +kernel), lookup_putF, if_neg (by decide +kernel), lookup_putF, if_pos rfl]
  · rw [lookup_putF, if_neg (by decide +kernel), lookup_putF, if_pos rfl]
  · rw [lookup_putF, if_pos rfl]
  · have h' : ∀ a ∈ attrs, ¬ mm = a := fun a ha e => hm (e ▸ ha)
    rw [lookup_putF, if_neg (h' _ (by decide +kernel)), lookup_putF, if_neg (h' _ (by decide +kernel)), lookup_putF, if_neg (h' _ (by decide +kernel)), lookup_putF, if_neg (h' _ (by decide +kernel)), lookup_putF, if_neg (h' _ (by decide +kernel)), lookup_putF, if_neg (h' _ (by decide +kernel))]
    exact pn mm hm
end
end K16

set_option Elab.async false
set_option linter.all false
set_option maxRecDepth 100000
set_option maxHeartbeats 4000000
namespace K16
open PySem L2 PyProof.Rows
def TAt (H : Hp) (u : Addr) (r : Rw) : Prop := H u = some (.tup (rv r))
def spFTold (c : C5) (CF : Addr) : Sp := fun vs H Q _ => ∃ (f : Addr) (rows : List Rw) (bars : List Str), vs = [.ref f] ∧ (∀ r ∈ rows, r.ok) ∧ rows.length ≤ 500 ∧ FormAt c CF H f rows bars ∧ ∀ (t l1 l2 : Addr) (us : List Addr) (H' : Hp), Same H H' → H l1 = none → H l2 = none → l1 ≠ l2 → H' t = some (.tup [.ref l1, .ref l2]) →
  H' l1 = some (.lst (us.map V.ref)) → Paired (TAt H') us rows → H' l2 = some (.lst (bars.map V.str)) → Q (.ref t) H'
theorem tats_same {H H' : Hp} {us : List Addr} {rows : List Rw} (s : Same H H') (h : Paired (TAt H) us rows) : Paired (TAt H') us rows := Paired.imp' (fun _ _ z => s _ _ z) h
section
variable {P : Program} {w : World} {K : PySem.W.Frag} {mg : Str → Option Value} {base : Heap} {f G sg CF : Addr} {fd : FuncData} {c : C5} {m : MA}
theorem scFInit : FnScope ["self", "parameters", "bars", "names"] ["self", "parameters", "bars"] (defScope sFInit) := ⟨rfl, rfl, rfl, by decide +kernel, rfl, by decide +kernel, by decide +kernel⟩
theorem scFTold : FnScope ["self"] ["self"] (defScope sFTold) := ⟨rfl, rfl, rfl, by decide +kernel, rfl, by decide +kernel, by decide +kernel⟩
theorem ok_ftold {gd : FuncData} (F : Fun K "told" "Form.told" sFTold f fd) (T : TxtF w K mg G sg) (FK : FC K CF) (PP : Pcs K m c) (GO : FnOk P w K mg base CX0 2 m.fO gd ["self"] (spTold K m)) (bO : Binds K gd ["self"] []) : FnOk P w K mg base CX0 3 f fd ["self"] (spFTold c CF) := by
  refine F.ok scFTold (fun vs H Q E h => ?_) (fun cdv A outer s H vs Q E hr h => ?_)
  · obtain ⟨f, rows, bars, rfl, _⟩ := h
    rfl
  obtain ⟨f, rows, bars, rfl, hok, l5, ⟨dx, fs, lr, lb, ld, ps, h1, h2, h3, h4, h5, h6⟩, q⟩ := h
  have hO : ∀ C, Cs5 c C → Cls K C ∧ Meth K C "told" m.fO := fun C ⟨k, hk, e⟩ => by rw [e]; exact ⟨(PP k hk).cl, (PP k hk).mO⟩
  refine ⟨_, pss_one (ps_ret (pe_tup (ac (pe_lc [] ["parameter"] [none] rfl ⟨rfl, rfl, rfl, rfl⟩ (pi_list (pe_fld (pv 0) rfl)) (gown_name 0) rfl rfl rfl
      (fun pins fp s H C => ⟨pg_name (i := 0) ndPm rfl (Or.inl rfl) (.inr rfl), pif_nil, pe_methP (pv 0) hO GO hr bO pass0⟩)) (ac (cTy call_list_of T.lst PyProof.Rows.boot_list (ac (pe_fld (pv 0) rfl) pa_nil)) pa_nil)))), ?_⟩
  refine ⟨_, rfl, f, CF, dx, _, _, rfl, h1, FK.cl, FK.n1, h2.row, lr, rfl, ⟨_, SqL.of h3⟩, fun D hD => ?_⟩
  refine lc_list (K := K) (xs := ps.map V.ref) (fun i ys H' => Same H H' ∧ H' D = some (.lst ys) ∧ ∃ us, ys = us.map V.ref ∧ Paired (TAt H') us (rows.take i)) ⟨same_new hD _, upd_same, [], rfl, .nil⟩ (fun i ys H' h => SqL.of (h.1 _ _ h3)) ?_ ?_
  · rintro i x ys H' hlt hx ⟨sH, hDy, us, ey, pu⟩
    obtain ⟨pa, hpa, rfl⟩ := refs_at hx
    obtain ⟨r, hr', dx', hdx⟩ := paired_at h4 hpa
    have rok := hok r (List.mem_of_getElem? hr')
    have C := PP r.k rok.1
    have hd2 := sH _ _ hdx
    have hi : i < rows.length := (List.getElem?_eq_some_iff.mp hr').1
    have er : rows[i] = r := by rw [List.getElem?_eq_getElem hi] at hr'; exact Option.some.inj hr'
    refine ⟨fun _ => ?_, fun e => Bool.noConfusion e⟩
    refine ⟨_, rfl, pa, _, dx', _, rfl, ⟨r.k, rok.1, rfl⟩, hd2, pf_no (by decide +kernel) (by decide +kernel) (by decide +kernel), pa, dx', _, r.k, .str r.z, r.b, rfl, rok.1, C, hd2, fun u H2 s2 hu2 => ?_⟩
    have nl : ys.length ≤ i := by
      rw [ey, List.length_map, pu.length, List.length_take]
      omega
    have nDu : u ≠ D := fun z => by
      rw [z, s2 _ _ hDy] at hu2
      cases hu2
    refine lcN.mk hlt (le1000 (by rw [List.length_map, h4.length]; omega)) (s2 _ _ hDy) nl ⟨fun b u' e => ?_, upd_same, us ++ [u], by rw [ey, List.map_append]; rfl, ?_⟩
    · rw [upd_ne (ne_of_none e hD)]
      exact s2 _ _ (sH b u' e)
    · rw [List.take_succ_eq_append_getElem hi, er]
      refine Paired.snoc (Paired.imp' (fun v r' z => ?_) pu) ?_
      · have z2 : H2 v = some (.tup (rv r')) := s2 _ _ z
        show upd H2 D _ v = some (.tup (rv r'))
        rw [upd_ne (fun e => by rw [e, s2 _ _ hDy] at z2; cases z2)]
        exact z2
      · show upd H2 D _ u = some (.tup (rv r))
        rw [upd_ne nDu]
        exact hu2
  rintro ys H2 ⟨s2, hDy, us, rfl, pu⟩
  rw [List.length_map, h4.length, List.take_length] at pu
  refine ⟨_, rfl, f, CF, dx, _, _, rfl, s2 _ _ h1, FK.cl, FK.n2, h2.bn, lb, _, rfl, .inl (SqL.of (s2 _ _ h5)), fun l2 hl2 => ?_⟩
  have s3 := same_new hl2 (.lst (bars.map V.str))
  refine ⟨(by show 2 ≤ sizeLine; decide), fun t ht => ?_⟩
  have s4 := same_new ht (.tup [.ref D, .ref l2])
  exact q t D l2 us _ (s2.trans (s3.trans s4)) hD (s2.free hl2) (ne_of_none hDy hl2) upd_same (s4 _ _ (s3 _ _ hDy)) (tats_same (s3.trans s4) pu) (s4 _ _ upd_same)
end
end K16

set_option Elab.async false
set_option linter.all false
set_option maxRecDepth 100000
set_option maxHeartbeats 4000000
namespace K16
open PySem L2 PyProof.Rows
theorem tat0 {r : Rw} (h : r.k < 5) : atI (rv r) 0 = some (.str (kw r.k)) := lk_0 h
theorem tat1 {r : Rw} : atI (rv r) 1 = some (.str r.z) := lk_1
section
variable {P : Program} {w : World} {K : PySem.W.Frag} {mg : Str → Option Value} {base : Heap} {f G sg CF : Addr} {fd : FuncData} {c : C5} {m : MA}
end
section
variable {P : Program} {w : World} {K : PySem.W.Frag} {mg : Str → Option Value} {base : Heap} {f N i0 i1 i2 i3 i4 : Addr} {fd d0 d1 d2 d3 d4 : FuncData} {c : C5}
theorem scMade : FnScope ["_law_row"] ["_law_row"] (defScope sMade) := ⟨rfl, rfl, rfl, by decide +kernel, rfl, by decide +kernel, by decide +kernel⟩
theorem ok_made (F : Fun K "_law_made" "_law_made" sMade f fd) (U : Ctors P w K mg base c N i0 i1 i2 i3 i4 d0 d1 d2 d3 d4) :
    FnOk P w K mg base (CXe P w) 5 f fd ["_law_row"] (spMade1 K c N) := by
  refine F.okE scMade (fun vs H Q E h => ?_) (fun cdv A outer s H vs Q E hr h => ?_)
  · obtain ⟨p, k, x, b, rfl, _⟩ := h
    rfl
  obtain ⟨p, k, x, b, rfl, hk, hp, hx, r1, r2⟩ := h
  have hS := SqT.of (K := K) hp
  refine ⟨_, pss_cons (ps_if (pt_cmpR op_eq (pe_ix ix_tup (pv 0) pe_int (fun _ _ => rfl)) pe_str (nomark _)) (pss_one (ps_ret (cMk U.k2 .nil (passE fun _ _ _ z => z) hr (ac (pe_ix ix_tup (pv 0) pe_int (fun _ _ => rfl)) pa_nil)))) pss_nil)
    (pss_cons (ps_if (pt_cmpR op_eq (pe_ix ix_tup (pv 0) pe_int (fun _ _ => rfl)) pe_str (nomark _)) (pss_one (ps_ret (cMk U.k4 .nil (passE fun _ _ _ z => z) hr (ac (pe_ix ix_tup (pv 0) pe_int (fun _ _ => rfl)) pa_nil)))) pss_nil)
    (pss_cons (ps_if (pt_cmpR op_eq (pe_ix ix_tup (pv 0) pe_int (fun _ _ => rfl)) pe_str (nomark _)) (pss_one (ps_ret (pe_ifExp (pt_val (pe_ix ix_tup (pv 0) pe_int (fun _ _ => rfl))) (cMk U.k0 .nil (passE fun _ _ _ z => z) hr (ac (pe_ix ix_tup (pv 0) pe_int (fun _ _ => rfl)) (ac (pe_ix ix_tup (pv 0) pe_int (fun _ _ => rfl)) pa_nil))) (cMk U.e0 vF (passE fun _ _ _ z => z) hr (ac (pe_ix ix_tup (pv 0) pe_int (fun _ _ => rfl)) pa_nil))))) pss_nil)
    (pss_cons (ps_if (pt_cmpR op_eq (pe_ix ix_tup (pv 0) pe_int (fun _ _ => rfl)) pe_str (nomark _)) (pss_one (ps_ret (pe_ifExp (pt_val (pe_ix ix_tup (pv 0) pe_int (fun _ _ => rfl))) (cMk U.k1 .nil (passE fun _ _ _ z => z) hr (ac (pe_ix ix_tup (pv 0) pe_int (fun _ _ => rfl)) (ac (pe_ix ix_tup (pv 0) pe_int (fun _ _ => rfl)) pa_nil))) (cMk U.e1 vF (passE fun _ _ _ z => z) hr (ac (pe_ix ix_tup (pv 0) pe_int (fun _ _ => rfl)) pa_nil))))) pss_nil)
    (pss_one (ps_ret (pe_ifExp (pt_val (pe_ix ix_tup (pv 0) pe_int (fun _ _ => rfl))) (cMk U.k3 .nil (passE fun _ _ _ z => z) hr (ac (pe_ix ix_tup (pv 0) pe_int (fun _ _ => rfl)) (ac (pe_ix ix_tup (pv 0) pe_int (fun _ _ => rfl)) pa_nil))) (cMk U.e3 vF (passE fun _ _ _ z => z) hr (ac (pe_ix ix_tup (pv 0) pe_int (fun _ _ => rfl)) pa_nil)))))))), ?_⟩
  rcases lt5 hk with rfl | rfl | rfl | rfl | rfl
  · refine ⟨_, rfl, p, _, _, .str "seat", rfl, rfl, hS, rfl, rfl, _, rfl, ?_⟩
    refine dF ne02 ?_
    refine ⟨_, rfl, p, _, _, .str "seat", rfl, rfl, hS, rfl, rfl, _, rfl, ?_⟩
    refine dF ne04 ?_
    refine ⟨_, rfl, p, _, _, .str "seat", rfl, rfl, hS, rfl, rfl, _, rfl, ?_⟩
    refine dT rfl ?_
    refine ⟨_, rfl, p, _, _, .bl b, rfl, rfl, hS, rfl, _, rfl, ?_⟩
    cases b with
    | true =>
      refine iteT ?_
      exact ⟨_, rfl, p, _, _, x, rfl, rfl, hS, rfl, _, rfl, p, _, _, .bl true, rfl, rfl, hS, rfl, fun o dx ho hdx ne => ⟨o, dx, x, true, rfl, upd_same, hx.same (same_make0 ho hdx), fun e H1 s1 => ⟨rfl, r1 e o dx _ (same_after ho hdx s1) upd_same⟩, fun e H1 s1 => r2 e _ ((same_make0 ho hdx).trans s1)⟩⟩
    | false =>
      refine iteF ?_
      exact ⟨_, rfl, p, _, _, x, rfl, rfl, hS, rfl, fun o dx ho hdx ne => ⟨o, dx, x, false, rfl, upd_same, hx.same (same_make0 ho hdx), fun e H1 s1 => ⟨rfl, r1 e o dx _ (same_after ho hdx s1) upd_same⟩, fun e H1 s1 => r2 e _ ((same_make0 ho hdx).trans s1)⟩⟩
  · refine ⟨_, rfl, p, _, _, .str "both", rfl, rfl, hS, rfl, rfl, _, rfl, ?_⟩
    refine dF ne12 ?_
    refine ⟨_, rfl, p, _, _, .str "both", rfl, rfl, hS, rfl, rfl, _, rfl, ?_⟩
    refine dF ne14 ?_
    refine ⟨_, rfl, p, _, _, .str "both", rfl, rfl, hS, rfl, rfl, _, rfl, ?_⟩
    refine dF ne10 ?_
    refine ⟨_, rfl, p, _, _, .str "both", rfl, rfl, hS, rfl, rfl, _, rfl, ?_⟩
    refine dT rfl ?_
    refine ⟨_, rfl, p, _, _, .bl b, rfl, rfl, hS, rfl, _, rfl, ?_⟩
    cases b with
    | true =>
      refine iteT ?_
      exact ⟨_, rfl, p, _, _, x, rfl, rfl, hS, rfl, _, rfl, p, _, _, .bl true, rfl, rfl, hS, rfl, fun o dx ho hdx ne => ⟨o, dx, x, true, rfl, upd_same, hx.same (same_make0 ho hdx), fun e H1 s1 => ⟨rfl, r1 e o dx _ (same_after ho hdx s1) upd_same⟩, fun e H1 s1 => r2 e _ ((same_make0 ho hdx).trans s1)⟩⟩
    | false =>
      refine iteF ?_
      exact ⟨_, rfl, p, _, _, x, rfl, rfl, hS, rfl, fun o dx ho hdx ne => ⟨o, dx, x, false, rfl, upd_same, hx.same (same_make0 ho hdx), fun e H1 s1 => ⟨rfl, r1 e o dx _ (same_after ho hdx s1) upd_same⟩, fun e H1 s1 => r2 e _ ((same_make0 ho hdx).trans s1)⟩⟩
  · refine ⟨_, rfl, p, _, _, .str "tail", rfl, rfl, hS, rfl, rfl, _, rfl, ?_⟩
    refine dT rfl ?_
    exact ⟨_, rfl, p, _, _, x, rfl, rfl, hS, rfl, fun o dx ho hdx ne => ⟨o, dx, x, rfl, upd_same, hx.same (same_make0 ho hdx), fun e H1 s1 => ⟨rfl, r1 e o dx _ (same_after ho hdx s1) upd_same⟩, fun e H1 s1 => r2 e _ ((same_make0 ho hdx).trans s1)⟩⟩
  · refine ⟨_, rfl, p, _, _, .str "tag", rfl, rfl, hS, rfl, rfl, _, rfl, ?_⟩
    refine dF ne32 ?_
    refine ⟨_, rfl, p, _, _, .str "tag", rfl, rfl, hS, rfl, rfl, _, rfl, ?_⟩
    refine dF ne34 ?_
    refine ⟨_, rfl, p, _, _, .str "tag", rfl, rfl, hS, rfl, rfl, _, rfl, ?_⟩
    refine dF ne30 ?_
    refine ⟨_, rfl, p, _, _, .str "tag", rfl, rfl, hS, rfl, rfl, _, rfl, ?_⟩
    refine dF ne31 ?_
    refine ⟨_, rfl, p, _, _, .bl b, rfl, rfl, hS, rfl, _, rfl, ?_⟩
    cases b with
    | true =>
      refine iteT ?_
      exact ⟨_, rfl, p, _, _, x, rfl, rfl, hS, rfl, _, rfl, p, _, _, .bl true, rfl, rfl, hS, rfl, fun o dx ho hdx ne => ⟨o, dx, x, true, rfl, upd_same, hx.same (same_make0 ho hdx), fun e H1 s1 => ⟨rfl, r1 e o dx _ (same_after ho hdx s1) upd_same⟩, fun e H1 s1 => r2 e _ ((same_make0 ho hdx).trans s1)⟩⟩
    | false =>
      refine iteF ?_
      exact ⟨_, rfl, p, _, _, x, rfl, rfl, hS, rfl, fun o dx ho hdx ne => ⟨o, dx, x, false, rfl, upd_same, hx.same (same_make0 ho hdx), fun e H1 s1 => ⟨rfl, r1 e o dx _ (same_after ho hdx s1) upd_same⟩, fun e H1 s1 => r2 e _ ((same_make0 ho hdx).trans s1)⟩⟩
  · refine ⟨_, rfl, p, _, _, .str "bag", rfl, rfl, hS, rfl, rfl, _, rfl, ?_⟩
    refine dF ne42 ?_
    refine ⟨_, rfl, p, _, _, .str "bag", rfl, rfl, hS, rfl, rfl, _, rfl, ?_⟩
    refine dT rfl ?_
    exact ⟨_, rfl, p, _, _, x, rfl, rfl, hS, rfl, fun o dx ho hdx ne => ⟨o, dx, x, rfl, upd_same, hx.same (same_make0 ho hdx), fun e H1 s1 => ⟨rfl, r1 e o dx _ (same_after ho hdx s1) upd_same⟩, fun e H1 s1 => r2 e _ ((same_make0 ho hdx).trans s1)⟩⟩
end
end K16

set_option Elab.async false
set_option linter.all false
set_option maxRecDepth 100000
set_option maxHeartbeats 4000000
namespace L2
open PySem PySem.Spec PyProof.Rows
/-- != of two lists that are not of one length -/
def rNLen : R2 := fun x y H Q => ∃ (a c : Addr) (xs ys : List V), x = .ref a ∧ y = .ref c ∧ H a = some (.lst xs) ∧ H c = some (.lst ys) ∧ xs.length ≠ ys.length ∧ Q (.bl true) H
theorem op_neLen {X : Cx} (hu : X.A.units < cLine) : OpR X (compareOp .NotEq) rNLen := by
  intro pins s σ H x y v u Q I rx ry h
  obtain ⟨a, c, xs, ys, rfl, rfl, ha, hc, hn, q⟩ := h
  cases rx
  cases ry
  obtain ⟨its, r, pl, _⟩ := I.list (SqL.of ha)
  obtain ⟨its2, r2, pl2, _⟩ := I.list (SqL.of hc)
  have e1 := r.length
  have e2 := r2.length
  exact SeqAt.RcNeAt.lists_lengths pl.isList pl2.isList (by simp only [List.size_toArray, bne_iff_ne]; omega) hu X.prog X.w X.xe _ ⟨.bl true, H, I, rfl, q⟩
end L2
namespace K16
open PySem L2 PyProof.Rows
def gL : List (Key × V) := [(.inr "seat", .int 0), (.inr "both", .int 0), (.inr "tail", .int 1), (.inr "tag", .int 2), (.inr "bag", .int 3)]
theorem gD_kw : ∀ k : Nat, k < 5 → some (V.int (grp k)) = valV (mergeK [] gL) (.inr (kw k)) := by decide +kernel
theorem cut_take {xs : List V} {n : Nat} : cutV xs none (some (n : Int)) = xs.take n := by
  unfold cutV
  have e0 : HT.sIx xs.length 0 none = 0 := rfl
  rw [e0, List.drop_zero, Nat.sub_zero]
  have e1 : HT.sIx xs.length xs.length (some (n : Int)) = min n xs.length := by
    unfold HT.sIx
    simp
    try omega
  rw [e1]
  by_cases h : n ≤ xs.length
  · rw [Nat.min_eq_left h]
  · rw [Nat.min_eq_right (by omega), List.take_of_length_le (Nat.le_refl _), List.take_of_length_le (by omega)]
end K16

set_option Elab.async false
set_option linter.all false
set_option maxRecDepth 100000
set_option maxHeartbeats 4000000
namespace K16
open PySem L2 PyProof.Rows
/-! ### the mathematics of what is due -/
def misp : Nat → Nat → List Rw → Option Nat
  | _, _, [] => none
  | l, i, r :: rs => if badAt l (grp r.k) = true then some i else misp (grp r.k) (i + 1) rs
def dupF : List Str → List Str → Option Str
  | _, [] => none
  | ss, z :: zs => if z ∈ ss then some z else dupF (ss ++ [z]) zs
def txs (xs : List V) : List Str := xs.filterMap fun x => match x with | .str z => some z | _ => none
inductive Rz where
  | many | order (k : Nat) | name | twice (z : Str) | done
def dueZ (rows : List Rw) (xs : List V) : Rz :=
  if 24 < rows.length ∨ 60 < xs.length then .many else match misp 0 0 rows with
    | some k => .order k
    | none => if xs.all nmV = true then (match dupF [] (nms rows ++ txs xs) with | some z => .twice z | none => .done) else .name
theorem txs_map : ∀ {xs : List V}, xs.all nmV = true → xs = (txs xs).map V.str ∧ ∀ z ∈ txs xs, nameB z = true
  | [], _ => ⟨rfl, fun z hz => by cases hz⟩
  | x :: xs, h => by
    rw [List.all_cons, Bool.and_eq_true] at h
    obtain ⟨h1, h2⟩ := h
    obtain ⟨i1, i2⟩ := txs_map h2
    cases x with
    | str z =>
      have e : txs (.str z :: xs) = z :: txs xs := rfl
      refine ⟨?_, fun y hy => ?_⟩
      · rw [e, List.map_cons, ← i1]
      · rw [e] at hy
        rcases List.mem_cons.mp hy with rfl | hy
        · exact h1
        · exact i2 y hy
    | _ => exact absurd (show false = true from h1) Bool.false_ne_true
def spXI (K : PySem.W.Frag) (nm : Str) : Sp := fun vs H Q _ => ∃ (x C t : Addr) (v : V), vs = [.ref x, v] ∧ H x = some (excX x C none t) ∧ XSet K C ∧ NoAttr K C nm ∧ ∀ dx, H dx = none → Q .non (upd (upd H x (excX x C (some dx) t)) dx (.xd [(nm, v)]))
section
variable {P : Program} {w : World} {K : PySem.W.Frag} {mg : Str → Option Value} {base : Heap} {f G sg : Addr} {fd : FuncData} {c : C5} {m : MA}
theorem scXBad : FnScope ["self", "at"] ["self", "at"] (defScope sXBad) := ⟨rfl, rfl, rfl, by decide +kernel, rfl, by decide +kernel, by decide +kernel⟩
theorem scXTwice : FnScope ["self", "name"] ["self", "name"] (defScope sXTwice) := ⟨rfl, rfl, rfl, by decide +kernel, rfl, by decide +kernel, by decide +kernel⟩
theorem ok_xbad (F : Fun K "__init__" "BadOrder.__init__" sXBad f fd) : FnOk P w K mg base CX0 1 f fd ["self", "at"] (spXI K "at") := by
  refine F.ok scXBad (fun vs H Q E h => ?_) (fun cdv A outer s H vs Q E hr h => ?_)
  · obtain ⟨x, C, t, v, rfl, _⟩ := h
    rfl
  obtain ⟨x, C, t, v, rfl, hx, m, n, q⟩ := h
  refine ⟨_, pss_one (ps_fldX (pv 0) (pv 1) rfl), ?_⟩
  exact ⟨_, rfl, _, rfl, x, C, t, rfl, hx, m, n, q⟩
theorem ok_xtwice (F : Fun K "__init__" "Twice.__init__" sXTwice f fd) : FnOk P w K mg base CX0 1 f fd ["self", "name"] (spXI K "name") := by
  refine F.ok scXTwice (fun vs H Q E h => ?_) (fun cdv A outer s H vs Q E hr h => ?_)
  · obtain ⟨x, C, t, v, rfl, _⟩ := h
    rfl
  obtain ⟨x, C, t, v, rfl, hx, m, n, q⟩ := h
  refine ⟨_, pss_one (ps_fldX (pv 0) (pv 1) rfl), ?_⟩
  exact ⟨_, rfl, _, rfl, x, C, t, rfl, hx, m, n, q⟩
theorem same_drop1 {H H2 : Hp} {x : Addr} {o : HO} (s : Same H H2) (hx : H2 x = none) : Same H (drop (upd H2 x o) x) := fun b u e => by
  have nx : b ≠ x := ne_of_none (s _ _ e) hx
  rw [drop_ne nx, upd_ne nx]
  exact s _ _ e
theorem same_drop2 {H H2 : Hp} {x d : Addr} {o o' o'' : HO} (s : Same H H2) (hx : H2 x = none) (hd : upd H2 x o d = none) : Same H (drop (upd (upd (upd H2 x o) x o') d o'') x) := fun b u e => by
  have nx : b ≠ x := ne_of_none (s _ _ e) hx
  have e2 : upd H2 x o b = some u := by rw [upd_ne nx]; exact s _ _ e
  rw [drop_ne nx, upd_ne (ne_of_none e2 hd), upd_ne nx]
  exact e2
structure PCls (K : PySem.W.Frag) (mg : Str → Option Value) (base : Heap) (x : Str) (C : Addr) : Prop where
  own : OwnCls x C EB "ValueError.__new__" mg base
  kp : PySem.W.keepIn K (.ref C) = true
  ex : ExcCls K C
  xm : xmIn K C = true
structure XCls (P : Program) (w : World) (K : PySem.W.Frag) (mg : Str → Option Value) (base : Heap) (x : Str) (C g : Addr) (gd : FuncData) (a nm : Str) : Prop where
  call : XCall K C g
  set : XSet K C
  no : NoAttr K C nm
  ex : ExcCls K C
  gl : mg x = some (.ref C)
  ok : FnOk P w K mg base CX0 1 g gd ["self", a] (spXI K nm)
  bd : Binds K gd ["self", a] []
theorem drop_at2 {H2 : Hp} {x d : Addr} {o o' o'' : HO} (hd : upd H2 x o d = none) : drop (upd (upd (upd H2 x o) x o') d o'') x d = some o'' := by
  have : d ≠ x := fun z => by rw [z, upd_same] at hd; cases hd
  rw [drop_ne this, upd_same]
def spManyZ (K : PySem.W.Frag) (TM : Addr) : Sp := fun vs H Q E => ∃ (a b : Addr) (xs ys : List V), vs = [.ref a, .ref b] ∧ SqL K H a xs ∧ SqL K H b ys ∧ (xs.length ≤ 24 → ys.length ≤ 60 → Q .non H) ∧ (24 < xs.length ∨ 60 < ys.length → ∀ od H', Same H H' → E (.ref TM) od H')
theorem ok_manyZ {TM : Addr} (F : Fun K "refuse_too_many" "refuse_too_many" sRMany f fd) (T : TxtF w K mg G sg) (pc : PCls K mg base "TooMany" TM) : FnOk P w K mg base (CXs P w) 1 f fd ["parameters", "bars"] (spManyZ K TM) := by
  refine F.okS scRMany (fun vs H Q E h => ?_) (fun cdv A outer s H vs Q E hr h => ?_)
  · obtain ⟨a, b, xs, ys, rfl, _⟩ := h
    rfl
  obtain ⟨a, b, xs, ys, rfl, ha, hb, q1, q2⟩ := h
  obtain ⟨t1, m1⟩ := T.mp
  obtain ⟨t2, m2⟩ := T.mb
  refine ⟨_, pss_cons (ps_if (pt_cmpR op_gt (cB call_len_seq T.len PySem.boot_len (ac (pv 0) pa_nil)) (pe_glob (v := .int 24) rfl m1 ⟨_, rfl⟩) (nomark _)) (pss_one (ps_raiseS raisesS_cx rfl (pe_makeP pc.own pc.kp PySem.F.excBase_ValueError (by decide) PySem.F.excBase_ValueError (ac pe_str pa_nil)))) pss_nil)
    (pss_one (ps_if (pt_cmpR op_gt (cB call_len_seq T.len PySem.boot_len (ac (pv 1) pa_nil)) (pe_glob (v := .int 60) rfl m2 ⟨_, rfl⟩) (nomark _)) (pss_one (ps_raiseS raisesS_cx rfl (pe_makeP pc.own pc.kp PySem.F.excBase_ValueError (by decide) PySem.F.excBase_ValueError (ac pe_str pa_nil)))) pss_nil)), ?_⟩
  refine ⟨_, rfl, a, _, rfl, .inl ha, _, _, rfl, rfl, _, rfl, ?_⟩
  by_cases l1 : xs.length ≤ 24
  · refine dF (by show ¬ (24 : Int) < (xs.length : Int); omega) ?_
    refine ⟨_, rfl, b, _, rfl, .inl hb, _, _, rfl, rfl, _, rfl, ?_⟩
    by_cases l2 : ys.length ≤ 60
    · exact dF (by show ¬ (60 : Int) < (ys.length : Int); omega) (q1 l1 l2)
    · refine dT (by show (60 : Int) < (ys.length : Int); omega) ?_
      exact ⟨by show 1 ≤ sizeLine; decide, fun x tu hx => ⟨x, TM, none, tu, rfl, upd_same, pc.ex, pc.xm, hx, q2 (by omega) _ _ (same_drop1 (Same.refl _) hx)⟩⟩
  · refine dT (by show (24 : Int) < (xs.length : Int); omega) ?_
    exact ⟨by show 1 ≤ sizeLine; decide, fun x tu hx => ⟨x, TM, none, tu, rfl, upd_same, pc.ex, pc.xm, hx, q2 (by omega) _ _ (same_drop1 (Same.refl _) hx)⟩⟩
def spOrdZ (c : C5) (BO : Addr) : Sp := fun vs H Q E => ∃ (a : Addr) (ps : List Addr) (rows : List Rw), vs = [.ref a] ∧ H a = some (.lst (ps.map V.ref)) ∧ Paired (PAt c H) ps rows ∧ (∀ r ∈ rows, r.ok) ∧ (misp 0 0 rows = none → ∀ H', Same H H' → Q .non H') ∧ (∀ k, misp 0 0 rows = some k → ∀ d H', Same H H' → H' d = some (.xd [("at", .int (k : Nat))]) → E (.ref BO) (some d) H')
theorem ok_orderZ {BO g : Addr} {gd : FuncData} (F : Fun K "refuse_bad_order" "refuse_bad_order" sROrder f fd) (T : TxtF w K mg G sg) (PP : Pcs K m c) (X' : XCls P w K mg base "BadOrder" BO g gd "at" "at") : FnOk P w K mg base (CXs P w) 3 f fd ["parameters"] (spOrdZ c BO) := by
  refine F.okS scROrder (fun vs H Q E h => ?_) (fun cdv A outer s H vs Q E hr h => ?_)
  · obtain ⟨a, ps, rows, rfl, _⟩ := h
    rfl
  obtain ⟨a, ps, rows, rfl, ha, hp, hok, q1, q2⟩ := h
  refine ⟨_, pss_cons (ps_set (i := 1) scROrder.nd rfl (Or.inl rfl) pe_int)
    (pss_one (ps_for PassesOwn.leaving rfl (pi_enum rfl T.en (ac (pv 0) pa_nil)) (pg_tup rfl (pgs_cons (pg_name (i := 2) scROrder.nd rfl (Or.inl rfl)) (pgs_cons (pg_name (i := 3) scROrder.nd rfl (Or.inl rfl)) pgs_nil)))
      (pss_cons (ps_set (i := 4) scROrder.nd rfl (Or.inl rfl) (pe_kget T.gt T.mgr (pe_fld (pv 3) rfl)))
      (pss_cons (ps_if (PW.pt (pw_or (pt_cmpR op_lt (pv 4) (pv 1) (nomark _)) (pw_or1 (PW.pt (pw_and (pt_cmpR op_eq (pv 4) (pv 1) (nomark _)) (pw_and1 (pt_cmpR op_in_seq (pv 4) (pe_glob (v := .ref sg) rfl T.ms rfl) (by with_unfolding_all rfl)))))))) (pss_one (ps_raiseS raisesS_cx rfl (pe_makeX X'.call X'.ok hr rfl X'.gl X'.bd pass0 (ac (pv 2) pa_nil)))) pss_nil)
      (pss_one (ps_set (i := 1) scROrder.nd rfl (Or.inl rfl) (pv 4))))))), ?_⟩
  show tSeq _ _ _ _ _
  refine ⟨_, rfl, a, rfl, ⟨_, SqL.of ha⟩, for_enum (K := K) (a := a) (xs := ps.map V.ref) (fun i σ H' => ∃ (l : Nat) (v2 v3 v4 : Option V), σ = [some (.ref a), some (.int (l : Nat)), v2, v3, v4] ∧ Same H H' ∧ misp l i (rows.drop i) = misp 0 0 rows)
    ⟨0, _, _, _, rfl, Same.refl _, rfl⟩ (fun i σ H' _ ⟨_, _, _, _, _, sH, _⟩ => SqL.of (sH _ _ ha)) ?_ ?_⟩
  · rintro i x p σ H' hx ⟨l, v2, v3, v4, rfl, sH, hl⟩ hpn
    obtain ⟨pa, hpa, rfl⟩ := refs_at hx
    obtain ⟨r, hr', dx, hdx⟩ := paired_at hp hpa
    have rok := hok r (List.mem_of_getElem? hr')
    have C := PP r.k rok.1
    rw [drop_at hr'] at hl
    have hl' : (if badAt l (grp r.k) = true then some i else misp (grp r.k) (i + 1) (rows.drop (i + 1))) = misp 0 0 rows := hl
    have sp := same_new hpn (.tup [.int (i : Nat), .ref pa])
    have s2 := sH.trans sp
    refine ⟨p, _, rfl, SqT.of upd_same, rfl, _, _, rfl, _, _, rfl, rfl, ?_⟩
    refine ⟨_, rfl, pa, _, dx, _, _, rfl, sp _ _ (sH _ _ hdx), C.cl, C.nW, pf_word, kw r.k, .int (grp r.k), rfl, grpV_kw r.k rok.1, ?_⟩
    show tSeq _ _ _ _ (upd H' p (.tup [.int (i : Nat), .ref pa]))
    generalize upd H' p (.tup [.int (i : Nat), .ref pa]) = H2 at sp s2 ⊢
    have fin : badAt l (grp r.k) = false → ∃ (l' : Nat) (v2 v3 v4 : Option V), ([some (.ref a), some (.int (grp r.k : Nat)), some (.int (i : Nat)), some (.ref pa), some (.int (grp r.k : Nat))] : L2.St) = [some (.ref a), some (.int (l' : Nat)), v2, v3, v4] ∧ Same H H2 ∧ misp l' (i + 1) (rows.drop (i + 1)) = misp 0 0 rows := fun hb => by
      rw [hb, if_neg Bool.false_ne_true] at hl'
      exact ⟨grp r.k, _, _, _, rfl, s2, hl'⟩
    have bad : badAt l (grp r.k) = true → ∀ Dn : Ends, tRaiseS K H E (tMakeX BO (spXI K "at") E0 (tCons (tVar 2) tNil)) Dn [some (.ref a), some (.int (l : Nat)), some (.int (i : Nat)), some (.ref pa), some (.int (grp r.k : Nat))] H2 := fun hb Dn => by
      rw [hb, if_pos rfl] at hl'
      refine ⟨_, rfl, by show 1 ≤ sizeLine; decide, fun x tu hxn htn hne => ?_⟩
      refine ⟨x, BO, tu, _, rfl, upd_same, X'.set, X'.no, fun d hd => ⟨rfl, x, BO, some d, tu, rfl, ?_, X'.ex, X'.call.ob, s2.free hxn, q2 i hl'.symm _ _ (same_drop2 s2 hxn hd) (drop_at2 hd)⟩⟩
      · have : x ≠ d := fun z => by rw [← z, upd_same] at hd; cases hd
        rw [upd_ne this, upd_same]
    unfold badAt at fin bad
    refine ⟨_, rfl, _, rfl, _, _, rfl, rfl, _, rfl, ?_⟩
    by_cases h1 : grp r.k < l
    · refine dT (by omega) ?_
      refine iteT ?_
      exact bad (by rw [decide_eq_true h1]; rfl) _
    · refine dF (by omega) ?_
      rw [decide_eq_false h1, Bool.false_or] at fin bad
      refine ⟨_, rfl, _, rfl, rfl, _, rfl, ?_⟩
      by_cases e : grp r.k = l
      · rw [beq_iff_eq.mpr e, Bool.true_and] at fin bad
        refine dT (by rw [e]) ?_
        refine ⟨_, rfl, sg, _, rfl, .inr (T.hs _), rfl, (by decide), _, rfl, ?_⟩
        have hin : inV (.int (grp r.k : Nat)) [.int 1, .int 3] = (grp r.k == 1 || grp r.k == 3) := by
          have : ∀ g : Nat, g < 4 → inV (.int (g : Nat)) [.int 1, .int 3] = (g == 1 || g == 3) := by decide +kernel
          exact this _ (grp_lt r.k)
        rw [show (if false = true then !inV (V.int ((grp r.k : Nat) : Int)) [V.int 1, V.int 3] else inV (V.int ((grp r.k : Nat) : Int)) [V.int 1, V.int 3]) = (grp r.k == 1 || grp r.k == 3) from hin]
        cases hb : (grp r.k == 1 || grp r.k == 3) with
        | true =>
          refine iteT ?_
          exact bad hb _
        | false =>
          refine iteF ?_
          exact ⟨_, rfl, fin hb⟩
      · have : (grp r.k == l) = false := beq_eq_false_iff_ne.mpr e
        rw [this, Bool.false_and] at fin
        refine dF (fun z => e (by have := V.int.inj z; omega)) ?_
        exact iteF ⟨_, rfl, fin rfl⟩
  · rintro σ H' ⟨l, v2, v3, v4, rfl, sH, hl⟩
    rw [List.drop_eq_nil_of_le (by rw [List.length_map, hp.length]; exact Nat.le_refl _)] at hl
    exact q1 hl.symm _ sH
def spRBZ (K : PySem.W.Frag) (N : Addr) : Sp := fun vs H Q E => ∃ (b : Addr) (xs : List V), vs = [.ref b] ∧ H b = some (.lst xs) ∧ (∀ x ∈ xs, OkV K H x) ∧ (xs.all nmV = true → ∀ H', Same H H' → Q .non H') ∧ (xs.all nmV = false → ∀ od H', Same H H' → E (.ref N) od H')
theorem ok_rbarsZ {N g : Addr} {gd : FuncData} (F : Fun K "refuse_bars_without_name" "refuse_bars_without_name" sRBars f fd) (pc : PCls K mg base "NoName" N) (cI : Callee P w K mg base 1 "is_name" g gd ["thing"] (spIs K)) : FnOk P w K mg base (CXs P w) 2 f fd ["bars"] (spRBZ K N) := by
  refine F.okS scRBars (fun vs H Q E h => ?_) (fun cdv A outer s H vs Q E hr h => ?_)
  · obtain ⟨b, xs, rfl, _⟩ := h
    rfl
  obtain ⟨b, xs, rfl, hb, hv, q1, q2⟩ := h
  refine ⟨_, pss_one (ps_for PassesOwn.leaving rfl (pi_list (pv 0)) (pg_name (i := 1) scRBars.nd rfl (Or.inl rfl)) (pss_one (ps_if (pt_not (pt_val (cF cI hr (ac (pv 1) pa_nil)))) (pss_one (ps_raiseS raisesS_cx rfl (pe_makeP pc.own pc.kp PySem.F.excBase_ValueError (by decide) PySem.F.excBase_ValueError (ac pe_str pa_nil)))) pss_nil))), ?_⟩
  refine ⟨_, rfl, b, rfl, ⟨_, SqL.of hb⟩, for_list (K := K) (a := b) (xs := xs) (fun i σ H' => ∃ v1, σ = [some (.ref b), v1] ∧ Same H H' ∧ (xs.take i).all nmV = true) ⟨_, rfl, Same.refl _, by rw [List.take_zero]; rfl⟩ (fun i σ H' _ ⟨_, _, sH, _⟩ => SqL.of (sH _ _ hb)) ?_ ?_⟩
  · rintro i x σ H' hx ⟨v1, rfl, sH, hn⟩
    have hi : i < xs.length := (List.getElem?_eq_some_iff.mp hx).1
    have ez : xs[i] = x := (List.getElem?_eq_some_iff.mp hx).2
    have hm := List.mem_of_getElem? hx
    refine ⟨_, rfl, _, rfl, (hv x hm).same sH, fun H2 s2 => ⟨_, rfl, ?_⟩⟩
    cases e : nmV x with
    | true =>
      refine iteF ?_
      refine ⟨_, rfl, sH.trans s2, ?_⟩
      rw [List.take_succ_eq_append_getElem hi, ez, List.all_append, hn, List.all_cons, e]
      rfl
    | false =>
      refine iteT ?_
      have nf : xs.all nmV = false := by
        cases h : xs.all nmV with
        | false => rfl
        | true =>
          rw [List.all_eq_true.mp h x hm] at e
          cases e
      exact ⟨by show 1 ≤ sizeLine; decide, fun x tu hx => ⟨x, N, none, tu, rfl, upd_same, pc.ex, pc.xm, (sH.trans s2).free hx, q2 nf _ _ (same_drop1 (sH.trans s2) hx)⟩⟩
  · rintro σ H' ⟨v1, rfl, sH, hn⟩
    rw [List.take_length] at hn
    exact q1 hn _ sH
def spTwZ (c : C5) (TW : Addr) : Sp := fun vs H Q E => ∃ (a b : Addr) (ps : List Addr) (rows : List Rw) (bars : List Str), vs = [.ref a, .ref b] ∧ H a = some (.lst (ps.map V.ref)) ∧ Paired (PAt c H) ps rows ∧ (∀ r ∈ rows, r.ok) ∧ rows.length ≤ 500 ∧ H b = some (.lst (bars.map V.str)) ∧ bars.length ≤ 400 ∧ (dupF [] (nms rows ++ bars) = none → ∀ H', Same H H' → Q .non H') ∧ (∀ z, dupF [] (nms rows ++ bars) = some z → ∀ d H', Same H H' → H' d = some (.xd [("name", .str z)]) → E (.ref TW) (some d) H')
theorem ok_twiceZ {TW g : Addr} {gd ge : FuncData} (F : Fun K "refuse_twice" "refuse_twice" sRTwice f fd) (T : TxtF w K mg G sg) (PP : Pcs K m c) (GB : FnOk P w K mg base CX0 1 m.fB gd ["self"] (spIn K m bnL)) (bB : Binds K gd ["self"] []) (X' : XCls P w K mg base "Twice" TW g ge "name" "name") : FnOk P w K mg base (CXs P w) 3 f fd ["parameters", "bars"] (spTwZ c TW) := by
  refine F.okS scRTwice (fun vs H Q E h => ?_) (fun cdv A outer s H vs Q E hr h => ?_)
  · obtain ⟨a, b, ps, rows, bars, rfl, _⟩ := h
    rfl
  obtain ⟨a, b, ps, rows, bars, rfl, ha, hp, hok, l1, hb, l2, q1, q2⟩ := h
  have hr1 : Room 1 _ := hr.mono (by decide)
  have hC : ∀ C, Cs5 c C → Cls K C ∧ Meth K C "by_name" m.fB := fun C ⟨k, hk, e⟩ => by rw [e]; exact ⟨(PP k hk).cl, (PP k hk).mB⟩
  refine ⟨_, pss_cons (ps_set (i := 2) scRTwice.nd rfl (Or.inl rfl) (pe_callTy0 call_set0 rfl T.set (by decide +kernel : bootBuiltins "set" = some (.type "set"))))
    (pss_one (ps_for PassesOwn.leaving rfl (pi_list (pe_op op_cat (pe_lc [] ["parameter"] [none] rfl ⟨rfl, rfl, rfl, rfl⟩ (pi_list (pv 0)) (gown_name 0) rfl rfl rfl
        (fun pins fp s H C => ⟨pg_name (i := 0) ndPm rfl (Or.inl rfl) (.inr rfl), pif_one (pt_val (pe_methP (pv 0) hC GB hr1 bB pass0)), pe_fldK (K := K) rfl (pv 0) rfl⟩)) (cTy call_list_of T.lst PyProof.Rows.boot_list (ac (pv 1) pa_nil)))) (pg_name (i := 3) scRTwice.nd rfl (Or.inl rfl))
      (pss_cons (ps_if (pt_cmpR op_in_setT (pv 3) (pv 2) (by with_unfolding_all rfl)) (pss_one (ps_raiseS raisesS_cx rfl (pe_makeX X'.call X'.ok hr rfl X'.gl X'.bd pass0 (ac (pv 3) pa_nil)))) pss_nil)
      (pss_one (ps_expr (pe_sadd (pv 2) (pv 3) ⟨rfl, rfl, rfl, rfl⟩)))))), ?_⟩
  refine ⟨rfl, fun se hse => ?_⟩
  have s1 : Same H (upd H se (setO P w se (fun _ => false) 0)) := same_new hse _
  have g1 : upd H se (setO P w se (fun _ => false) 0) se = some (setO P w se (fun _ => false) 0) := upd_same
  show tSeq _ _ _ _ (upd H se (setO P w se (fun _ => false) 0))
  generalize upd H se (setO P w se (fun _ => false) 0) = H1 at s1 g1 ⊢
  have ha1 := s1 _ _ ha
  have hp1 := pats_same s1 hp
  refine ⟨_, rfl, a, rfl, ⟨_, SqL.of ha1⟩, fun D hD => ?_⟩
  refine lc_list (K := K) (xs := ps.map V.ref) (fun i ys H' => Same H1 H' ∧ H' D = some (.lst ys) ∧ ys = (nms (rows.take i)).map V.str) ⟨same_new hD _, upd_same, rfl⟩ (fun i ys H' h => SqL.of (h.1 _ _ ha1)) ?_ ?_
  · rintro i x ys H' hlt hx ⟨sH, hDy, ey⟩
    obtain ⟨pa, hpa, rfl⟩ := refs_at hx
    obtain ⟨r, hr', dx, hdx⟩ := paired_at hp1 hpa
    have rok := hok r (List.mem_of_getElem? hr')
    have C := PP r.k rok.1
    have nl : ys.length ≤ i := by
      rw [ey, List.length_map]
      unfold nms
      rw [List.length_map]
      refine Nat.le_trans (List.length_filter_le _ _) ?_
      rw [List.length_take]
      omega
    have hd2 := sH _ _ hdx
    refine ⟨_, rfl, pa, _, dx, _, rfl, ⟨r.k, rok.1, rfl⟩, hd2, pf_no (by decide +kernel) (by decide +kernel) (by decide +kernel), pa, dx, _, _, _, _, rfl, C, hd2, _, rfl, ?_⟩
    rw [in_nm r.k rok.1]
    have tk := nm_take hr'
    refine ⟨fun e => ?_, fun e => ?_⟩
    · rw [e, if_pos rfl] at tk
      refine ⟨_, rfl, pa, _, dx, _, _, rfl, hd2, C.cl, C.nN, pf_name, ?_⟩
      refine lcN.mk hlt (le1000 (by rw [List.length_map, hp.length]; omega)) hDy nl ⟨fun b u e => ?_, upd_same, ?_⟩
      · rw [upd_ne (ne_of_none e hD)]
        exact sH b u e
      · rw [ey, tk, List.map_append]
        rfl
    · rw [e, if_neg Bool.false_ne_true, List.append_nil] at tk
      exact lcS.mk hlt ⟨sH, hDy, by rw [ey, tk]⟩
  rintro ys H2 ⟨s2, hDy, ey⟩
  have ey : ys = (nms rows).map V.str := by
    rw [ey, List.length_map, hp.length, List.take_length]
  subst ey
  have hb2 := s2 _ _ (s1 _ _ hb)
  refine ⟨_, rfl, b, _, rfl, .inl (SqL.of hb2), fun l hl => ?_⟩
  have s3 := same_new hl (.lst (bars.map V.str))
  have g3 : upd H2 l (.lst (bars.map V.str)) l = some (.lst (bars.map V.str)) := upd_same
  generalize upd H2 l (.lst (bars.map V.str)) = H3 at s3 g3 ⊢
  have ln : (nms rows).length ≤ 500 := by
    unfold nms
    rw [List.length_map]
    exact Nat.le_trans (List.length_filter_le _ _) l1
  refine ⟨D, l, _, _, rfl, rfl, s3 _ _ hDy, g3, le1000 (by rw [List.length_map, List.length_map]; omega), fun l4 hl4 => ?_⟩
  rw [← List.map_append]
  have s4 := same_new hl4 (.lst ((nms rows ++ bars).map V.str))
  have g4 : upd H3 l4 (.lst ((nms rows ++ bars).map V.str)) l4 = some (.lst ((nms rows ++ bars).map V.str)) := upd_same
  have nse : l4 ≠ se := fun z => by
    rw [z] at hl4
    rw [s3 _ _ (s2 _ _ g1)] at hl4
    cases hl4
  generalize upd H3 l4 (.lst ((nms rows ++ bars).map V.str)) = H4 at s4 g4 ⊢
  have sA : Same H1 H4 := s2.trans (s3.trans s4)
  have gse := sA _ _ g1
  refine ⟨l4, rfl, ⟨_, SqL.of g4⟩, for_list (K := K) (a := l4) (xs := (nms rows ++ bars).map V.str) (fun i σ H' => ∃ (S : Str → Bool) (n : Nat) (v3 : Option V), σ = [some (.ref a), some (.ref b), some (.ref se), v3] ∧ H' se = some (setO P w se S n) ∧ (∀ z, S z = decide (z ∈ (nms rows ++ bars).take i)) ∧ n ≤ i ∧ (∀ b' u, H4 b' = some u → b' ≠ se → H' b' = some u) ∧ dupF ((nms rows ++ bars).take i) ((nms rows ++ bars).drop i) = dupF [] (nms rows ++ bars))
    ⟨_, 0, _, rfl, gse, fun z => by simp, Nat.le_refl _, fun b' u e _ => e, rfl⟩ (fun i σ H' _ ⟨_, _, _, _, _, _, _, k, _⟩ => SqL.of (k _ _ g4 nse)) ?_ ?_⟩
  · rintro i x σ H' hx ⟨S, n, v3, rfl, hS, hSz, hn, k, nd⟩
    obtain ⟨z, hz, rfl⟩ := strs_at hx
    have hi : i < (nms rows ++ bars).length := (List.getElem?_eq_some_iff.mp hz).1
    have ez : (nms rows ++ bars)[i] = z := by rw [List.getElem?_eq_getElem hi] at hz; exact Option.some.inj hz
    have sHH : Same H H' := fun b' u e => k b' u (sA _ _ (s1 _ _ e)) fun z => by rw [z, hse] at e; cases e
    have tk : (nms rows ++ bars).take (i + 1) = (nms rows ++ bars).take i ++ [z] := by rw [List.take_succ_eq_append_getElem hi, ez]
    refine ⟨_, rfl, _, rfl, se, S, n, z, rfl, rfl, hS, _, rfl, ?_⟩
    have dr : (nms rows ++ bars).drop i = z :: (nms rows ++ bars).drop (i + 1) := by rw [List.drop_eq_getElem_cons hi, ez]
    rw [dr] at nd
    have nd' : (if z ∈ (nms rows ++ bars).take i then some z else dupF ((nms rows ++ bars).take i ++ [z]) ((nms rows ++ bars).drop (i + 1))) = dupF [] (nms rows ++ bars) := nd
    cases nz : S z with
    | true =>
      refine iteT ?_
      rw [hSz, decide_eq_true_eq] at nz
      rw [if_pos nz] at nd'
      refine ⟨_, rfl, by show 1 ≤ sizeLine; decide, fun x tu hxn htn hne => ?_⟩
      refine ⟨x, TW, tu, _, rfl, upd_same, X'.set, X'.no, fun d hd => ⟨rfl, x, TW, some d, tu, rfl, ?_, X'.ex, X'.call.ob, sHH.free hxn, q2 z nd'.symm _ _ (same_drop2 sHH hxn hd) (drop_at2 hd)⟩⟩
      · have : x ≠ d := fun z => by rw [← z, upd_same] at hd; cases hd
        rw [upd_ne this, upd_same]
    | false =>
      refine iteF ?_
      refine ⟨_, rfl, se, S, n, rfl, hS, _, rfl, S, n, z, rfl, hS, ?_, ?_⟩
      · rw [List.length_append] at hi
        show n + 1 < 4096
        omega
      · refine ⟨_, _, _, rfl, upd_same, fun y => ?_, ?_, fun b' u e ne => ?_, ?_⟩
        · rw [hSz y, tk]
          simp [List.mem_append]
        · rw [nz]
          show n + 1 ≤ i + 1
          omega
        · rw [upd_ne ne]
          exact k b' u e ne
        · rw [tk]
          rw [hSz, decide_eq_false_iff_not] at nz
          rw [if_neg nz] at nd'
          exact nd'
  · rintro σ H' ⟨S, n, v3, rfl, hS, hSz, hn, k, nd⟩
    rw [List.length_map, List.drop_length] at nd
    refine q1 nd.symm _ fun b' u e => k b' u (sA _ _ (s1 _ _ e)) fun z => ?_
    rw [z, hse] at e
    cases e
end
end K16

set_option Elab.async false
set_option linter.all false
set_option maxRecDepth 100000
set_option maxHeartbeats 4000000
namespace K16
open PySem L2 PyProof.Rows
section
variable {P : Program} {w : World} {K : PySem.W.Frag} {mg : Str → Option Value} {base : Heap} {f G sg CF TM BO N TW : Addr} {fd : FuncData} {c : C5} {m : MA}
theorem due_many {rows : List Rw} {xs : List V} (h : 24 < rows.length ∨ 60 < xs.length) : dueZ rows xs = .many := by unfold dueZ; rw [if_pos h]
theorem due_order {rows : List Rw} {xs : List V} {k : Nat} (h : ¬ (24 < rows.length ∨ 60 < xs.length)) (e : misp 0 0 rows = some k) : dueZ rows xs = .order k := by unfold dueZ; rw [if_neg h, e]
theorem due_name {rows : List Rw} {xs : List V} (h : ¬ (24 < rows.length ∨ 60 < xs.length)) (e : misp 0 0 rows = none) (n : xs.all nmV = false) : dueZ rows xs = .name := by unfold dueZ; rw [if_neg h, e]; show (if xs.all nmV = true then _ else _) = _; rw [n, if_neg Bool.false_ne_true]
theorem due_twice {rows : List Rw} {xs : List V} {z : Str} (h : ¬ (24 < rows.length ∨ 60 < xs.length)) (e : misp 0 0 rows = none) (n : xs.all nmV = true) (d : dupF [] (nms rows ++ txs xs) = some z) : dueZ rows xs = .twice z := by
  unfold dueZ; rw [if_neg h, e]; show (if xs.all nmV = true then _ else _) = _; rw [n, if_pos rfl, d]
theorem due_done {rows : List Rw} {xs : List V} (h : ¬ (24 < rows.length ∨ 60 < xs.length)) (e : misp 0 0 rows = none) (n : xs.all nmV = true) (d : dupF [] (nms rows ++ txs xs) = none) : dueZ rows xs = .done := by
  unfold dueZ; rw [if_neg h, e]; show (if xs.all nmV = true then _ else _) = _; rw [n, if_pos rfl, d]
/-- what a form's making ends with, by what is due -/
def FIEnd (c : C5) (CF TM BO N TW : Addr) (H : Hp) (p : Addr) (rows : List Rw) (xs : List V) (q : Hp → Prop) (E : XK) : Rz → Prop
  | .many => ∀ od H', Same H H' → E (.ref TM) od H'
  | .order k => ∀ d H', Same H H' → H' d = some (.xd [("at", .int (k : Nat))]) → E (.ref BO) (some d) H'
  | .name => ∀ od H', Same H H' → E (.ref N) od H'
  | .twice z => ∀ d H', Same H H' → H' d = some (.xd [("name", .str z)]) → E (.ref TW) (some d) H'
  | .done => ∀ bars H', xs = bars.map V.str → SX p H H' → FormN c CF H H' p rows bars → q H'
def spFIZ (K : PySem.W.Frag) (c : C5) (CF TM BO N TW : Addr) : Sp := fun vs H Q E => ∃ (p a b dx : Addr) (ps : List Addr) (rows : List Rw) (xs : List V), vs = [.ref p, .ref a, .ref b] ∧ H p = some (.ins CF dx []) ∧ H a = some (.lst (ps.map V.ref)) ∧ Paired (PAt c H) ps rows ∧ (∀ r ∈ rows, r.ok) ∧ rows.length ≤ 100 ∧ H b = some (.lst xs) ∧ xs.length ≤ 100 ∧ (∀ x ∈ xs, OkV K H x) ∧ FIEnd c CF TM BO N TW H p rows xs (Q .non) E (dueZ rows xs)
theorem ok_finitZ {ds : List Value} {g1 g2 g3 g4 g5 : Addr} {e1 e2 e3 e4 e5 : FuncData} (F : FunD K "__init__" "Form.__init__" sFInit f fd ds) (FK : FC K CF) (mK : Meth K CF "keep" g5)
    (cM : CalleeS P w K mg base 1 "refuse_too_many" g1 e1 ["parameters", "bars"] (spManyZ K TM)) (cO : CalleeS P w K mg base 3 "refuse_bad_order" g2 e2 ["parameters"] (spOrdZ c BO)) (cB' : CalleeS P w K mg base 2 "refuse_bars_without_name" g3 e3 ["bars"] (spRBZ K N)) (cT : CalleeS P w K mg base 3 "refuse_twice" g4 e4 ["parameters", "bars"] (spTwZ c TW))
    (GK : FnOk P w K mg base CX0 2 g5 e5 ["self", "parameters", "bars"] (spKeep c CF)) (bK : Binds K e5 ["self", "parameters", "bars"] []) :
    FnOk P w K mg base (CXs P w) 4 f fd ["self", "parameters", "bars"] (spFIZ K c CF TM BO N TW) := by
  refine F.okS scFInit (fun vs H Q E h => ?_) (fun cdv A outer s H vs Q E hr h => ?_)
  · obtain ⟨p, a, b, dx, ps, rows, xs, rfl, _⟩ := h
    rfl
  obtain ⟨p, a, b, dx, ps, rows, xs, rfl, hf, ha, hp, hok, lr, hb, lb, hS, due⟩ := h
  have hr1 : Room 1 _ := hr.mono (by decide)
  have hr2 : Room 2 _ := hr.mono (by decide)
  refine ⟨_, pss_cons (ps_set (i := 3) scFInit.nd rfl (Or.inl rfl) (pe_ifExp (pt_cmp (pc_isN (pv 2))) (pe_lst pa_nil) (pv 2)))
    (pss_cons (ps_expr (cS cM (passS fun _ _ _ z => z) hr1 (ac (pv 1) (ac (pv 3) pa_nil))))
    (pss_cons (ps_expr (cS cO (passS fun _ _ _ z => z) hr (ac (pv 1) pa_nil)))
    (pss_cons (ps_expr (cS cB' (passS fun _ _ _ z => z) hr2 (ac (pv 3) pa_nil)))
    (pss_cons (ps_expr (cS cT (passS fun _ _ _ z => z) hr (ac (pv 1) (ac (pv 3) pa_nil))))
    (pss_one (ps_expr (pe_meth (pv 0) FK.cl mK GK hr2 bK .nil pass0 (ac (pv 1) (ac (pv 3) pa_nil))))))))), ?_⟩
  refine ⟨_, rfl, _, rfl, dF (by intro z; cases z) ⟨_, rfl, ?_⟩⟩
  have lp : (ps.map V.ref).length = rows.length := by rw [List.length_map, hp.length]
  refine ⟨_, rfl, _, rfl, a, b, _, _, rfl, SqL.of ha, SqL.of hb, fun h1 h1' => ?_, fun h1 => ?_⟩
  rotate_left 1
  · rw [lp] at h1
    rw [due_many h1] at due
    exact due
  rw [lp] at h1
  have hn : ¬ (24 < rows.length ∨ 60 < xs.length) := by omega
  refine ⟨_, rfl, a, ps, rows, rfl, ha, hp, hok, fun h2 H2 s2 => ?_, fun k h2 => ?_⟩
  rotate_left 1
  · rw [due_order hn h2] at due
    exact due
  refine ⟨_, rfl, b, xs, rfl, s2 _ _ hb, (fun x hx => (hS x hx).same s2), fun h3 H3 s3 => ?_, fun h3 od3 H3 s3 => ?_⟩
  rotate_left 1
  · rw [due_name hn h2 h3] at due
    exact due _ _ (s2.trans s3)
  have s23 := s2.trans s3
  obtain ⟨ex, _⟩ := txs_map h3
  have hb2 : H b = some (.lst ((txs xs).map V.str)) := by rw [← ex]; exact hb
  have ll : (txs xs).length = xs.length := by
    have := congrArg List.length ex
    rw [List.length_map] at this
    exact this.symm
  refine ⟨_, rfl, _, rfl, a, b, ps, rows, txs xs, rfl, s23 _ _ ha, pats_same s23 hp, hok, by omega, s23 _ _ hb2, by omega, fun h4 H4 s4 => ?_, fun z h4 d4 H4 s4 e4 => ?_⟩
  rotate_left 1
  · rw [due_twice hn h2 h3 h4] at due
    exact due _ _ (s23.trans s4) e4
  rw [due_done hn h2 h3 h4] at due
  have s14 := s23.trans s4
  refine ⟨_, rfl, p, dx, _, rfl, s14 _ _ hf, rfl, _, rfl, _, rfl, p, a, b, dx, [], ps, rows, txs xs, rfl, s14 _ _ hf, ⟨by decide, fun _ _ => rfl⟩, s14 _ _ ha, pats_same s14 hp, hok, by omega, s14 _ _ hb2, fun H5 x5 F5 L5 => ?_⟩
  exact due _ _ ex (fun b' u e n => x5 b' u (s14 _ _ e) n) (F5.of s14)
theorem ndRow : ([Str.ofString "_law_row"] : List Str).Nodup := by decide +kernel
end
end K16

set_option Elab.async false
set_option linter.all false
set_option maxRecDepth 100000
set_option maxHeartbeats 4000000
namespace K16
open PySem L2 PyProof.Rows
theorem filt_snoc {α : Type} {ys : List α} {i : Nat} {y : α} (keep : α → Bool) (hy : ys[i]? = some y) : (ys.take (i + 1)).filter keep = (ys.take i).filter keep ++ (if keep y = true then [y] else []) := by
  have hi : i < ys.length := (List.getElem?_eq_some_iff.mp hy).1
  have e : ys[i] = y := (List.getElem?_eq_some_iff.mp hy).2
  rw [List.take_succ_eq_append_getElem hi, List.filter_append, e, List.filter_cons]
  rfl
theorem filt_le {α : Type} {ys : List α} {i : Nat} (keep : α → Bool) : ((ys.take i).filter keep).length ≤ i := by
  have := List.length_filter_le keep (ys.take i)
  rw [List.length_take] at this
  omega
theorem lc_sel {α : Type} {K : PySem.W.Frag} {a : Addr} {xs : List V} {caps : List (Option Nat)} {g : TG} {tt : TT} {te : TE} {σ : L2.St} {H1 : Hp} {Q : VK} {D : Addr} (ys : List α) (keep : α → Bool) (out : α → V) (hD : H1 D = none) (ha : SqL K H1 a xs) (hl : xs.length = ys.length) (hn : xs.length ≤ 1000)
    (hs : ∀ (i : Nat) (x : V) (y : α) (H : Hp) (N : VK) (S : Hp → Prop), xs[i]? = some x → ys[i]? = some y → Same H1 H → (∀ H', Same H H' → keep y = true → N (out y) H') → (∀ H', Same H H' → keep y = false → S H') → g x (capS caps σ) H fun σ2 H2 => tt σ2 H2 fun ok H3 => (ok = true → te σ2 H3 N) ∧ (ok = false → S H3))
    (hd : ∀ H, Same H1 H → H D = some (.lst ((ys.filter keep).map out)) → Q (.ref D) H) : LCr (Itl K a) caps g tt te σ H1 Q D := by
  refine lc_list (K := K) (xs := xs) (fun i zs H' => Same H1 H' ∧ H' D = some (.lst zs) ∧ zs = ((ys.take i).filter keep).map out) ⟨same_new hD _, upd_same, rfl⟩ (fun i zs H' h => h.1.seq ha) ?_ ?_
  · rintro i x zs H' hlt hx ⟨sH, hDy, ez⟩
    obtain ⟨y, hy⟩ : ∃ y, ys[i]? = some y := ⟨_, List.getElem?_eq_getElem (by omega)⟩
    refine hs i x y H' _ _ hx hy sH (fun H2 s2 hk => ?_) (fun H2 s2 hk => ?_)
    · refine lcN.mk hlt (le1000 hn) (s2 _ _ hDy) (by rw [ez, List.length_map]; exact filt_le _) ⟨fun b' u e => ?_, upd_same, ?_⟩
      · rw [upd_ne (ne_of_none e hD)]
        exact s2 _ _ (sH b' u e)
      · rw [ez, filt_snoc keep hy, if_pos hk, List.map_append]
        rfl
    · refine lcS.mk hlt ⟨sH.trans s2, s2 _ _ hDy, ?_⟩
      rw [ez, filt_snoc keep hy, if_neg (by rw [hk]; exact Bool.false_ne_true), List.append_nil]
  · rintro zs H2 ⟨s2, hDy, ez⟩
    rw [List.take_of_length_le (by omega)] at ez
    rw [ez] at hDy
    exact hd H2 s2 hDy

section
variable {P : Program} {w : World} {K : PySem.W.Frag} {mg : Str → Option Value} {base : Heap} {f : Addr} {fd : FuncData} {c : C5} {m : MA}
/-! ### cells, mixed -/
/-! ### the first that is misplaced -/
def spMisp : Sp := fun vs H Q _ => ∃ (a : Addr) (us : List Addr) (rows : List Rw), vs = [.ref a] ∧ (∀ r ∈ rows, r.ok) ∧ rows.length ≤ 500 ∧ H a = some (.lst (us.map V.ref)) ∧ Paired (TAt H) us rows ∧ ∀ H', Same H H' → Q (numV (misp 0 0 rows)) H'
theorem scMisp : FnScope ["_law_rows", "_law_last", "_law_k", "_law_group"] ["_law_rows"] (defScope sMisp) := ⟨rfl, rfl, rfl, by decide +kernel, rfl, by decide +kernel, by decide +kernel⟩
theorem grp_odd : ∀ g : Nat, g < 4 → (g == 1 || g == 3) = decide (g % 2 = 1) := by decide
theorem ok_misp (F : Fun K "_law_misplaced" "_law_misplaced" sMisp f fd) (T : Txt1 K mg) : FnOk P w K mg base CX0 1 f fd ["_law_rows"] spMisp := by
  refine F.ok scMisp (fun vs H Q E h => ?_) (fun cdv A outer s H vs Q E hr h => ?_)
  · obtain ⟨a, us, rows, rfl, _⟩ := h
    rfl
  obtain ⟨a, us, rows, rfl, hok, l5, ha, hu, q⟩ := h
  have hu1 := hu_of hr
  refine ⟨_, pss_cons (ps_set (i := 1) scMisp.nd rfl (Or.inl rfl) pe_int)
    (pss_cons (ps_for PassesOwn.never rfl (pi_range1 rfl T.range (ac (cB call_len_seq T.len PySem.boot_len (ac (pv 0) pa_nil)) pa_nil)) (pg_name (i := 2) scMisp.nd rfl (Or.inl rfl))
      (pss_cons (ps_set (i := 3) scMisp.nd rfl (Or.inl rfl) (pe_dget hu1 (pe_disp (pps_cons pe_str pe_int (pps_cons pe_str pe_int (pps_cons pe_str pe_int (pps_cons pe_str pe_int (pps_cons pe_str pe_int pps_nil))))) rfl rfl (by simp) (by decide)) (pe_ix ix_tup (pe_ix ix_list (pv 0) (pv 2) (fun _ _ => rfl)) pe_int (fun _ _ => rfl)) (fun _ _ => rfl)))
      (pss_cons (ps_if (PW.pt (pw_or (pt_cmpR op_lt (pv 3) (pv 1) (nomark _)) (pw_or1 (PW.pt (pw_and (pt_cmpR op_eq (pv 3) (pv 1) (nomark _)) (pw_and1 (pt_cmpR op_eq (pe_op op_mod (pv 3) pe_int) pe_int (nomark _)))))))) (pss_one (ps_ret (pv 2))) pss_nil)
      (pss_one (ps_set (i := 1) scMisp.nd rfl (Or.inl rfl) (pv 3))))))
    (pss_one (ps_ret pe_non))), ?_⟩
  show tSeq _ _ _ _ _
  refine ⟨_, rfl, a, _, rfl, .inl (SqL.of ha), (us.length : Int), by rw [List.length_map], by omega, by rw [hu.length]; omega, ?_⟩
  refine for_range (n := us.length) (fun i σ H2 => ∃ (l : Nat) (v2 v3 : Option V), σ = [some (.ref a), some (.int (l : Nat)), v2, v3] ∧ Same H H2 ∧ misp l i (rows.drop i) = misp 0 0 rows) ⟨0, _, _, rfl, Same.refl _, rfl⟩ ?_ ?_
  · rintro i σ H2 hi ⟨l, v2, v3, rfl, s2, hl⟩
    have hi' : i < us.length := hi
    have ex : us[i]? = some us[i] := List.getElem?_eq_getElem hi'
    obtain ⟨r, hr', tr⟩ := paired_at hu ex
    have rok := hok r (List.mem_of_getElem? hr')
    have g4 := grp_lt r.k
    rw [drop_at hr'] at hl
    have hl' : (if badAt l (grp r.k) = true then some i else misp (grp r.k) (i + 1) (rows.drop (i + 1))) = misp 0 0 rows := hl
    have ha2 := s2 _ _ ha
    have tr2 := s2 _ _ tr
    intro d hd
    refine ⟨upd_same, gL, rfl, (by show 5 ≤ 15; decide), ?_⟩
    have t1 : Same H2 (upd (upd H2 d (.dK [])) d (.dK (mergeK [] gL))) := by rw [upd_upd]; exact same_new hd _
    have e1' : upd (upd H2 d (.dK [])) d (.dK (mergeK [] gL)) d = some (.dK (mergeK [] gL)) := upd_same
    generalize upd (upd H2 d (.dK [])) d (.dK (mergeK [] gL)) = H1' at t1 e1' ⊢
    refine ⟨_, rfl, _, rfl, a, _, (i : Int), .ref us[i], rfl, by rw [Int.zero_add], SqL.of (t1 _ _ ha2), atI_nat (by rw [List.getElem?_map, ex]; rfl), us[i], _, 0, .str (kw r.k), rfl, rfl, SqT.of (t1 _ _ tr2), tat0 rok.1, d, .int (grp r.k), rfl, .inl ⟨_, .inr (kw r.k), .inl e1', rfl, gD_kw r.k rok.1⟩, ?_⟩
    have sx := s2.trans t1
    have fin : badAt l (grp r.k) = false → misp (grp r.k) (i + 1) (rows.drop (i + 1)) = misp 0 0 rows := fun hb => by
      rw [hb, if_neg Bool.false_ne_true] at hl'
      exact hl'
    have bad : badAt l (grp r.k) = true → Q (.int (0 + (i : Nat))) H1' := fun hb => by
      rw [hb, if_pos rfl] at hl'
      have := q _ sx
      rw [← hl'] at this
      rw [Int.zero_add]
      exact this
    unfold badAt at fin bad
    rw [grp_odd _ g4] at fin bad
    refine ⟨_, rfl, _, rfl, _, _, rfl, rfl, _, rfl, ?_⟩
    by_cases h1 : grp r.k < l
    · refine dT (by show ((grp r.k : Nat) : Int) < (l : Int); omega) ?_
      refine iteT ?_
      exact ⟨_, rfl, bad (by rw [decide_eq_true h1]; rfl)⟩
    · refine dF (by show ¬ ((grp r.k : Nat) : Int) < (l : Int); omega) ?_
      rw [decide_eq_false h1, Bool.false_or] at fin bad
      refine ⟨_, rfl, _, rfl, rfl, _, rfl, ?_⟩
      by_cases e : grp r.k = l
      · rw [beq_iff_eq.mpr e, Bool.true_and] at fin bad
        refine dT (by rw [e]) ?_
        refine ⟨_, rfl, _, _, rfl, rfl, (by show (0 : Int) < 2; decide), rfl, _, rfl, ?_⟩
        by_cases eo : grp r.k % 2 = 1
        · refine dT (congrArg V.int (by omega)) ?_
          exact ⟨_, rfl, bad (by rw [decide_eq_true eo])⟩
        · refine dF (fun z => eo (by have := V.int.inj z; omega)) ?_
          exact ⟨_, rfl, grp r.k, _, _, rfl, sx, fin (by rw [decide_eq_false eo])⟩
      · have : (grp r.k == l) = false := beq_eq_false_iff_ne.mpr e
        rw [this, Bool.false_and] at fin
        refine dF (fun z => e (by have := V.int.inj z; omega)) ?_
        exact iteF ⟨_, rfl, grp r.k, _, _, rfl, sx, fin rfl⟩
  · rintro σ H2 ⟨l, v2, v3, rfl, s2, hl⟩
    have e : misp 0 0 rows = none := by
      rw [← hl, hu.length, List.drop_length]
      rfl
    have := q _ s2
    rw [e] at this
    exact this
end
end K16

set_option Elab.async false
set_option linter.all false
set_option maxRecDepth 100000
set_option maxHeartbeats 4000000
namespace K16
open PySem L2 PyProof.Rows
theorem inV_strs {z : Str} : ∀ {zs : List Str}, inV (.str z) (zs.map V.str) = decide (z ∈ zs)
  | [] => by simp [inV]
  | y :: ys => by
    have ih := inV_strs (z := z) (zs := ys)
    show (eqV (.str y) (.str z) || inV (.str z) (ys.map V.str)) = _
    rw [ih]
    have : eqV (.str y) (.str z) = decide (z = y) := by
      show (y == z) = _
      rw [Bool.eq_iff_iff, beq_iff_eq, decide_eq_true_eq]
      exact ⟨Eq.symm, Eq.symm⟩
    rw [this]
    simp
theorem flat_strs : ∀ {zs : List Str}, (zs.map V.str).all flatV = true
  | [] => rfl
  | _ :: ys => by
    show (true && (ys.map V.str).all flatV) = true
    rw [flat_strs]
    rfl
section
variable {P : Program} {w : World} {K : PySem.W.Frag} {mg : Str → Option Value} {base : Heap} {f : Addr} {fd : FuncData} {c : C5} {m : MA}
theorem ndSg : ([Str.ofString "_law_sign"] : List Str).Nodup := by decide +kernel
theorem ndNm : ([Str.ofString "_law_name"] : List Str).Nodup := by decide +kernel
theorem scIsT : FnScope ["_law_name"] ["_law_name"] (defScope sIsT) := ⟨rfl, rfl, rfl, by decide +kernel, rfl, by decide +kernel, by decide +kernel⟩
theorem nm_filter {z : Str} (h1 : 1 ≤ z.length) (h2 : z.length ≤ 8) : nameB z = decide (z.cps.toList.filter (fun c => !low c) = []) := by
  unfold nameB
  rw [decide_eq_true h1, decide_eq_true h2, Bool.true_and, Bool.true_and, Bool.eq_iff_iff, List.all_eq_true, decide_eq_true_eq, List.filter_eq_nil_iff]
  constructor
  · intro h c hc
    rw [h c hc]
    decide
  · intro h c hc
    have := h c hc
    cases e : low c with
    | true => rfl
    | false => rw [e] at this; exact absurd rfl this
theorem ok_isT (F : Fun K "_law_is_text" "_law_is_text" sIsT f fd) (T : Txt1 K mg) : FnOk P w K mg base CX0 1 f fd ["_law_name"] (spIs K) := by
  refine F.ok scIsT (fun vs H Q E h => ?_) (fun cdv A outer s H vs Q E hr h => ?_)
  · obtain ⟨x, rfl, _⟩ := h
    rfl
  obtain ⟨x, rfl, hx, q⟩ := h
  have hU := hr.units
  have hU0 := hr.units0
  refine ⟨_, pss_cons (ps_if (PW.pt (pw_or (pt_not (pt_val (cB call_isinst T.isi boot_isinstance (ac (pv 0) (ac (pe_bltn (v := .ty "str") rfl T.str PyProof.Rows.boot_str rfl) pa_nil)))))
      (pw_or (pt_cmpR op_eq (pv 0) pe_str (nomark _)) (pw_or1 (pt_cmpR op_gt (cB call_len_str T.len PySem.boot_len (ac (pv 0) pa_nil)) pe_int (nomark _))))))
      (pss_one (ps_ret pe_bl)) pss_nil)
    (pss_one (ps_ret (pe_cmpR (OpR.or (op_eqS hU) (op_eqLen hU0)) (pe_lc [] ["_law_sign"] [none] rfl ⟨rfl, rfl, rfl, rfl⟩ (pi_str (pv 0)) (gown_name 0) rfl rfl rfl
      (fun pins fp s H C => ⟨pg_name (i := 0) ndSg rfl (Or.inl rfl) (.inr rfl), pif_one (pt_cmpR op_notIn_str (pv 0) pe_str (by with_unfolding_all rfl)), pv 0⟩)) (pe_lst pa_nil) (nomark _)))), ?_⟩
  rcases hx with ⟨z, rfl, hz1, hz2⟩ | ⟨hn, t, ty, e⟩
  · refine ⟨_, rfl, _, _, _, _, rfl, .str z, T.kStr, _, rfl, ?_⟩
    refine iteF ?_
    have no : nameB z = false → Q (.bl false) H := fun e => by
      have := q H (Same.refl H)
      have e' : nmV (.str z) = false := e
      rw [e'] at this
      exact this
    refine ⟨_, rfl, rfl, _, rfl, ?_⟩
    by_cases e0 : z.length = 0
    · have ez : z = Str.ofString "" := by
        have : z.cps = #[] := Array.eq_empty_of_size_eq_zero e0
        cases z
        cases this
        rfl
      refine dT (by rw [ez]) ?_
      exact iteT (no (nameB_long (.inl e0)))
    · refine dF (fun h => e0 (by rw [V.str.inj h]; rfl)) ?_
      refine ⟨_, rfl, z, rfl, Nat.le_trans hz1 (by decide), _, _, rfl, rfl, _, rfl, ?_⟩
      by_cases h8 : z.length ≤ 8
      · refine dF (by show ¬ (8 : Int) < (z.length : Int); omega) ?_
        refine ⟨_, rfl, z, rfl, fun D hD => ?_⟩
        refine ⟨fun i m ys H' => i ≤ z.cps.size ∧ m = z.cps.size - i ∧ ys = ((z.cps.toList.take i).filter (fun c => !low c)).map (fun c => V.str ⟨#[c]⟩) ∧ H' = upd H D (.lst ys), ⟨_, Nat.zero_le _, rfl, rfl, rfl⟩, ?_⟩
        rintro i m ys H' ⟨hi, rfl, rfl, rfl⟩
        by_cases he : i = z.cps.size
        · subst he
          refine .inl ⟨Nat.le_refl _, ?_⟩
          rw [List.take_of_length_le (by simp)]
          refine ⟨(by show 0 ≤ sizeLine; decide), fun l hl => ?_⟩
          have s1 := same_new hD (.lst ((z.cps.toList.filter (fun c => !low c)).map (fun c => V.str ⟨#[c]⟩)))
          have e1 : upd H D (.lst ((z.cps.toList.filter (fun c => !low c)).map (fun c => V.str ⟨#[c]⟩))) D = some (.lst ((z.cps.toList.filter (fun c => !low c)).map (fun c => V.str ⟨#[c]⟩))) := upd_same
          generalize upd H D (.lst ((z.cps.toList.filter (fun c => !low c)).map (fun c => V.str ⟨#[c]⟩))) = H1 at s1 e1 hl ⊢
          have s2 := same_new hl (.lst [])
          have qq := q _ (s1.trans s2)
          rw [show nmV (.str z) = decide (z.cps.toList.filter (fun c => !low c) = []) from nm_filter (by omega) h8] at qq
          by_cases ef : z.cps.toList.filter (fun c => !low c) = []
          · rw [decide_eq_true ef] at qq
            rw [ef] at e1
            exact .inl ⟨D, l, 0, .lst [], fun _ => True, fun _ => True, rfl, rfl, by decide, Says.lst True.intro (s2 _ _ e1) .nil, Says.lst True.intro upd_same .nil, qq⟩
          · rw [decide_eq_false ef] at qq
            exact .inr ⟨D, l, _, _, rfl, rfl, s2 _ _ e1, upd_same, (by rw [List.length_map]; intro h; exact ef (List.length_eq_zero_iff.mp h)), qq⟩
        · refine .inr ⟨by show i < z.cps.size; omega, ?_⟩
          rintro x H' ⟨rfl, c, hc, rfl⟩
          have hc' : z.cps.toList[i]? = some c := by simpa using hc
          have hlow := letters_in c (hz2 c (List.mem_of_getElem? hc'))
          refine ⟨_, rfl, _, _, rfl, rfl, _, rfl, ?_⟩
          have el : (!(!(Builtin.Str.occurrences (Str.ofString "abcdefghijklmnopqrstuvwxyz") ⟨#[c]⟩ 0 (Str.ofString "abcdefghijklmnopqrstuvwxyz").length 1).isEmpty)) = !low c := by rw [← hlow]; rfl
          rw [el]
          have tk : (z.cps.toList.take (i + 1)).filter (fun c => !low c) = (z.cps.toList.take i).filter (fun c => !low c) ++ (if (!low c) = true then [c] else []) := filt_snoc _ hc'
          refine ⟨fun hk => ?_, fun hk => ?_⟩
          · rw [hk, if_pos rfl] at tk
            refine ⟨_, rfl, upd_same, ?_, z.cps.size - (i + 1), by omega, by omega, rfl, ?_, ?_⟩
            · rw [List.length_map]
              have h1 := filt_le (ys := z.cps.toList) (i := i) (fun c => !low c)
              have : z.cps.size ≤ 1000 := hz1
              exact small1000 (by omega)
            · rw [tk, List.map_append]
              rfl
            · rw [upd_upd]
          · rw [hk, if_neg Bool.false_ne_true, List.append_nil] at tk
            exact ⟨z.cps.size - (i + 1), by omega, by omega, rfl, by rw [tk], rfl⟩
      · refine dT (by show (8 : Int) < (z.length : Int); omega) ?_
        exact no (nameB_long (.inr (by omega)))
  · refine ⟨_, rfl, _, _, _, _, rfl, ty, e, _, rfl, ?_⟩
    refine iteT ?_
    refine iteT ?_
    have := q H (Same.refl H)
    rw [hn] at this
    exact this
end
end K16

set_option Elab.async false
set_option linter.all false
set_option maxRecDepth 100000
set_option maxHeartbeats 4000000
namespace K16
open PySem L2 PyProof.Rows
/-- what the law's two ways tell -/
def RzAt (H : Hp) (t : Addr) (rows : List Rw) (xs : List V) : Rz → Prop
  | .many => H t = some (.tup [.str "many", .non])
  | .order k => H t = some (.tup [.str "order", .int (k : Nat)])
  | .name => H t = some (.tup [.str "name", .non])
  | .twice z => H t = some (.tup [.str "twice", .str z])
  | .done => ∃ (u l1 l2 : Addr) (us : List Addr), H t = some (.tup [.str "done", .ref u]) ∧ H u = some (.tup [.ref l1, .ref l2]) ∧ H l1 = some (.lst (us.map V.ref)) ∧ Paired (TAt H) us rows ∧ H l2 = some (.lst xs) ∧ xs.all nmV = true
theorem RzAt.same {H H' : Hp} {t : Addr} {rows : List Rw} {xs : List V} {z : Rz} (s : Same H H') (h : RzAt H t rows xs z) : RzAt H' t rows xs z := by
  cases z with
  | many => exact s _ _ h
  | order k => exact s _ _ h
  | name => exact s _ _ h
  | twice z => exact s _ _ h
  | done =>
    obtain ⟨u, l1, l2, us, h1, h2, h3, h4, h5, h6⟩ := h
    exact ⟨u, l1, l2, us, s _ _ h1, s _ _ h2, s _ _ h3, tats_same s h4, s _ _ h5, h6⟩
def spDue (K : PySem.W.Frag) : Sp := fun vs H Q _ => ∃ (a b : Addr) (us : List Addr) (rows : List Rw) (xs : List V), vs = [.ref a, .ref b] ∧ (∀ r ∈ rows, r.ok) ∧ rows.length ≤ 100 ∧ H a = some (.lst (us.map V.ref)) ∧ Paired (TAt H) us rows ∧ H b = some (.lst xs) ∧ xs.length ≤ 100 ∧ (∀ x ∈ xs, OkV K H x) ∧
  ∀ (t : Addr) (H' : Hp), Same H H' → RzAt H' t rows xs (dueZ rows xs) → Q (.ref t) H'
section
variable {P : Program} {w : World} {K : PySem.W.Frag} {mg : Str → Option Value} {base : Heap} {f : Addr} {fd : FuncData} {c : C5} {m : MA}
theorem scDue : FnScope ["_law_rows", "_law_bars", "_law_names", "_law_k"] ["_law_rows", "_law_bars"] (defScope sDue) := ⟨rfl, rfl, rfl, by decide +kernel, rfl, by decide +kernel, by decide +kernel⟩
theorem nms_map (rows : List Rw) : (rows.filter fun r => byNm r.k).map (fun r => V.str r.z) = (nms rows).map V.str := by
  unfold nms
  rw [List.map_map]
  rfl
theorem ok_due {g1 g2 : Addr} {e1 e2 : FuncData} (F : Fun K "_law_due" "_law_due" sDue f fd) (T : Txt1 K mg) (cMi : Callee P w K mg base 1 "_law_misplaced" g1 e1 ["_law_rows"] spMisp) (cI : Callee P w K mg base 1 "_law_is_text" g2 e2 ["_law_name"] (spIs K)) : FnOk P w K mg base CX0 2 f fd ["_law_rows", "_law_bars"] (spDue K) := by
  refine F.ok scDue (fun vs H Q E h => ?_) (fun cdv A outer s H vs Q E hr h => ?_)
  · obtain ⟨a, b, us, rows, xs, rfl, _⟩ := h
    rfl
  obtain ⟨a, b, us, rows, xs, rfl, hok, lr, ha, hu, hb, lx, hv, q⟩ := h
  have hU := hr.units
  have hU0 := hr.units0
  refine ⟨_, pss_cons (ps_if (PW.pt (pw_or (pt_cmpR op_gt (cB call_len_seq T.len PySem.boot_len (ac (pv 0) pa_nil)) pe_int (nomark _)) (pw_or1 (pt_cmpR op_gt (cB call_len_seq T.len PySem.boot_len (ac (pv 1) pa_nil)) pe_int (nomark _))))) (pss_one (ps_ret (pe_tup (ac pe_str (ac pe_non pa_nil))))) pss_nil)
    (pss_cons (ps_if (pt_cmp (pc_notN (cF cMi hr (ac (pv 0) pa_nil)))) (pss_one (ps_ret (pe_tup (ac pe_str (ac (cF cMi hr (ac (pv 0) pa_nil)) pa_nil))))) pss_nil)
    (pss_cons (ps_if (pt_cmpR (OpR.or (op_neS hU) (op_neLen hU0)) (pe_lc [] ["_law_name"] [none] rfl ⟨rfl, rfl, rfl, rfl⟩ (pi_list (pv 1)) (gown_name 0) rfl rfl rfl
        (fun pins fp s H C => ⟨pg_name (i := 0) ndNm rfl (Or.inl rfl) (.inr rfl), pif_one (pt_not (pt_val (cF cI hr (ac (pv 0) pa_nil)))), pv 0⟩)) (pe_lst pa_nil) (nomark _)) (pss_one (ps_ret (pe_tup (ac pe_str (ac pe_non pa_nil))))) pss_nil)
    (pss_cons (ps_set (i := 2) scDue.nd rfl (Or.inl rfl) (pe_op op_cat (pe_lc [] ["_law_row"] [none] rfl ⟨rfl, rfl, rfl, rfl⟩ (pi_list (pv 0)) (gown_name 0) rfl rfl rfl
        (fun pins fp s H C => ⟨pg_name (i := 0) ndRow rfl (Or.inl rfl) (.inr rfl), pif_one (pt_cmpR (r := rIn K false) op_in_seq (pe_ix (r := rIxT K) ix_tup (pv 0) pe_int (fun _ _ => rfl)) (pe_tup (ac pe_str (ac pe_str pa_nil))) (by with_unfolding_all rfl)), pe_ix (r := rIxT K) ix_tup (pv 0) pe_int (fun _ _ => rfl)⟩)) (pv 1)))
    (pss_cons (ps_for PassesOwn.never rfl (pi_range1 rfl T.range (ac (cB call_len_seq T.len PySem.boot_len (ac (pv 2) pa_nil)) pa_nil)) (pg_name (i := 3) scDue.nd rfl (Or.inl rfl))
      (pss_one (ps_if (pt_cmpR op_in_seq (pe_ix ix_list (pv 2) (pv 3) (fun _ _ => rfl)) (pe_slice sl_list (pv 2) po_none (po_some (pv 3))) (by with_unfolding_all rfl)) (pss_one (ps_ret (pe_tup (ac pe_str (ac (pe_ix ix_list (pv 2) (pv 3) (fun _ _ => rfl)) pa_nil))))) pss_nil)))
    (pss_one (ps_ret (pe_tup (ac pe_str (ac (pe_tup (ac (pv 0) (ac (pv 1) pa_nil))) pa_nil))))))))), ?_⟩
  have lu : us.length = rows.length := hu.length
  have many : 24 < rows.length ∨ 60 < xs.length → ∀ t, H t = none → Q (.ref t) (upd H t (.tup [.str "many", .non])) := fun h t ht => by
    refine q t _ (same_new ht _) ?_
    rw [due_many h]
    exact upd_same
  refine ⟨_, rfl, a, _, rfl, .inl (SqL.of ha), _, _, rfl, rfl, _, rfl, ?_⟩
  by_cases h1 : rows.length ≤ 24
  rotate_left
  · refine dT (by show (24 : Int) < ((us.map V.ref).length : Int); rw [List.length_map]; omega) ?_
    exact iteT ⟨by show 2 ≤ sizeLine; decide, many (by omega)⟩
  refine dF (by show ¬ (24 : Int) < ((us.map V.ref).length : Int); rw [List.length_map]; omega) ?_
  refine ⟨_, rfl, b, _, rfl, .inl (SqL.of hb), _, _, rfl, rfl, _, rfl, ?_⟩
  by_cases h2 : xs.length ≤ 60
  rotate_left
  · refine dT (by show (60 : Int) < (xs.length : Int); omega) ?_
    exact ⟨by show 2 ≤ sizeLine; decide, many (by omega)⟩
  refine dF (by show ¬ (60 : Int) < (xs.length : Int); omega) ?_
  have hn : ¬ (24 < rows.length ∨ 60 < xs.length) := by omega
  refine ⟨_, rfl, a, us, rows, rfl, hok, by omega, ha, hu, fun H1 s1 => ⟨_, rfl, ?_⟩⟩
  cases em : misp 0 0 rows with
  | some k =>
    refine iteT ?_
    refine ⟨_, rfl, a, us, rows, rfl, hok, by omega, s1 _ _ ha, tats_same s1 hu, fun H2 s2 => ?_⟩
    rw [em]
    refine ⟨by show 2 ≤ sizeLine; decide, fun t ht => ?_⟩
    refine q t _ (s1.trans (s2.trans (same_new ht _))) ?_
    rw [due_order hn em]
    exact upd_same
  | none =>
    refine iteF ?_
    refine ⟨_, rfl, b, rfl, ⟨_, SqL.of (s1 _ _ hb)⟩, fun D hD => ?_⟩
    refine lc_sel (K := K) (xs := xs) xs (fun x => !nmV x) (fun x => x) hD (SqL.of (s1 _ _ hb)) rfl (by omega) ?_ fun H2 s2 eD => ?_
    · intro i x y H' N S hx hy sH qy qn
      have exy : x = y := by rw [hx] at hy; exact Option.some.inj hy
      subst exy
      refine ⟨_, rfl, _, rfl, ((hv x (List.mem_of_getElem? hx)).same s1).same sH, fun H3 s3 => ⟨_, rfl, ?_⟩⟩
      exact ⟨fun e => ⟨_, rfl, qy _ s3 e⟩, fun e => qn _ s3 e⟩
    rw [List.map_id'] at eD
    refine ⟨(by show 0 ≤ sizeLine; decide), fun l hl => ?_⟩
    have s3 := same_new hl (.lst [])
    cases ea : xs.all nmV with
    | false =>
      have ne : xs.filter (fun x => !nmV x) ≠ [] := fun h => by
        rw [List.filter_eq_nil_iff] at h
        have : xs.all nmV = true := List.all_eq_true.mpr fun x hx => by
          have := h x hx
          cases e : nmV x with
          | true => rfl
          | false => rw [e] at this; exact absurd rfl this
        rw [ea] at this
        cases this
      refine .inr ⟨D, l, _, _, rfl, rfl, s3 _ _ eD, upd_same, (fun h => ne (List.length_eq_zero_iff.mp h)), _, rfl, ?_⟩
      refine iteT ?_
      refine ⟨by show 2 ≤ sizeLine; decide, fun t ht => ?_⟩
      refine q t _ (s1.trans (s2.trans (s3.trans (same_new ht _)))) ?_
      rw [due_name hn em ea]
      exact upd_same
    | true =>
      have en : xs.filter (fun x => !nmV x) = [] := by
        rw [List.filter_eq_nil_iff]
        intro x hx
        rw [List.all_eq_true.mp ea x hx]
        decide
      rw [en] at eD
      refine .inl ⟨D, l, 0, .lst [], fun _ => True, fun _ => True, rfl, rfl, by decide, Says.lst True.intro (s3 _ _ eD) .nil, Says.lst True.intro upd_same .nil, _, rfl, ?_⟩
      refine iteF ?_
      have s13 := s1.trans (s2.trans s3)
      generalize upd H2 l (.lst []) = H3 at s3 s13 ⊢
      refine ⟨_, rfl, a, rfl, ⟨_, SqL.of (s13 _ _ ha)⟩, fun D2 hD2 => ?_⟩
      have hu3 := tats_same s13 hu
      refine lc_sel (K := K) (xs := us.map V.ref) rows (fun r => byNm r.k) (fun r => .str r.z) hD2 (SqL.of (s13 _ _ ha)) (by rw [List.length_map]; exact lu) (by rw [List.length_map]; omega) ?_ fun H4 s4 eD2 => ?_
      · intro i x r H' N S hx hy sH qy qn
        obtain ⟨u, hu', rfl⟩ := refs_at hx
        obtain ⟨r', hr', tr⟩ := paired_at hu3 hu'
        have err : r' = r := by rw [hr'] at hy; exact Option.some.inj hy
        subst err
        have rok := hok r' (List.mem_of_getElem? hr')
        have tr2 := sH _ _ tr
        refine ⟨_, rfl, u, _, 0, .str (kw r'.k), rfl, rfl, SqT.of tr2, tat0 rok.1, (by show 2 ≤ sizeLine; decide), fun t ht => ⟨t, bnL, rfl, .inr (SqT.of upd_same), rfl, (by decide), _, rfl, ?_⟩⟩
        have s5 := same_new ht (.tup bnL)
        rw [show (if false = true then !inV (V.str (kw r'.k)) bnL else inV (V.str (kw r'.k)) bnL) = byNm r'.k from in_nm r'.k rok.1]
        exact ⟨fun e => ⟨_, rfl, u, _, 1, .str r'.z, rfl, rfl, SqT.of (s5 _ _ tr2), tat1, qy _ s5 e⟩, fun e => qn _ s5 e⟩
      rw [nms_map] at eD2
      obtain ⟨ex, _⟩ := txs_map ea
      have s14 := s13.trans s4
      have hb4 : H4 b = some (.lst ((txs xs).map V.str)) := by rw [← ex]; exact s14 _ _ hb
      have ll : (txs xs).length = xs.length := by
        have := congrArg List.length ex
        rw [List.length_map] at this
        exact this.symm
      have ln : (nms rows).length ≤ 100 := by
        unfold nms
        rw [List.length_map]
        exact Nat.le_trans (List.length_filter_le _ _) lr
      refine ⟨_, rfl, D2, b, _, _, rfl, rfl, eD2, hb4, le1000 (by rw [List.length_map, List.length_map]; omega), fun l5 hl5 => ?_⟩
      rw [← List.map_append]
      have s5 := same_new hl5 (.lst ((nms rows ++ txs xs).map V.str))
      have g5 : upd H4 l5 (.lst ((nms rows ++ txs xs).map V.str)) l5 = some (.lst ((nms rows ++ txs xs).map V.str)) := upd_same
      show tSeq _ _ _ _ (upd H4 l5 (.lst ((nms rows ++ txs xs).map V.str)))
      generalize upd H4 l5 (.lst ((nms rows ++ txs xs).map V.str)) = H5 at s5 g5 ⊢
      have s15 := s14.trans s5
      have lall : (nms rows ++ txs xs).length ≤ 200 := by rw [List.length_append]; omega
      refine ⟨_, rfl, l5, _, rfl, .inl (SqL.of g5), ((nms rows ++ txs xs).length : Int), by rw [List.length_map], by omega, by omega, ?_⟩
      refine for_range (n := (nms rows ++ txs xs).length) (fun i σ H' => ∃ v3 : Option V, σ = [some (.ref a), some (.ref b), some (.ref l5), v3] ∧ Same H5 H' ∧ dupF ((nms rows ++ txs xs).take i) ((nms rows ++ txs xs).drop i) = dupF [] (nms rows ++ txs xs)) ⟨_, rfl, Same.refl _, rfl⟩ ?_ ?_
      · rintro i σ H' hi ⟨v3, rfl, sH, nd⟩
        have hi' : i < (nms rows ++ txs xs).length := hi
        obtain ⟨z, hz⟩ : ∃ z, z = (nms rows ++ txs xs)[i] := ⟨_, rfl⟩
        have hzi : (nms rows ++ txs xs)[i]? = some z := by rw [hz]; exact List.getElem?_eq_getElem hi'
        have dr : (nms rows ++ txs xs).drop i = z :: (nms rows ++ txs xs).drop (i + 1) := by rw [List.drop_eq_getElem_cons hi', hz]
        have tk : (nms rows ++ txs xs).take (i + 1) = (nms rows ++ txs xs).take i ++ [z] := by rw [List.take_succ_eq_append_getElem hi', hz]
        rw [dr] at nd
        have nd' : (if z ∈ (nms rows ++ txs xs).take i then some z else dupF ((nms rows ++ txs xs).take i ++ [z]) ((nms rows ++ txs xs).drop (i + 1))) = dupF [] (nms rows ++ txs xs) := nd
        have at5 : atI ((nms rows ++ txs xs).map V.str) (i : Int) = some (.str z) := atI_nat (by rw [List.getElem?_map, hzi]; rfl)
        have g6 := sH _ _ g5
        refine ⟨_, rfl, _, rfl, l5, _, (i : Int), .str z, rfl, by rw [Int.zero_add], SqL.of g6, at5, _, rfl, _, rfl, _, rfl, l5, _, rfl, SqL.of g6, fun l6 hl6 => ?_⟩
        rw [show cutV ((nms rows ++ txs xs).map V.str) none (some ((0 : Int) + (i : Nat))) = ((nms rows ++ txs xs).take i).map V.str from by rw [Int.zero_add, cut_take, List.map_take]]
        have s6 := same_new hl6 (.lst (((nms rows ++ txs xs).take i).map V.str))
        refine ⟨l6, _, rfl, .inl (SqL.of upd_same), rfl, flat_strs, _, rfl, ?_⟩
        rw [show (if false = true then !inV (V.str z) (((nms rows ++ txs xs).take i).map V.str) else inV (V.str z) (((nms rows ++ txs xs).take i).map V.str)) = decide (z ∈ (nms rows ++ txs xs).take i) from inV_strs]
        by_cases hm : z ∈ (nms rows ++ txs xs).take i
        · rw [decide_eq_true hm]
          refine iteT ?_
          rw [if_pos hm] at nd'
          refine ⟨_, rfl, _, rfl, l5, _, (i : Int), .str z, rfl, by rw [Int.zero_add], SqL.of (s6 _ _ g6), at5, by show 2 ≤ sizeLine; decide, fun t ht => ?_⟩
          refine q t _ (s15.trans (sH.trans (s6.trans (same_new ht _)))) ?_
          rw [due_twice hn em ea nd'.symm]
          exact upd_same
        · rw [decide_eq_false hm]
          refine iteF ?_
          rw [if_neg hm] at nd'
          exact ⟨_, rfl, sH.trans s6, by rw [tk]; exact nd'⟩
      · rintro σ H' ⟨v3, rfl, sH, nd⟩
        rw [List.drop_length] at nd
        have sA := s15.trans sH
        refine ⟨_, rfl, _, rfl, by show 2 ≤ sizeLine; decide, fun u hu' => ?_⟩
        have s6 := same_new hu' (.tup [.ref a, .ref b])
        refine ⟨by show 2 ≤ sizeLine; decide, fun t ht => ?_⟩
        have s7 := same_new ht (.tup [.str "done", .ref u])
        refine q t _ (sA.trans (s6.trans s7)) ?_
        rw [due_done hn em ea nd.symm]
        exact ⟨u, a, b, us, upd_same, s7 _ _ upd_same, s7 _ _ (s6 _ _ (sA _ _ ha)), tats_same (sA.trans (s6.trans s7)) hu, s7 _ _ (s6 _ _ (sA _ _ hb)), ea⟩
end
end K16

set_option Elab.async false
set_option linter.all false
set_option maxRecDepth 100000
set_option maxHeartbeats 4000000
namespace L2
open PySem PySem.Spec PyProof.Rows
section
variable {X : Cx} {pins : List (Addr × Obj)} {σ : St} {CX : CXT} {e : Expr} {es : List Expr} {te ta : TE} {E : XK} {m : Str} {pos apos : Pos} {k : Nat} {f C : Addr} {fd : FuncData} {ps : List Str} {sp : Sp} {o : Expr} {dvs : List V} {ds : List Value}
/-- o.m(), o code that may raise -/
theorem p1_meth0 {pl : Sem Bool} (he : PE1 X pins σ o ta) (c : Cls X.K C) (hm : Meth X.K C m f) (F : FnOk X.prog X.w X.K X.mg X.base CX k f fd ps sp) (hr : Room k X.A) (hb : Binds X.K fd ps ds) (hd : Vals dvs ds) (hx : Passes CX X E)
    (ht : eval (.Call (.Attribute o m apos) [] [] pos) X.env = (do
      let ov ← eval o X.env
      standAt apos.atName
      let (f, first) ← holding [ov] (getMethod ov m pl)
      callWith pos f first (backTo pos (starEach [] X.env)) (backToKw pos (keywordEach [] X.env))) := by rfl) :
    PE1 X pins σ (.Call (.Attribute o m apos) [] [] pos) (tMeth C m sp dvs E ta tNil) := by
  refine ⟨fun s H Q I h => ?_⟩
  refine PySem.W.methodCall_KW (pl := pl) (thn (he.run s H _ I h) fun u s1 ⟨x, H1, I1, rx, a, dx, fs, ex, ea, l, q⟩ => ?_) ht
  subst ex
  obtain rfl : u = Value.ref a := rx
  refine getmeth_ok I1 ea c hm l ?_
  exact PySem.W.callWith_K0 (first := [.ref a]) I1.kIn hm.kp (run_fn (us := [.ref a]) (vs := [.ref a]) F hr hb hd hx I1 (.cons rfl .nil) q)
/-- e.x of a caught exception, within its suite -/
theorem pe_fldCK {X : Cx} {K : PySem.W.Frag} {e : Expr} {f : Str} {pos : Pos} {ta : TE} (hK : X.K = K) (he : PE X e ta) (hb : attributeBase e f X.env (eval e X.env) = eval e X.env) : PE X (.Attribute e f pos) (tFldC K ta f) := hK ▸ pe_fldC he hb
end
end L2
namespace K16
open PySem L2 PyProof.Rows
structure ExM (K : PySem.W.Frag) (TM BO N TW : Addr) : Prop where
  tt : PySem.W.exmOne K (.ref TM) (.ref TM) = some true
  bt : PySem.W.exmOne K (.ref BO) (.ref TM) = some false
  bb : PySem.W.exmOne K (.ref BO) (.ref BO) = some true
  nt : PySem.W.exmOne K (.ref N) (.ref TM) = some false
  nb : PySem.W.exmOne K (.ref N) (.ref BO) = some false
  nn : PySem.W.exmOne K (.ref N) (.ref N) = some true
  wt : PySem.W.exmOne K (.ref TW) (.ref TM) = some false
  wb : PySem.W.exmOne K (.ref TW) (.ref BO) = some false
  wn : PySem.W.exmOne K (.ref TW) (.ref N) = some false
  ww : PySem.W.exmOne K (.ref TW) (.ref TW) = some true
structure TxtD (mg : Str → Option Value) (TM BO N TW CE CF : Addr) : Prop where
  tm : mg "TooMany" = some (.ref TM)
  bo : mg "BadOrder" = some (.ref BO)
  nn : mg "NoName" = some (.ref N)
  tw : mg "Twice" = some (.ref TW)
  ce : mg "CallError" = some (.ref CE)
  cf : mg "Form" = some (.ref CF)
def spDone (K : PySem.W.Frag) (c : C5) : Sp := fun vs H Q _ => ∃ (a b : Addr) (ps : List Addr) (rows : List Rw) (xs : List V), vs = [.ref a, .ref b] ∧ (∀ r ∈ rows, r.ok) ∧ rows.length ≤ 100 ∧ H a = some (.lst (ps.map V.ref)) ∧ Paired (PAt c H) ps rows ∧ H b = some (.lst xs) ∧ xs.length ≤ 100 ∧ (∀ x ∈ xs, OkV K H x) ∧
  ∀ (t : Addr) (H' : Hp), Same H H' → RzAt H' t rows xs (dueZ rows xs) → Q (.ref t) H'
theorem due_nm {rows : List Rw} {xs : List V} (h : dueZ rows xs = .done) : xs.all nmV = true := by
  cases e : xs.all nmV with
  | true => rfl
  | false =>
    unfold dueZ at h
    by_cases h1 : 24 < rows.length ∨ 60 < xs.length
    · rw [if_pos h1] at h; cases h
    · rw [if_neg h1] at h
      cases em : misp 0 0 rows with
      | some k => rw [em] at h; cases h
      | none =>
        rw [em] at h
        rw [e] at h
        cases h
section
variable {P : Program} {w : World} {K : PySem.W.Frag} {mg : Str → Option Value} {base : Heap} {f CF TM BO N TW CE gB gW : Addr} {fd dB dW : FuncData} {c : C5} {m : MA}
theorem scDone : FnScope ["_law_made_here", "_law_bars", "_law_found", "e"] ["_law_made_here", "_law_bars"] (defScope sDone) := ⟨rfl, rfl, rfl, by decide +kernel, rfl, by decide +kernel, by decide +kernel⟩
theorem ok_done {gF gT : Addr} {eF eT : FuncData} (F : Fun K "_law_done" "_law_done" sDone f fd) (U : TxtD mg TM BO N TW CE CF) (EM : ExM K TM BO N TW) (FK : FC K CF) (MF : Mk K CF gF) (GF : FnOk P w K mg base (CXs P w) 4 gF eF ["self", "parameters", "bars"] (spFIZ K c CF TM BO N TW)) (bF : Binds K eF ["self", "parameters", "bars"] [])
    (mT : Meth K CF "told" gT) (GT : FnOk P w K mg base CX0 3 gT eT ["self"] (spFTold c CF)) (bT : Binds K eT ["self"] []) (XB : XCls P w K mg base "BadOrder" BO gB dB "at" "at") (XW : XCls P w K mg base "Twice" TW gW dW "name" "name") : FnOk P w K mg base CX0 6 f fd ["_law_made_here", "_law_bars"] (spDone K c) := by
  refine F.ok scDone (fun vs H Q E h => ?_) (fun cdv A outer s H vs Q E hr h => ?_)
  · obtain ⟨a, b, ps, rows, xs, rfl, _⟩ := h
    rfl
  obtain ⟨a, b, ps, rows, xs, rfl, hok, lr, ha, hp, hb, lb, hv, q⟩ := h
  have hr3 : Room 3 _ := hr.mono (by decide)
  refine ⟨_, pss_cons (ps_set (i := 2) scDone.nd rfl (Or.inl rfl) (pe_tup (ac pe_str (ac pe_non pa_nil))))
    (pss_cons (ps_tryS rfl rfl
        (ph_no rfl U.tm (fun ea => pss_one (ps_set (i := 2) scDone.nd rfl (Or.inl rfl) (pe_tup (ac pe_str (ac pe_non pa_nil)))))
        (ph_as (i := 3) scDone.nd rfl rfl rfl U.bo (fun ea => pss_one (ps_set (i := 2) scDone.nd rfl (Or.inl rfl) (pe_tup (ac pe_str (ac (pe_fldCK (K := K) rfl (pv 3) rfl) pa_nil)))))
        (ph_no rfl U.nn (fun ea => pss_one (ps_set (i := 2) scDone.nd rfl (Or.inl rfl) (pe_tup (ac pe_str (ac pe_non pa_nil)))))
        (ph_as (i := 3) scDone.nd rfl rfl rfl U.tw (fun ea => pss_one (ps_set (i := 2) scDone.nd rfl (Or.inl rfl) (pe_tup (ac pe_str (ac (pe_fldCK (K := K) rfl (pv 3) rfl) pa_nil)))))
        (ph_no rfl U.ce (fun ea => pss_one ps_dead) ph_nil)))))
      (fun pins σ xe E hp => s1_set (i := 2) scDone.nd rfl (Or.inl rfl) (p1_tup (a1_cons pe_str.one (a1_cons (p1_meth0 (p2_make MF GF hr rfl U.cf bF .nil hp (ac (pv 0) (ac (pv 1) pa_nil))) FK.cl mT GT hr3 bT .nil pass0) pa_nil.one)))))
    (pss_one (ps_ret (pv 2)))), ?_⟩
  refine ⟨by show 2 ≤ sizeLine; decide, fun t0 ht0 => ?_⟩
  have s0 := same_new ht0 (.tup [.str "done", .non])
  show tSeq _ _ _ _ (upd H t0 (.tup [.str "done", .non]))
  generalize upd H t0 (.tup [.str "done", .non]) = H0 at s0 ⊢
  refine ⟨_, rfl, _, rfl, fun x dx hx hdx hne => ?_⟩
  have smk : Same H0 (upd (upd H0 dx (.own x)) x (.ins CF dx [])) := same_make0 hx hdx
  have hx1 : upd (upd H0 dx (.own x)) x (.ins CF dx []) x = some (.ins CF dx []) := upd_same
  generalize upd (upd H0 dx (.own x)) x (.ins CF dx []) = H1 at smk hx1 ⊢
  have s1 := s0.trans smk
  refine ⟨x, a, b, dx, ps, rows, xs, rfl, hx1, s1 _ _ ha, pats_same s1 hp, hok, lr, s1 _ _ hb, lb, fun y hy => (hv y hy).same s1, ?_⟩
  generalize ez : dueZ rows xs = z at q ⊢
  cases z with
  | many =>
    intro od H2 s2
    refine ⟨TM, rfl, fun t ea hea => .inl ⟨EM.tt, ?_⟩⟩
    have s3 := same_new hea (excC ea TM od t)
    refine ⟨by show 2 ≤ sizeLine; decide, fun u hu => ⟨_, rfl, q u _ (s1.trans (s2.trans (s3.trans (same_new hu _)))) upd_same⟩⟩
  | order k =>
    intro d H2 s2 hd
    refine ⟨BO, rfl, fun t ea hea => .inr ⟨EM.bt, .inl ⟨EM.bb, ?_⟩⟩⟩
    have s3 := same_new hea (excC ea BO (some d) t)
    refine ⟨_, rfl, ea, BO, t, d, _, .int (k : Nat), rfl, upd_same, s3 _ _ hd, XB.ex, XB.set, XB.no, rfl, by show 2 ≤ sizeLine; decide, fun u hu => ⟨_, rfl, q u _ (s1.trans (s2.trans (s3.trans (same_new hu _)))) upd_same⟩⟩
  | name =>
    intro od H2 s2
    refine ⟨N, rfl, fun t ea hea => .inr ⟨EM.nt, .inr ⟨EM.nb, .inl ⟨EM.nn, ?_⟩⟩⟩⟩
    have s3 := same_new hea (excC ea N od t)
    refine ⟨by show 2 ≤ sizeLine; decide, fun u hu => ⟨_, rfl, q u _ (s1.trans (s2.trans (s3.trans (same_new hu _)))) upd_same⟩⟩
  | twice z =>
    intro d H2 s2 hd
    refine ⟨TW, rfl, fun t ea hea => .inr ⟨EM.wt, .inr ⟨EM.wb, .inr ⟨EM.wn, .inl ⟨EM.ww, ?_⟩⟩⟩⟩⟩
    have s3 := same_new hea (excC ea TW (some d) t)
    refine ⟨_, rfl, ea, TW, t, d, _, .str z, rfl, upd_same, s3 _ _ hd, XW.ex, XW.set, XW.no, rfl, by show 2 ≤ sizeLine; decide, fun u hu => ⟨_, rfl, q u _ (s1.trans (s2.trans (s3.trans (same_new hu _)))) upd_same⟩⟩
  | done =>
    intro bars H2 exs sx F2
    have s2 : Same H H2 := fun b' u e => sx b' u (s1 _ _ e) (ne_of_none (s0 _ _ e) hx)
    have FA := F2.at
    obtain ⟨dx', fs, lr', lb', ld', ps', h1, h2, h3, h4, h5, h6⟩ := FA
    refine ⟨rfl, x, dx', fs, rfl, h1, h2.no _ (by decide +kernel), x, rows, bars, rfl, hok, by omega, F2.at, fun t l1 l2 us H3 s3 _ _ _ e1 e2 pu e3 => ?_⟩
    refine ⟨by show 2 ≤ sizeLine; decide, fun u hu => ⟨_, rfl, ?_⟩⟩
    have s4 := same_new hu (.tup [.str "done", .ref t])
    refine q u _ (s2.trans (s3.trans s4)) ⟨t, l1, l2, us, upd_same, s4 _ _ e1, s4 _ _ e2, tats_same s4 pu, ?_, due_nm ez⟩
    rw [exs]
    exact s4 _ _ e3
end
end K16

set_option Elab.async false
set_option linter.all false
set_option maxRecDepth 100000
set_option maxHeartbeats 4000000
namespace K16
open PySem L2 PyProof.Rows
section
variable {K : PySem.W.Frag} {c : C5}
def rowD (k : Nat) (z : Str) (b : Bool) : List Dt := match k with
  | 0 => [.str "seat", .str z, .bl b] | 1 => [.str "both", .str z, .bl b] | 2 => [.str "tail", .str z] | 3 => [.str "tag", .str z, .bl b] | _ => [.str "bag", .str z]
theorem row_says {ok : Addr → Prop} {H : Hp} {n k : Nat} {z : Str} {b : Bool} (h : k < 5) : Paired (Says K ok H n) (rowV k (.str z) b) (rowD k z b) := by
  rcases lt5 h with rfl | rfl | rfl | rfl | rfl
  · exact .cons Says.str (.cons Says.str (.cons Says.bl .nil))
  · exact .cons Says.str (.cons Says.str (.cons Says.bl .nil))
  · exact .cons Says.str (.cons Says.str .nil)
  · exact .cons Says.str (.cons Says.str (.cons Says.bl .nil))
  · exact .cons Says.str (.cons Says.str .nil)
theorem lc_map {K : PySem.W.Frag} {a : Addr} {us : List Addr} {rows : List Rw} {caps : List (Option Nat)} {g : TG} {tt : TT} {te : TE} {σ : L2.St} {H1 : Hp} {Q : VK} {D : Addr} (R R' : Hp → Addr → Rw → Prop)
    (sR : ∀ {H H' v r}, R H v r → Same H H' → R H' v r) (sR' : ∀ {H H' v r}, R' H v r → Same H H' → R' H' v r) (uR' : ∀ {H v r D ys o}, R' H v r → H D = some (.lst ys) → R' (upd H D o) v r)
    (ha : H1 a = some (.lst (us.map V.ref))) (hu : Paired (R H1) us rows) (hn : rows.length ≤ 500) (hD : H1 D = none)
    (hs : ∀ (i : Nat) u r H (Qf : VK) (Qs : Hp → Prop), us[i]? = some u → rows[i]? = some r → Same H1 H → R H u r → (∀ v H', Same H H' → R' H' v r → Qf (.ref v) H') →
      g (.ref u) (capS caps σ) H fun σ2 H2 => tt σ2 H2 fun ok H3 => (ok = true → te σ2 H3 Qf) ∧ (ok = false → Qs H3))
    (hd : ∀ vs H, Same H1 H → H D = some (.lst (vs.map V.ref)) → Paired (R' H) vs rows → Q (.ref D) H) : LCr (Itl K a) caps g tt te σ H1 Q D := by
  have hl : us.length = rows.length := hu.length
  refine lc_list (K := K) (xs := us.map V.ref) (fun i ys H' => ∃ vs, ys = vs.map V.ref ∧ Same H1 H' ∧ H' D = some (.lst ys) ∧ Paired (R' H') vs (rows.take i)) ⟨[], rfl, same_new hD _, upd_same, .nil⟩ (fun i ys H' ⟨_, _, h, _⟩ => SqL.of (h _ _ ha)) ?_ ?_
  · rintro i x ys H' hlt hx ⟨vs, rfl, sH, hDy, fv⟩
    obtain ⟨u, hu', rfl⟩ := refs_at hx
    obtain ⟨r, hr', tr⟩ := paired_at hu hu'
    have nl : (vs.map V.ref).length ≤ i := by
      rw [List.length_map, fv.length, List.length_take]
      omega
    have hi : i < rows.length := (List.getElem?_eq_some_iff.mp hr').1
    have er : rows[i] = r := by rw [List.getElem?_eq_getElem hi] at hr'; exact Option.some.inj hr'
    refine hs i u r H' _ _ hu' hr' sH (sR tr sH) (fun v H2 s2 r2 => ?_)
    have s3 : Same H1 (upd H2 D (.lst (vs.map V.ref ++ [.ref v]))) := fun b o z => by
      rw [upd_ne (ne_of_none z hD)]
      exact s2 _ _ (sH b o z)
    refine lcN.mk hlt (le1000 (by rw [List.length_map, hl]; omega)) (s2 _ _ hDy) nl ⟨vs ++ [v], by rw [List.map_append]; rfl, s3, upd_same, ?_⟩
    rw [List.take_succ_eq_append_getElem hi, er]
    exact Paired.snoc (Paired.imp' (fun w r' z => uR' (sR' z s2) (s2 _ _ hDy)) fv) (uR' r2 (s2 _ _ hDy))
  · rintro ys H ⟨vs, rfl, sH, hDy, fv⟩
    rw [List.length_map, hl, List.take_length] at fv
    exact hd vs H sH hDy fv
theorem TAt.same {H H' : Hp} {u : Addr} {r : Rw} (h : TAt H u r) (s : Same H H') : TAt H' u r := s _ _ h
theorem TAt.upd {H : Hp} {v D : Addr} {r : Rw} {ys : List V} {o : HO} (h : TAt H v r) (hD : H D = some (.lst ys)) : TAt (upd H D o) v r := by
  show L2.upd H D o v = _
  rw [upd_ne (fun e => by rw [e] at h; rw [TAt, hD] at h; cases h)]
  exact h
theorem PAt.upd {c : C5} {H : Hp} {v D : Addr} {r : Rw} {ys : List V} {o : HO} (h : PAt c H v r) (hD : H D = some (.lst ys)) : PAt c (upd H D o) v r := by
  obtain ⟨dx, h⟩ := h
  refine ⟨dx, ?_⟩
  rw [upd_ne (fun e => by rw [e, hD] at h; cases h)]
  exact h
def rowsD (rows : List Rw) : List Dt := rows.map fun r => .tup (rowD r.k r.z r.b)
def barsD (bars : List Str) : List Dt := bars.map fun z => .str z
end
section
variable {K : PySem.W.Frag} {ok : Addr → Prop} {H : Hp} {n : Nat}
theorem says_rows {us : List Addr} {rows : List Rw} (h : Paired (TAt H) us rows) : (∀ r ∈ rows, r.ok) → Paired (Says K ok H (n + 1)) (us.map V.ref) (rowsD rows) := by
  induction h with
  | nil => intro _; exact .nil
  | cons r t ih => exact fun hok => .cons (Says.tup (SqT.of r) (row_says (hok _ List.mem_cons_self).1)) (ih fun r' h' => hok r' (List.mem_cons_of_mem _ h'))
theorem says_bars : ∀ bars : List Str, Paired (Says K ok H n) (bars.map V.str) (barsD bars)
  | [] => .nil
  | z :: zs => .cons Says.str (says_bars zs)
theorem says_told {t l1 l2 : Addr} {us : List Addr} {rows : List Rw} {bars : List Str} (ht : H t = some (.tup [.ref l1, .ref l2])) (h1 : H l1 = some (.lst (us.map V.ref))) (hu : Paired (TAt H) us rows) (hok : ∀ r ∈ rows, r.ok) (h2 : H l2 = some (.lst (bars.map V.str))) :
    Says K (fun _ => True) H 3 (.ref t) (.tup [.lst (rowsD rows), .lst (barsD bars)]) :=
  Says.tup (SqT.of ht) (.cons (Says.lst True.intro h1 (says_rows hu hok)) (.cons (Says.lst True.intro h2 (says_bars bars)) .nil))
/-- what the law's two ways say -/
def rzD (rows : List Rw) (xs : List V) : Rz → Dt
  | .many => .tup [.str "many", .non]
  | .order k => .tup [.str "order", .int (k : Nat)]
  | .name => .tup [.str "name", .non]
  | .twice z => .tup [.str "twice", .str z]
  | .done => .tup [.str "done", .tup [.lst (rowsD rows), .lst (barsD (txs xs))]]
theorem says_rz {t : Addr} {rows : List Rw} {xs : List V} {z : Rz} (hok : ∀ r ∈ rows, r.ok) (h : RzAt H t rows xs z) : Says K (fun _ => True) H 4 (.ref t) (rzD rows xs z) := by
  cases z with
  | many => exact Says.tup (SqT.of h) (.cons Says.str (.cons Says.non .nil))
  | order k => exact Says.tup (SqT.of h) (.cons Says.str (.cons Says.int .nil))
  | name => exact Says.tup (SqT.of h) (.cons Says.str (.cons Says.non .nil))
  | twice z => exact Says.tup (SqT.of h) (.cons Says.str (.cons Says.str .nil))
  | done =>
    obtain ⟨u, l1, l2, us, h1, h2, h3, h4, h5, h6⟩ := h
    have ex := (txs_map h6).1
    rw [ex] at h5
    exact Says.tup (SqT.of h1) (.cons Says.str (.cons (says_told h2 h3 h4 hok h5) .nil))
end
/-! ### things that stand beside a list that grows -/
end K16

set_option Elab.async false
set_option linter.all false
set_option maxRecDepth 100000
set_option maxHeartbeats 4000000
namespace K16
open PySem L2 PyProof.Rows
/-! ### pots -/
def PotAt (H : Hp) (p : Addr) : Prop := ∃ a b : Int, 0 ≤ a ∧ 0 ≤ b ∧ b < 2147483648 ∧ H p = some (.lst [.int a, .int b])
theorem PotAt.same {H H' : Hp} {p : Addr} (h : PotAt H p) (s : Same H H') : PotAt H' p := by
  obtain ⟨a, b, h1, h2, h3, h⟩ := h
  exact ⟨a, b, h1, h2, h3, s _ _ h⟩
structure TxtP (mg : Str → Option Value) : Prop where
  len : mg "len" = none
  abs : mg "abs" = none
  max : mg "max" = none
  min : mg "min" = none
  range : mg "range" = none
  int : mg "int" = none
  lst : mg "list" = none
def spPot (K : PySem.W.Frag) : Sp := fun vs H Q _ => ∃ (a : Addr) (ns : List Int) (k : Nat), vs = [.ref a, .int (k : Nat)] ∧ SqL K H a (ns.map V.int) ∧ ∀ (p : Addr) (H' : Hp), Same H H' → H p = none → PotAt H' p → Q (.ref p) H'
def spTake : Sp := fun vs H Q _ => ∃ (p : Addr) (m : Nat), vs = [.ref p, .int (m : Nat)] ∧ 0 < m ∧ m < 1000 ∧ PotAt H p ∧ ∀ (d : Nat) (H' : Hp), d < m → SX p H H' → PotAt H' p → Q (.int (d : Nat)) H'
section
variable {P : Program} {w : World} {K : PySem.W.Frag} {mg : Str → Option Value} {base : Heap} {f : Addr} {fd : FuncData}
theorem scPot : FnScope ["_law_script", "_law_k", "_law_cell"] ["_law_script", "_law_k"] (defScope sPot) := ⟨rfl, rfl, rfl, by decide +kernel, rfl, by decide +kernel, by decide +kernel⟩
theorem ok_pot (F : Fun K "_law_pot" "_law_pot" sPot f fd) (U : TxtP mg) : FnOk P w K mg base CX0 1 f fd ["_law_script", "_law_k"] (spPot K) := by
  refine F.ok scPot (fun vs H Q E h => ?_) (fun cdv A outer s H vs Q E hr h => ?_)
  · obtain ⟨a, ns, k, rfl, _⟩ := h
    rfl
  obtain ⟨a, ns, k, rfl, hS, q⟩ := h
  refine ⟨_, pss_cons (ps_set (i := 2) scPot.nd rfl (Or.inl rfl) pe_int)
    (pss_cons (ps_if (pt_cmpR op_lt (pv 1) (cB call_len_seq U.len PySem.boot_len (ac (pv 0) pa_nil)) (nomark _)) (pss_one (ps_set (i := 2) scPot.nd rfl (Or.inl rfl) (pe_ix ix_list (pv 0) (pv 1) (fun _ _ => rfl)))) pss_nil)
    (pss_one (ps_ret (pe_lst (ac (cB (call_max2 rfl) U.max boot_max (ac pe_int (ac (pe_op op_sub (cB call_abs U.abs boot_abs (ac (pv 2) pa_nil)) (pe_op op_pow pe_int pe_int)) pa_nil)))
      (ac (pe_op op_mod (pe_op op_add (pe_op op_add (pe_op op_mul (pe_op op_mod (cB call_abs U.abs boot_abs (ac (pv 2) pa_nil)) pe_int) pe_int) (pe_op op_mul pe_int (pv 1))) pe_int) pe_int) pa_nil)))))), ?_⟩
  refine seq_via (fun σ' H' => σ' = [some (.ref a), some (.int (k : Nat)), some (.int 0)] ∧ H' = H) ?_ (fun key => key _ _ ⟨rfl, rfl⟩)
  rintro σ0 H0 ⟨rfl, rfl⟩
  refine seq_via (fun σ' H' => ∃ n : Int, σ' = [some (.ref a), some (.int (k : Nat)), some (.int n)] ∧ H' = H0) ?_ (fun key => ?_)
  rotate_left
  · refine ⟨_, rfl, _, rfl, a, _, rfl, .inl hS, _, _, rfl, rfl, _, rfl, ?_⟩
    refine ite2 (fun c => ?_) (fun c => key _ _ ⟨0, rfl, rfl⟩)
    have c' : (k : Int) < (((ns.map V.int).length : Nat) : Int) := of_decide_eq_true c
    have hk : k < ns.length := by rw [List.length_map] at c'; omega
    exact ⟨_, rfl, _, rfl, a, _, _, .int ns[k], rfl, rfl, hS, atI_nat (by rw [List.getElem?_map, List.getElem?_eq_getElem hk]; rfl), key _ _ ⟨_, rfl, rfl⟩⟩
  rintro σ1 H1 ⟨n, rfl, rfl⟩
  refine ⟨_, rfl, n, rfl, _, _, rfl, rfl, ⟨by decide, by decide, by decide⟩, _, _, rfl, rfl, _, _, rfl, ?_⟩
  refine ⟨_, rfl, n, rfl, _, _, rfl, rfl, (by show (0 : Int) < 2147483587; decide), _, _, rfl, rfl, .inr ⟨by decide, by decide⟩, _, rfl, _, _, rfl, rfl, .inl ⟨by decide, by decide⟩, _, _, rfl, rfl, _, _, rfl, rfl, _, _, rfl, rfl, (by show (0 : Int) < 2147483629; decide), ?_⟩
  refine ⟨(by show 2 ≤ sizeLine; decide), fun p hp => q p _ (same_new hp _) hp ⟨_, _, ?_, ?_, ?_, upd_same⟩⟩
  · show (0 : Int) ≤ if _ > (0 : Int) then _ else (0 : Int)
    split <;> omega
  · exact Int.emod_nonneg _ (by decide)
  · exact Int.lt_trans (Int.emod_lt_of_pos _ (by decide)) (by decide)
theorem scTake : FnScope ["_law_pot_here", "_law_many", "_law_digit"] ["_law_pot_here", "_law_many"] (defScope sTake) := ⟨rfl, rfl, rfl, by decide +kernel, rfl, by decide +kernel, by decide +kernel⟩
theorem ok_take (F : Fun K "_law_take" "_law_take" sTake f fd) : FnOk P w K mg base CX0 1 f fd ["_law_pot_here", "_law_many"] spTake := by
  refine F.ok scTake (fun vs H Q E h => ?_) (fun cdv A outer s H vs Q E hr h => ?_)
  · obtain ⟨p, m, rfl, _⟩ := h
    rfl
  obtain ⟨p, m, rfl, m0, m1, ⟨a, b, a0, b0, b1, hp⟩, q⟩ := h
  refine ⟨_, pss_cons (ps_if (pt_cmpR op_gt (pe_ix ix_list (pv 0) pe_int (fun _ _ => rfl)) pe_int (nomark _))
      (pss_cons (ps_set (i := 2) scTake.nd rfl (Or.inl rfl) (pe_op op_mod (pe_ix ix_list (pv 0) pe_int (fun _ _ => rfl)) (pv 1)))
      (pss_cons (ps_asg (pe_op op_fdiv (pe_ix ix_list (pv 0) pe_int (fun _ _ => rfl)) (pv 1)) (pg_sub (pv 0) pe_int set_list))
      (pss_one (ps_ret (pv 2))))) pss_nil)
    (pss_cons (ps_asg (pe_op op_mod (pe_op op_add (pe_op op_mul (pe_ix ix_list (pv 0) pe_int (fun _ _ => rfl)) pe_int) pe_int) pe_int) (pg_sub (pv 0) pe_int set_list))
    (pss_one (ps_ret (pe_op op_mod (pe_op op_fdiv (pe_op op_mod (pe_op op_mul (pe_ix ix_list (pv 0) pe_int (fun _ _ => rfl)) (pe_ix ix_list (pv 0) pe_int (fun _ _ => rfl))) pe_int) pe_int) (pv 1))))), ?_⟩
  have mpos : (0 : Int) < (m : Int) := by omega
  refine ⟨_, rfl, p, _, 0, .int a, rfl, rfl, SqL.of hp, rfl, _, _, rfl, rfl, _, rfl, ?_⟩
  by_cases ha : 0 < a
  · refine dT (by show (0 : Int) < a; exact ha) ?_
    refine ⟨_, rfl, p, _, 0, .int a, rfl, rfl, SqL.of hp, rfl, _, rfl, _, _, rfl, rfl, mpos, ?_⟩
    refine ⟨_, rfl, p, _, 0, .int a, rfl, rfl, SqL.of hp, rfl, _, rfl, _, _, rfl, rfl, ⟨mpos, by omega⟩, _, rfl, p, _, 0, 0, rfl, rfl, hp, rfl, ?_⟩
    obtain ⟨d, hd⟩ := Int.eq_ofNat_of_zero_le (Int.emod_nonneg a (by omega : (m : Int) ≠ 0))
    have hlt := Int.emod_lt_of_pos a mpos
    refine ⟨_, rfl, ?_⟩
    have := q d _ (by omega) (SX.upd (o := .lst [.int (a / (m : Int)), .int b]) SX.refl) ⟨a / (m : Int), b, Int.ediv_nonneg a0 (by omega), b0, b1, upd_same⟩
    rw [show ((d : Nat) : Int) = a % (m : Int) from hd.symm] at this
    exact this
  · refine dF (by show ¬ (0 : Int) < a; exact ha) ?_
    refine ⟨_, rfl, p, _, 1, .int b, rfl, rfl, SqL.of hp, rfl, _, _, rfl, rfl, .inr ⟨by decide, by decide⟩, _, _, rfl, rfl, _, _, rfl, rfl, (by show (0 : Int) < 2147483629; decide), _, rfl, p, _, 1, 1, rfl, rfl, hp, rfl, ?_⟩
    have n0 : 0 ≤ ((b * 48271 + 12289) % 2147483629) := Int.emod_nonneg _ (by decide)
    have n1 : ((b * 48271 + 12289) % 2147483629) < 2147483629 := Int.emod_lt_of_pos _ (by decide)
    have g1 : upd H p (.lst [.int a, .int ((b * 48271 + 12289) % 2147483629)]) p = some (.lst [.int a, .int ((b * 48271 + 12289) % 2147483629)]) := upd_same
    refine ⟨_, rfl, p, _, 1, .int ((b * 48271 + 12289) % 2147483629), rfl, rfl, SqL.of g1, rfl, _, rfl, p, _, 1, .int ((b * 48271 + 12289) % 2147483629), rfl, rfl, SqL.of g1, rfl, _, _, rfl, rfl, .inl ⟨by omega, by omega⟩, _, _, rfl, rfl, (by show (0 : Int) < 2147483563; decide), _, _, rfl, rfl, ⟨by decide, by decide⟩, _, rfl, _, _, rfl, rfl, mpos, ?_⟩
    obtain ⟨d, hd⟩ := Int.eq_ofNat_of_zero_le (Int.emod_nonneg (((b * 48271 + 12289) % 2147483629) * ((b * 48271 + 12289) % 2147483629) % 2147483563 / 11) (by omega : (m : Int) ≠ 0))
    have hlt := Int.emod_lt_of_pos (((b * 48271 + 12289) % 2147483629) * ((b * 48271 + 12289) % 2147483629) % 2147483563 / 11) mpos
    have := q d _ (by omega) (SX.upd (o := .lst [.int a, .int ((b * 48271 + 12289) % 2147483629)]) SX.refl) ⟨a, ((b * 48271 + 12289) % 2147483629), a0, n0, by omega, upd_same⟩
    rw [show ((d : Nat) : Int) = ((b * 48271 + 12289) % 2147483629) * ((b * 48271 + 12289) % 2147483629) % 2147483563 / 11 % (m : Int) from hd.symm] at this
    exact this
end
end K16

set_option Elab.async false
set_option linter.all false
set_option maxRecDepth 100000
set_option maxHeartbeats 4000000
namespace K16
open PySem L2 PyProof.Rows
theorem SX.trans {p : Addr} {H H1 H2 : Hp} (x : SX p H H1) (y : SX p H1 H2) : SX p H H2 := fun b u e n => y b u (x b u e n) n
theorem sx_of {p : Addr} {H H1 : Hp} (s : Same H H1) : SX p H H1 := fun b u e _ => s b u e
theorem SX.pre {p : Addr} {H H1 H2 : Hp} (x : SX p H1 H2) (s : Same H H1) : SX p H H2 := fun b u e n => x b u (s b u e) n
theorem PotAt.ne {H : Hp} {p a : Addr} (h : PotAt H p) (ha : H a = none) : a ≠ p := fun e => by
  obtain ⟨_, _, _, _, _, h⟩ := h
  rw [← e, ha] at h
  cases h
theorem PotAt.ne_refs {H : Hp} {p a : Addr} {us : List Addr} (h : PotAt H p) (ha : H a = some (.lst (us.map V.ref))) : a ≠ p := fun e => by
  obtain ⟨_, _, _, _, _, h⟩ := h
  rw [← e, ha] at h
  cases us with
  | nil => cases h
  | cons u us => cases h
theorem PotAt.ne_strs {H : Hp} {p a : Addr} {zs : List Str} (h : PotAt H p) (ha : H a = some (.lst (zs.map V.str))) : a ≠ p := fun e => by
  obtain ⟨_, _, _, _, _, h⟩ := h
  rw [← e, ha] at h
  cases zs with
  | nil => cases h
  | cons u us => cases h
theorem PotAt.ne_tup {H : Hp} {p a : Addr} {xs : List V} (h : PotAt H p) (ha : H a = some (.tup xs)) : a ≠ p := fun e => by
  obtain ⟨_, _, _, _, _, h⟩ := h
  rw [← e, ha] at h
  cases h
theorem join_fold (r : List Nat) : ∀ a : Array Nat, (r.map fun k => (⟨#[k]⟩ : Str)).foldl (fun acc p => acc ++ (Str.ofString "").cps ++ p.cps) a = a ++ r.toArray := by
  induction r with
  | nil => intro a; simp
  | cons k r ih =>
    intro a
    rw [List.map_cons, List.foldl_cons, ih]
    have e0 : (Str.ofString "").cps = #[] := by decide +kernel
    rw [e0]
    apply Array.ext'
    simp
theorem join_chars (l : List Nat) : Txt.join (Str.ofString "") (l.map fun k => ⟨#[k]⟩) = ⟨l.toArray⟩ := by
  cases l with
  | nil => rfl
  | cons c r =>
    show (⟨(r.map fun k => (⟨#[k]⟩ : Str)).foldl (fun acc p => acc ++ (Str.ofString "").cps ++ p.cps) #[c]⟩ : Str) = _
    rw [join_fold]
    congr 1
    apply Array.ext'
    simp
def spWd : Sp := fun vs H Q _ => ∃ p : Addr, vs = [.ref p] ∧ PotAt H p ∧ ∀ (z : Str) (H' : Hp), nameB z = true → SX p H H' → PotAt H' p → Q (.str z) H'
theorem three {d : Nat} (h : d < 3) : d = 0 ∨ d = 1 ∨ d = 2 := by omega
section
variable {P : Program} {w : World} {K : PySem.W.Frag} {mg : Str → Option Value} {base : Heap} {f : Addr} {fd : FuncData}
theorem ndKP : ([Str.ofString "_law_k", Str.ofString "_law_pot_here"] : List Str).Nodup := by decide +kernel
theorem scWord : FnScope ["_law_pot_here", "_law_many"] ["_law_pot_here"] (defScope sWord) := ⟨rfl, rfl, rfl, by decide +kernel, rfl, by decide +kernel, by decide +kernel⟩
theorem ok_word {g : Addr} {gd : FuncData} (F : Fun K "_law_word" "_law_word" sWord f fd) (U : TxtP mg) (cT : Callee P w K mg base 1 "_law_take" g gd ["_law_pot_here", "_law_many"] spTake) : FnOk P w K mg base CX0 2 f fd ["_law_pot_here"] spWd := by
  refine F.ok scWord (fun vs H Q E h => ?_) (fun cdv A outer s H vs Q E hr h => ?_)
  · obtain ⟨p, rfl, _⟩ := h
    rfl
  obtain ⟨p, rfl, hp, q⟩ := h
  refine ⟨_, pss_cons (ps_set (i := 1) scWord.nd rfl (Or.inl rfl) (pe_op op_add pe_int (cF cT hr (ac (pv 0) (ac (pe_ix ix_list (pe_lst (ac pe_int (ac pe_int (ac pe_int pa_nil)))) (cF cT hr (ac (pv 0) (ac pe_int pa_nil))) (fun _ _ => rfl)) pa_nil)))))
    (pss_one (ps_ret (pe_bm PySem.F.plainAttrs_str PySem.F.slot_str_join PySem.F.type_str_join mt_join pe_str (ac (pe_lc ["_law_pot_here"] ["_law_k", "_law_pot_here"] [none, some 0] rfl ⟨rfl, rfl, rfl, rfl⟩ (pi_range1 rfl U.range (ac (pv 1) pa_nil)) (gown_name 0) rfl rfl rfl
        (fun pins fp s H C => ⟨pg_name (i := 0) ndKP rfl (Or.inl rfl) (.inr rfl), pif_nil, pe_ix (r := rIxS) ix_str pe_str (cF cT hr (ac (pv 1) (ac pe_int pa_nil))) (fun _ _ => rfl)⟩)) pa_nil)))), ?_⟩
  refine ⟨_, rfl, (by show 3 ≤ sizeLine; decide), fun l hl => ?_⟩
  have s1 := same_new hl (.lst [.int 1, .int 2, .int 8])
  have g1 : upd H l (.lst [.int 1, .int 2, .int 8]) l = some (.lst [.int 1, .int 2, .int 8]) := upd_same
  generalize upd H l (.lst [.int 1, .int 2, .int 8]) = H1 at s1 g1 ⊢
  have nl : l ≠ p := hp.ne hl
  refine ⟨_, rfl, p, 3, rfl, by decide, by decide, hp.same s1, fun d H2 hd x2 p2 => ?_⟩
  have g2 := x2 _ _ g1 nl
  obtain ⟨m, em, m0, m8⟩ : ∃ m : Nat, atI [V.int 1, .int 2, .int 8] (d : Int) = some (.int (m : Nat)) ∧ 0 < m ∧ m ≤ 8 := by
    rcases three hd with rfl | rfl | rfl
    · exact ⟨1, rfl, by decide, by decide⟩
    · exact ⟨2, rfl, by decide, by decide⟩
    · exact ⟨8, rfl, by decide, by decide⟩
  refine ⟨l, _, _, .int (m : Nat), rfl, rfl, SqL.of g2, em, p, m, rfl, m0, by omega, p2, fun e H3 he x3 p3 => ?_⟩
  have x13 : SX p H H3 := (x2.trans x3).pre s1
  refine ⟨_, _, rfl, rfl, ?_⟩
  have ee : (1 : Int) + (e : Int) = ((1 + e : Nat) : Int) := by omega
  refine ⟨rfl, _, rfl, ((1 + e : Nat) : Int), (by rw [← ee]), by omega, by omega, fun D hD => ?_⟩
  refine lc_range (n := 1 + e) (fun i ys H' => ∃ zs : List Nat, ys = zs.map (fun c => V.str ⟨#[c]⟩) ∧ zs.length = i ∧ (∀ c ∈ zs, 97 ≤ c ∧ c ≤ 122) ∧ SX p H3 H' ∧ PotAt H' p ∧ H' D = some (.lst ys)) ⟨[], rfl, rfl, (fun c hc => by cases hc), sx_of (same_new hD _), p3.same (same_new hD _), upd_same⟩ ?_ ?_
  · rintro i ys H' hlt ⟨zs, rfl, lz, cz, xH, pH, hDy⟩
    have nD : D ≠ p := p3.ne hD
    refine ⟨fun _ => ?_, fun e => Bool.noConfusion e⟩
    refine ⟨_, rfl, p, 26, rfl, by decide, by decide, pH, fun d2 H4 hd2 x4 p4 => ?_⟩
    have hDy4 := x4 _ _ hDy nD
    refine ⟨letters, _, 97 + d2, rfl, rfl, (by rw [letters_len]; decide), atI_nat (letters_at d2 hd2), ?_⟩
    refine lcN.mk hlt (le1000 (by omega)) hDy4 (by rw [List.length_map]; omega) ⟨zs ++ [97 + d2], by rw [List.map_append]; rfl, by rw [List.length_append, lz]; rfl, fun c hc => ?_, fun b u e' n => ?_, ?_, upd_same⟩
    · rcases List.mem_append.mp hc with hc | hc
      · exact cz c hc
      · rw [List.mem_singleton.mp hc]; omega
    · rw [upd_ne (ne_of_none e' hD)]
      exact x4 _ _ (xH _ _ e' n) n
    · obtain ⟨a, b, h1, h2, h3, h4⟩ := p4
      exact ⟨a, b, h1, h2, h3, by rw [upd_ne (Ne.symm nD)]; exact h4⟩
  rintro ys H4 ⟨zs, rfl, lz, cz, x4, p4, hD4⟩
  have hj : H4 D = some (.lst ((zs.map fun k => (⟨#[k]⟩ : Str)).map V.str)) := by rw [List.map_map]; exact hD4
  have sum1 : ((zs.map fun k => (⟨#[k]⟩ : Str)).map (·.length)).sum = zs.length := by
    clear hj hD4 lz cz
    induction zs with
    | nil => rfl
    | cons c zs ih =>
      rw [List.map_cons, List.map_cons, List.sum_cons, ih, List.length_cons]
      show 1 + zs.length = _
      omega
  refine ⟨_, D, _, rfl, rfl, hj, by decide +kernel, by rw [sum1, List.length_map]; omega, ?_⟩
  rw [join_chars]
  refine q _ _ (nameB_iff.mpr ⟨?_, ?_, ?_⟩) (x13.trans x4) p4
  · show 1 ≤ zs.toArray.size
    rw [List.size_toArray]; omega
  · show zs.toArray.size ≤ 8
    rw [List.size_toArray]; omega
  · intro c hc
    exact cz c (by simpa using hc)
end
end K16

set_option Elab.async false
set_option linter.all false
set_option maxRecDepth 100000
set_option maxHeartbeats 4000000
namespace K16
open PySem L2 PyProof.Rows
def addAt {α : Type} (rs : Nat → List α) (j : Nat) (x : α) : Nat → List α := fun n => if n = j then rs n ++ [x] else rs n
theorem addAt_same {α : Type} {rs : Nat → List α} {j : Nat} {x : α} : addAt rs j x j = rs j ++ [x] := if_pos rfl
theorem addAt_ne {α : Type} {rs : Nat → List α} {j n : Nat} {x : α} (h : n ≠ j) : addAt rs j x n = rs n := if_neg h
theorem grp_nm {k : Nat} (hk : k < 5) (h : byNm k = true) : grp k = 0 ∨ grp k = 2 := by
  rcases lt5 hk with rfl | rfl | rfl | rfl | rfl <;> first | (exact .inl rfl) | (exact .inr rfl) | (cases h)
theorem nms_app (a b : List Rw) : nms (a ++ b) = nms a ++ nms b := by unfold nms; rw [List.filter_append, List.map_append]
theorem nms_one (r : Rw) : nms [r] = if byNm r.k = true then [r.z] else [] := by
  unfold nms
  cases h : byNm r.k <;> simp [h]
theorem ord_cons {l g : Nat} {r : Rw} {rs : List Rw} (hg : grp r.k = g) (hb : badAt l g = false) (h : ordOk g rs = true) : ordOk l (r :: rs) = true := by
  show (!badAt l (grp r.k) && ordOk (grp r.k) rs) = true
  rw [hg, hb, h]
  rfl
theorem ord_even {g : Nat} (he : badAt g g = false) : ∀ (xs ys : List Rw) (l : Nat), badAt l g = false → (∀ r ∈ xs, grp r.k = g) → ordOk l ys = true → ordOk g ys = true → ordOk l (xs ++ ys) = true
  | [], _, _, _, _, h1, _ => h1
  | r :: rs, ys, l, hb, hg, _, h2 => ord_cons (hg r List.mem_cons_self) hb (ord_even he rs ys g he (fun x hx => hg x (List.mem_cons_of_mem _ hx)) h2 h2)
theorem ord_odd {g l : Nat} {xs ys : List Rw} (hl : xs.length ≤ 1) (hb : badAt l g = false) (hg : ∀ r ∈ xs, grp r.k = g) (h1 : ordOk l ys = true) (h2 : ordOk g ys = true) : ordOk l (xs ++ ys) = true := by
  match xs, hl with
  | [], _ => exact h1
  | [r], _ => exact ord_cons (hg r List.mem_cons_self) hb h2
theorem ord_all {xs0 xs1 xs2 xs3 : List Rw} (g0 : ∀ r ∈ xs0, grp r.k = 0) (g1 : ∀ r ∈ xs1, grp r.k = 1) (l1 : xs1.length ≤ 1) (g2 : ∀ r ∈ xs2, grp r.k = 2) (g3 : ∀ r ∈ xs3, grp r.k = 3) (l3 : xs3.length ≤ 1) : ordOk 0 (xs0 ++ (xs1 ++ (xs2 ++ xs3))) = true := by
  have h3 : ∀ l, l ≤ 2 → ordOk l xs3 = true := fun l hl => by
    have := ord_odd (g := 3) (l := l) (ys := []) l3 (by match l, hl with | 0, _ => rfl | 1, _ => rfl | 2, _ => rfl) g3 rfl rfl
    rwa [List.append_nil] at this
  have h2 : ∀ l, l ≤ 1 → ordOk l (xs2 ++ xs3) = true := fun l hl => ord_even (g := 2) rfl xs2 xs3 l (by match l, hl with | 0, _ => rfl | 1, _ => rfl) g2 (h3 l (by omega)) (h3 2 (by omega))
  have h1 : ordOk 0 (xs1 ++ (xs2 ++ xs3)) = true := ord_odd (g := 1) l1 rfl g1 (h2 0 (by omega)) (h2 1 (by omega))
  exact ord_even (g := 0) rfl xs0 _ 0 rfl g0 h1 h1
theorem nms_nil {xs : List Rw} {g : Nat} (hg : ∀ r ∈ xs, r.ok ∧ grp r.k = g) (h : g % 2 = 1) : nms xs = [] := by
  unfold nms
  rw [List.filter_eq_nil_iff.mpr (fun r hr e => ?_)]
  · rfl
  · obtain ⟨ho, q⟩ := hg r hr
    rcases grp_nm ho.1 e with z | z <;> rw [z] at q <;> rw [← q] at h <;> cases h
theorem misp_of_ord : ∀ (rows : List Rw) (l i : Nat), ordOk l rows = true → misp l i rows = none
  | [], _, _, _ => rfl
  | r :: rs, l, i, h => by
    have h' : (!badAt l (grp r.k) && ordOk (grp r.k) rs) = true := h
    rw [Bool.and_eq_true, Bool.not_eq_true'] at h'
    show (if badAt l (grp r.k) = true then some i else misp (grp r.k) (i + 1) rs) = none
    rw [h'.1, if_neg Bool.false_ne_true]
    exact misp_of_ord rs (grp r.k) (i + 1) h'.2
/-! ### rows that are laid in groups -/
structure RR (H : Hp) (lf tk : Addr) (g : Nat → Addr) (us : Nat → List Addr) (rs : Nat → List Rw) (ts : List Str) : Prop where
  hl : H lf = some (.lst [.ref (g 0), .ref (g 1), .ref (g 2), .ref (g 3)])
  hg : ∀ j, j < 4 → H (g j) = some (.lst ((us j).map V.ref))
  hp : ∀ j, j < 4 → Paired (TAt H) (us j) (rs j)
  ht : H tk = some (.lst (ts.map V.str))
  inj : ∀ a b, a < 4 → b < 4 → g a = g b → a = b
  nlf : ∀ j, j < 4 → lf ≠ g j
  ntk : ∀ j, j < 4 → tk ≠ g j
  nlt : tk ≠ lf
section
variable {H H' : Hp} {lf tk p : Addr} {g : Nat → Addr} {us : Nat → List Addr} {rs : Nat → List Rw} {ts : List Str}
theorem RR.sx (h : RR H lf tk g us rs ts) (hp : PotAt H p) (x : SX p H H') : RR H' lf tk g us rs ts := by
  refine ⟨x _ _ h.hl (hp.ne_refs (us := [g 0, g 1, g 2, g 3]) h.hl), fun j hj => x _ _ (h.hg j hj) (hp.ne_refs (h.hg j hj)), fun j hj => Paired.imp' (fun u r z => ?_) (h.hp j hj), x _ _ h.ht (hp.ne_strs h.ht), h.inj, h.nlf, h.ntk, h.nlt⟩
  have z' : H u = some (.tup (rv r)) := z
  exact x _ _ z' (hp.ne_tup z')
theorem RR.same (h : RR H lf tk g us rs ts) (s : Same H H') : RR H' lf tk g us rs ts :=
  ⟨s _ _ h.hl, fun j hj => s _ _ (h.hg j hj), fun j hj => tats_same s (h.hp j hj), s _ _ h.ht, h.inj, h.nlf, h.ntk, h.nlt⟩
theorem tat_upd {u a : Addr} {r : Rw} {xs ys : List V} (h : TAt H u r) (ha : H a = some (.lst xs)) : TAt (upd H a (.lst ys)) u r := by
  show upd H a _ u = _
  rw [upd_ne (fun e => by rw [TAt, e, ha] at h; cases h)]
  exact h
/-- a row is put to its group -/
theorem RR.app {n : Nat} {u : Addr} {r : Rw} (h : RR H lf tk g us rs ts) (hn : n < 4) (tu : TAt H u r) : RR (upd H (g n) (.lst ((us n).map V.ref ++ [.ref u]))) lf tk g (addAt us n u) (addAt rs n r) ts := by
  have hgn := h.hg n hn
  refine ⟨?_, fun j hj => ?_, fun j hj => ?_, ?_, h.inj, h.nlf, h.ntk, h.nlt⟩
  · rw [upd_ne (h.nlf n hn)]; exact h.hl
  · by_cases e : j = n
    · subst e; rw [upd_same, addAt_same, List.map_append]; rfl
    · rw [upd_ne (fun q => e (h.inj j n hj hn q)), addAt_ne e]; exact h.hg j hj
  · by_cases e : j = n
    · subst e
      rw [addAt_same, addAt_same]
      exact Paired.snoc (Paired.imp' (fun _ _ z => tat_upd z hgn) (h.hp j hj)) (tat_upd tu hgn)
    · rw [addAt_ne e, addAt_ne e]
      exact Paired.imp' (fun _ _ z => tat_upd z hgn) (h.hp j hj)
  · rw [upd_ne (h.ntk n hn)]; exact h.ht
def setAt {α : Type} (f : Nat → α) (n : Nat) (x : α) : Nat → α := fun j => if j = n then x else f j
theorem setAt_same {α : Type} {f : Nat → α} {n : Nat} {x : α} : setAt f n x n = x := if_pos rfl
theorem setAt_ne {α : Type} {f : Nat → α} {n j : Nat} {x : α} (h : j ≠ n) : setAt f n x j = f j := if_neg h
/-- a group is laid anew with one row -/
theorem RR.put {n : Nat} {u a : Addr} {r : Rw} (h : RR H lf tk g us rs ts) (hn : n < 4) (ha : H a = some (.lst [.ref u])) (tu : TAt H u r) (na : ∀ j, j < 4 → g j ≠ a) (nl : lf ≠ a) (nt : tk ≠ a) :
    RR (upd H lf (.lst [.ref (setAt g n a 0), .ref (setAt g n a 1), .ref (setAt g n a 2), .ref (setAt g n a 3)])) lf tk (setAt g n a) (setAt us n [u]) (setAt rs n [r]) ts := by
  refine ⟨upd_same, fun j hj => ?_, fun j hj => ?_, ?_, fun x y hx hy e => ?_, fun j hj => ?_, fun j hj => ?_, h.nlt⟩
  · by_cases e : j = n
    · subst e; rw [setAt_same, setAt_same, upd_ne (Ne.symm nl)]; exact ha
    · rw [setAt_ne e, setAt_ne e, upd_ne (Ne.symm (h.nlf j hj))]; exact h.hg j hj
  · by_cases e : j = n
    · subst e
      rw [setAt_same, setAt_same]
      exact .cons (tat_upd tu h.hl) .nil
    · rw [setAt_ne e, setAt_ne e]
      exact Paired.imp' (fun _ _ z => tat_upd z h.hl) (h.hp j hj)
  · rw [upd_ne h.nlt]; exact h.ht
  · by_cases ex : x = n
    · by_cases ey : y = n
      · rw [ex, ey]
      · rw [ex, setAt_same, setAt_ne ey] at e
        exact absurd e.symm (na y hy)
    · by_cases ey : y = n
      · rw [ey, setAt_same, setAt_ne ex] at e
        exact absurd e (na x hx)
      · rw [setAt_ne ex, setAt_ne ey] at e
        exact h.inj x y hx hy e
  · by_cases e : j = n
    · rw [e, setAt_same]; exact nl
    · rw [setAt_ne e]; exact h.nlf j hj
  · by_cases e : j = n
    · rw [e, setAt_same]; exact nt
    · rw [setAt_ne e]; exact h.ntk j hj
/-- other names are taken -/
theorem RR.tak {tk' : Addr} {ts' : List Str} (h : RR H lf tk g us rs ts) (ht : H tk' = some (.lst (ts'.map V.str))) (n : ∀ j, j < 4 → tk' ≠ g j) (nl : tk' ≠ lf) : RR H lf tk' g us rs ts' := ⟨h.hl, h.hg, h.hp, ht, h.inj, h.nlf, n, nl⟩
end
structure RM (i : Nat) (rs : Nat → List Rw) (ts : List Str) : Prop where
  ok : ∀ j, j < 4 → ∀ r ∈ rs j, r.ok ∧ grp r.k = j
  l1 : (rs 1).length ≤ 1
  l3 : (rs 3).length ≤ 1
  nd : (nms (rs 0) ++ nms (rs 2)).Nodup
  nm : ∀ z ∈ nms (rs 0) ++ nms (rs 2), z ∈ ts
  tn : ∀ z ∈ ts, nameB z = true
  ln : (rs 0).length + (rs 1).length + (rs 2).length + (rs 3).length ≤ i
  lt : ts.length ≤ i
theorem RM.skip {i : Nat} {rs : Nat → List Rw} {ts : List Str} (h : RM i rs ts) : RM (i + 1) rs ts := ⟨h.ok, h.l1, h.l3, h.nd, h.nm, h.tn, by have := h.ln; omega, by have := h.lt; omega⟩
end K16

set_option Elab.async false
set_option linter.all false
set_option maxRecDepth 100000
set_option maxHeartbeats 4000000
namespace K16
open PySem L2 PyProof.Rows
def names (rs : Nat → List Rw) : List Str := nms (rs 0) ++ nms (rs 2)
theorem names_no {rs : Nat → List Rw} {j : Nat} {r : Rw} (h : byNm r.k = false) : names (addAt rs j r) = names rs := by
  have go : ∀ n, nms (addAt rs j r n) = nms (rs n) := fun n => by
    unfold addAt
    split
    · rw [nms_app, nms_one, h, if_neg Bool.false_ne_true, List.append_nil]
    · rfl
  unfold names
  rw [go, go]
theorem names_yes {rs : Nat → List Rw} {r : Rw} (hk : r.k < 5) (h : byNm r.k = true) (nd : (names rs).Nodup) (hz : r.z ∉ names rs) : (names (addAt rs (grp r.k) r)).Nodup ∧ ∀ z, z ∈ names (addAt rs (grp r.k) r) ↔ (z ∈ names rs ∨ z = r.z) := by
  have hz0 : r.z ∉ nms (rs 0) := fun q => hz (List.mem_append.mpr (.inl q))
  have hz2 : r.z ∉ nms (rs 2) := fun q => hz (List.mem_append.mpr (.inr q))
  have nd' := List.nodup_append.mp nd
  rcases grp_nm hk h with e | e
  · rw [e]
    have e0 : names (addAt rs 0 r) = (nms (rs 0) ++ [r.z]) ++ nms (rs 2) := by
      unfold names
      rw [addAt_same, addAt_ne (by decide), nms_app, nms_one, h, if_pos rfl]
    rw [e0]
    refine ⟨List.nodup_append.mpr ⟨List.nodup_append.mpr ⟨nd'.1, by simp, fun x hx y hy q => ?_⟩, nd'.2.1, fun x hx y hy q => ?_⟩, fun z => ?_⟩
    · rw [List.mem_singleton.mp hy] at q
      exact hz0 (q ▸ hx)
    · rcases List.mem_append.mp hx with hx | hx
      · exact nd'.2.2 x hx y hy q
      · rw [List.mem_singleton.mp hx] at q
        exact hz2 (q ▸ hy)
    · unfold names
      simp only [List.mem_append, List.mem_singleton]
      constructor
      · rintro ((q | q) | q)
        · exact .inl (.inl q)
        · exact .inr q
        · exact .inl (.inr q)
      · rintro ((q | q) | q)
        · exact .inl (.inl q)
        · exact .inr q
        · exact .inl (.inr q)
  · rw [e]
    have e0 : names (addAt rs 2 r) = nms (rs 0) ++ (nms (rs 2) ++ [r.z]) := by
      unfold names
      rw [addAt_same, addAt_ne (by decide), nms_app, nms_one, h, if_pos rfl]
    rw [e0]
    refine ⟨List.nodup_append.mpr ⟨nd'.1, List.nodup_append.mpr ⟨nd'.2.1, by simp, fun x hx y hy q => ?_⟩, fun x hx y hy q => ?_⟩, fun z => ?_⟩
    · rw [List.mem_singleton.mp hy] at q
      exact hz2 (q ▸ hx)
    · rcases List.mem_append.mp hy with hy | hy
      · exact nd'.2.2 x hx y hy q
      · rw [List.mem_singleton.mp hy] at q
        exact hz0 (q ▸ hx)
    · unfold names
      simp only [List.mem_append, List.mem_singleton, or_assoc]
theorem len_add {α : Type} {rs : Nat → List α} {n j : Nat} {x : α} : (addAt rs n x j).length = (rs j).length + (if j = n then 1 else 0) := by
  unfold addAt
  split
  · rw [List.length_append]; rfl
  · rfl
theorem RM.seat {i : Nat} {rs : Nat → List Rw} {ts : List Str} {r : Rw} (h : RM i rs ts) (hr : r.ok) (hk : grp r.k = 0) (hb : byNm r.k = false) : RM (i + 1) (addAt rs 0 r) ts := by
  have e := names_no (rs := rs) (j := 0) hb
  refine ⟨fun j hj r' h' => ?_, by rw [len_add]; exact h.l1, by rw [len_add]; exact h.l3, ?_, ?_, h.tn, ?_, by have := h.lt; omega⟩
  · unfold addAt at h'
    split at h'
    · rename_i ej
      rcases List.mem_append.mp h' with h' | h'
      · exact h.ok j hj r' h'
      · rw [List.mem_singleton.mp h', ej]
        exact ⟨hr, hk⟩
    · exact h.ok j hj r' h'
  · show (names (addAt rs 0 r)).Nodup
    rw [e]; exact h.nd
  · show ∀ z ∈ names (addAt rs 0 r), z ∈ ts
    rw [e]; exact h.nm
  · rw [len_add, len_add, len_add, len_add]
    have := h.ln
    simp
    omega
theorem RM.name {i : Nat} {rs : Nat → List Rw} {ts : List Str} {r : Rw} (h : RM i rs ts) (hr : r.ok) (hb : byNm r.k = true) (hz : r.z ∉ ts) : RM (i + 1) (addAt rs (grp r.k) r) (ts ++ [r.z]) := by
  have e := names_yes (rs := rs) hr.1 hb h.nd (fun q => hz (h.nm _ q))
  have g02 := grp_nm hr.1 hb
  refine ⟨fun j hj r' h' => ?_, ?_, ?_, e.1, fun z hz' => ?_, fun z hz' => ?_, ?_, ?_⟩
  · unfold addAt at h'
    split at h'
    · rename_i ej
      rcases List.mem_append.mp h' with h' | h'
      · exact h.ok j hj r' h'
      · rw [List.mem_singleton.mp h', ej]
        exact ⟨hr, rfl⟩
    · exact h.ok j hj r' h'
  · rw [len_add, if_neg (by omega)]; exact h.l1
  · rw [len_add, if_neg (by omega)]; exact h.l3
  · rcases (e.2 z).mp hz' with q | q
    · exact List.mem_append.mpr (.inl (h.nm z q))
    · exact List.mem_append.mpr (.inr (by rw [q]; exact List.mem_singleton.mpr rfl))
  · rcases List.mem_append.mp hz' with q | q
    · exact h.tn z q
    · rw [List.mem_singleton.mp q]; exact hr.2
  · rw [len_add, len_add, len_add, len_add]
    have := h.ln
    rcases g02 with q | q <;> rw [q] <;> simp <;> omega
  · rw [List.length_append]
    have := h.lt
    show ts.length + 1 ≤ i + 1
    omega
theorem RM.odd {i n : Nat} {rs : Nat → List Rw} {ts : List Str} {r : Rw} (h : RM i rs ts) (hr : r.ok) (hk : grp r.k = n) (ho : n = 1 ∨ n = 3) : RM (i + 1) (setAt rs n [r]) ts := by
  have e0 : setAt rs n [r] 0 = rs 0 := setAt_ne (by omega)
  have e2 : setAt rs n [r] 2 = rs 2 := setAt_ne (by omega)
  refine ⟨fun j hj r' h' => ?_, ?_, ?_, by rw [e0, e2]; exact h.nd, by rw [e0, e2]; exact h.nm, h.tn, ?_, by have := h.lt; omega⟩
  · by_cases ej : j = n
    · rw [ej, setAt_same] at h'
      rw [List.mem_singleton.mp h', ej]
      exact ⟨hr, hk⟩
    · rw [setAt_ne ej] at h'
      exact h.ok j hj r' h'
  · by_cases ej : 1 = n
    · rw [← ej, setAt_same]; exact Nat.le_refl _
    · rw [setAt_ne ej]; exact h.l1
  · by_cases ej : 3 = n
    · rw [← ej, setAt_same]; exact Nat.le_refl _
    · rw [setAt_ne ej]; exact h.l3
  · rw [e0, e2]
    have := h.ln
    rcases ho with q | q
    · rw [q, setAt_same, setAt_ne (by decide : 3 ≠ 1)]
      show _ + 1 + _ + _ ≤ _
      omega
    · rw [q, setAt_same, setAt_ne (by decide : 1 ≠ 3)]
      show _ + _ + _ + 1 ≤ _
      omega
/-- the sorts as the law draws them -/
def kd : Nat → Nat
  | 0 => 0 | 1 => 1 | 2 => 3 | 3 => 2 | _ => 4
theorem kd_lt (d : Nat) : kd d < 5 := by unfold kd; split <;> decide
theorem kd_at : ∀ d : Nat, d < 5 → atI [V.str "seat", .str "both", .str "tag", .str "tail", .str "bag"] (d : Int) = some (.str (kw (kd d))) := by decide +kernel
def spRRows : Sp := fun vs H Q _ => ∃ p : Addr, vs = [.ref p] ∧ PotAt H p ∧ ∀ (t a l : Addr) (us : List Addr) (rows : List Rw) (ts : List Str) (H' : Hp), SX p H H' → PotAt H' p → H' t = some (.tup [.ref a, .ref l]) → H a = none → H' a = some (.lst (us.map V.ref)) → Paired (TAt H') us rows → (∀ r ∈ rows, r.ok) → rows.length ≤ 24 → ordOk 0 rows = true → (nms rows).Nodup →
  H l = none → H' l = some (.lst (ts.map V.str)) → (∀ z ∈ nms rows, z ∈ ts) → (∀ z ∈ ts, nameB z = true) → ts.length ≤ 24 → Q (.ref t) H'
end K16

set_option Elab.async false
set_option linter.all false
set_option maxRecDepth 100000
set_option maxHeartbeats 4000000
namespace K16
open PySem L2 PyProof.Rows
section
variable {P : Program} {w : World} {K : PySem.W.Frag} {mg : Str → Option Value} {base : Heap} {f : Addr} {fd : FuncData}
theorem paired_app {α β : Type} {R : α → β → Prop} {a b : List α} {c d : List β} (h : Paired R a c) (h2 : Paired R b d) : Paired R (a ++ b) (c ++ d) := by
  induction h with
  | nil => exact h2
  | cons r _ ih => exact .cons r ih
theorem kw_in0 : ∀ k : Nat, k < 5 → kw k = Str.ofString "seat" → k = 0 := by decide +kernel
theorem nm_of : ∀ k : Nat, k < 5 → ¬ grp k % 2 = 1 → ¬ k = 0 → byNm k = true := by decide +kernel
theorem scRRw : FnScope ["_law_pot_here", "_law_found", "_law_taken", "_law_k", "_law_sort", "_law_row", "_law_group"] ["_law_pot_here"] (defScope sRRw) := ⟨rfl, rfl, rfl, by decide +kernel, rfl, by decide +kernel, by decide +kernel⟩
theorem ok_rrows {g1 g2 : Addr} {e1 e2 : FuncData} (F : Fun K "_law_right_rows" "_law_right_rows" sRRw f fd) (U : TxtP mg) (cT : Callee P w K mg base 1 "_law_take" g1 e1 ["_law_pot_here", "_law_many"] spTake) (cW : Callee P w K mg base 2 "_law_word" g2 e2 ["_law_pot_here"] spWd) : FnOk P w K mg base CX0 3 f fd ["_law_pot_here"] spRRows := by
  refine F.ok scRRw (fun vs H Q E h => ?_) (fun cdv A outer s H vs Q E hr h => ?_)
  · obtain ⟨p, rfl, _⟩ := h
    rfl
  obtain ⟨p, rfl, hp, q⟩ := h
  have hr1 : Room 1 _ := hr.mono (by decide)
  have hu1 := hu_of hr
  refine ⟨_, pss_cons (ps_set (i := 1) scRRw.nd rfl (Or.inl rfl) (pe_lst (ac (pe_lst pa_nil) (ac (pe_lst pa_nil) (ac (pe_lst pa_nil) (ac (pe_lst pa_nil) pa_nil))))))
    (pss_cons (ps_set (i := 2) scRRw.nd rfl (Or.inl rfl) (pe_lst pa_nil))
    (pss_cons (ps_for PassesOwn.never rfl (pi_range1 rfl U.range (ac (cF cT hr1 (ac (pv 0) (ac (pe_ix ix_list (pe_lst (ac pe_int (ac pe_int (ac pe_int pa_nil)))) (cF cT hr1 (ac (pv 0) (ac pe_int pa_nil))) (fun _ _ => rfl)) pa_nil))) pa_nil)) (pg_name (i := 3) scRRw.nd rfl (Or.inl rfl))
      (pss_cons (ps_set (i := 4) scRRw.nd rfl (Or.inl rfl) (pe_ix ix_list (pe_lst (ac pe_str (ac pe_str (ac pe_str (ac pe_str (ac pe_str pa_nil)))))) (cF cT hr1 (ac (pv 0) (ac pe_int pa_nil))) (fun _ _ => rfl)))
      (pss_cons (ps_set (i := 5) scRRw.nd rfl (Or.inl rfl) (pe_tup (ac (pv 4) (ac (cF cW hr (ac (pv 0) pa_nil)) (ac (pe_cmpR op_eq (cF cT hr1 (ac (pv 0) (ac pe_int pa_nil))) pe_int (nomark _)) pa_nil)))))
      (pss_cons (ps_set (i := 6) scRRw.nd rfl (Or.inl rfl) (pe_dget hu1 (pe_disp (pps_cons pe_str pe_int (pps_cons pe_str pe_int (pps_cons pe_str pe_int (pps_cons pe_str pe_int (pps_cons pe_str pe_int pps_nil))))) rfl rfl (by simp) (by decide)) (pv 4) (fun _ _ => rfl)))
      (pss_one (ps_if (pt_cmpR op_eq (pe_op op_mod (pv 6) pe_int) pe_int (nomark _))
        (pss_one (ps_asg (pe_lst (ac (pe_slice sl_tup (pv 5) po_none (po_some pe_int)) pa_nil)) (pg_sub (pv 1) (pv 6) set_list)))
        (pss_one (ps_if (PW.pt (pw_or (pt_cmpR op_eq (pv 4) pe_str (nomark _)) (pw_or1 (pt_cmpR op_notIn_seq (pe_ix ix_tup (pv 5) pe_int (fun _ _ => rfl)) (pv 2) (by with_unfolding_all rfl)))))
          (pss_cons (ps_expr (pe_bm PySem.F.plainAttrs_list PySem.F.slot_list_append PySem.F.type_list_append mt_append (pe_ix ix_list (pv 1) (pv 6) (fun _ _ => rfl)) (ac (pv 5) pa_nil)))
          (pss_one (ps_set (i := 2) scRRw.nd rfl (Or.inl rfl) (pe_op op_cat (pv 2) (pe_slice sl_list (pe_lst (ac (pe_ix ix_tup (pv 5) pe_int (fun _ _ => rfl)) pa_nil)) po_none (po_some (cTy call_int1 U.int PyProof.Rows.boot_int (ac (pe_cmpR op_ne (pv 4) pe_str (nomark _)) pa_nil)))))))) pss_nil))))))))
    (pss_one (ps_ret (pe_tup (ac (pe_op op_cat (pe_op op_cat (pe_op op_cat (pe_ix ix_list (pv 1) pe_int (fun _ _ => rfl)) (pe_ix ix_list (pv 1) pe_int (fun _ _ => rfl))) (pe_ix ix_list (pv 1) pe_int (fun _ _ => rfl))) (pe_ix ix_list (pv 1) pe_int (fun _ _ => rfl))) (ac (pv 2) pa_nil))))))), ?_⟩
  have s1 : Same H H := Same.refl _
  refine ⟨(by show 0 ≤ sizeLine; decide), fun g0 hg0 => ?_⟩
  have a0 := same_new hg0 (.lst [])
  have b0 : upd H g0 (.lst []) g0 = some (.lst []) := upd_same
  generalize upd H g0 (.lst []) = K0 at a0 b0 ⊢
  refine ⟨(by show 0 ≤ sizeLine; decide), fun g1 hg1 => ?_⟩
  have a1 := same_new hg1 (.lst [])
  have b1 : upd K0 g1 (.lst []) g1 = some (.lst []) := upd_same
  have n01 : g0 ≠ g1 := ne_of_none b0 hg1
  generalize upd K0 g1 (.lst []) = K1 at a1 b1 ⊢
  refine ⟨(by show 0 ≤ sizeLine; decide), fun g2 hg2 => ?_⟩
  have a2 := same_new hg2 (.lst [])
  have b2 : upd K1 g2 (.lst []) g2 = some (.lst []) := upd_same
  have n02 : g0 ≠ g2 := ne_of_none (a1 _ _ b0) hg2
  have n12 : g1 ≠ g2 := ne_of_none b1 hg2
  generalize upd K1 g2 (.lst []) = K2 at a2 b2 ⊢
  refine ⟨(by show 0 ≤ sizeLine; decide), fun g3 hg3 => ?_⟩
  have a3 := same_new hg3 (.lst [])
  have b3 : upd K2 g3 (.lst []) g3 = some (.lst []) := upd_same
  have n03 : g0 ≠ g3 := ne_of_none (a2 _ _ (a1 _ _ b0)) hg3
  have n13 : g1 ≠ g3 := ne_of_none (a2 _ _ b1) hg3
  have n23 : g2 ≠ g3 := ne_of_none b2 hg3
  generalize upd K2 g3 (.lst []) = K3 at a3 b3 ⊢
  refine ⟨(by show 4 ≤ sizeLine; decide), fun lf hlf => ?_⟩
  have a4 := same_new hlf (.lst [.ref g0, .ref g1, .ref g2, .ref g3])
  have b4 : upd K3 lf (.lst [.ref g0, .ref g1, .ref g2, .ref g3]) lf = some (.lst [.ref g0, .ref g1, .ref g2, .ref g3]) := upd_same
  have m0 : g0 ≠ lf := ne_of_none (a3 _ _ (a2 _ _ (a1 _ _ b0))) hlf
  have m1 : g1 ≠ lf := ne_of_none (a3 _ _ (a2 _ _ b1)) hlf
  have m2 : g2 ≠ lf := ne_of_none (a3 _ _ b2) hlf
  have m3 : g3 ≠ lf := ne_of_none b3 hlf
  show tSeq _ _ _ _ (upd K3 lf (.lst [.ref g0, .ref g1, .ref g2, .ref g3]))
  generalize upd K3 lf (.lst [.ref g0, .ref g1, .ref g2, .ref g3]) = H5 at a4 b4 ⊢
  have sA : Same H H5 := a0.trans (a1.trans (a2.trans (a3.trans a4)))
  have c4 : ∀ {j : Nat}, j < 4 → j = 0 ∨ j = 1 ∨ j = 2 ∨ j = 3 := fun h => by omega
  obtain ⟨g, eg⟩ : ∃ g : Nat → Addr, g = fun j => match j with | 0 => g0 | 1 => g1 | 2 => g2 | _ => g3 := ⟨_, rfl⟩
  have inj : ∀ a b, a < 4 → b < 4 → g a = g b → a = b := fun a b ha hb e => by
    rw [eg] at e
    rcases c4 ha with rfl | rfl | rfl | rfl <;> rcases c4 hb with rfl | rfl | rfl | rfl <;> first | rfl | exact absurd e n01 | exact absurd e n02 | exact absurd e n03 | exact absurd e n12 | exact absurd e n13 | exact absurd e n23 | exact absurd e.symm n01 | exact absurd e.symm n02 | exact absurd e.symm n03 | exact absurd e.symm n12 | exact absurd e.symm n13 | exact absurd e.symm n23
  have nlf : ∀ j, j < 4 → lf ≠ g j := fun j hj e => by
    rw [eg] at e
    rcases c4 hj with rfl | rfl | rfl | rfl
    · exact m0 e.symm
    · exact m1 e.symm
    · exact m2 e.symm
    · exact m3 e.symm
  have hgn : ∀ j, j < 4 → H (g j) = none := fun j hj => by
    rw [eg]
    rcases c4 hj with rfl | rfl | rfl | rfl
    · exact hg0
    · exact a0.free hg1
    · exact (a0.trans a1).free hg2
    · exact (a0.trans (a1.trans a2)).free hg3
  have atg : ∀ n : Nat, n < 4 → atI [V.ref (g 0), .ref (g 1), .ref (g 2), .ref (g 3)] (n : Int) = some (.ref (g n)) := fun n hn => by
    rcases c4 hn with rfl | rfl | rfl | rfl <;> rfl
  refine ⟨(by show 0 ≤ sizeLine; decide), fun tk0 htk0 => ?_⟩
  have a5 := same_new htk0 (.lst [])
  have b5 : upd H5 tk0 (.lst []) tk0 = some (.lst []) := upd_same
  have sB := sA.trans a5
  show tSeq _ _ _ _ (upd H5 tk0 (.lst []))
  have R0 : RR (upd H5 tk0 (.lst [])) lf tk0 g (fun _ => []) (fun _ => []) [] := by
    have hg5 : ∀ j, j < 4 → H5 (g j) = some (.lst []) := fun j hj => by
      rw [eg]
      rcases c4 hj with rfl | rfl | rfl | rfl
      · exact a4 _ _ (a3 _ _ (a2 _ _ (a1 _ _ b0)))
      · exact a4 _ _ (a3 _ _ (a2 _ _ b1))
      · exact a4 _ _ (a3 _ _ b2)
      · exact a4 _ _ b3
    refine ⟨a5 _ _ (by rw [eg]; exact b4), fun j hj => a5 _ _ (hg5 j hj), fun j hj => .nil, b5, inj, nlf, fun j hj e => ?_, fun e => ?_⟩
    · rw [e, hg5 j hj] at htk0; cases htk0
    · rw [e, b4] at htk0; cases htk0
  have hlfn : H lf = none := (a0.trans (a1.trans (a2.trans a3))).free hlf
  have htkn : H tk0 = none := sA.free htk0
  generalize upd H5 tk0 (.lst []) = H6 at a5 b5 sB R0 ⊢
  clear inj nlf atg
  have hp6 := hp.same sB
  have atg : ∀ (g : Nat → Addr) (n : Nat), n < 4 → atI [V.ref (g 0), .ref (g 1), .ref (g 2), .ref (g 3)] (n : Int) = some (.ref (g n)) := fun g n hn => by
    rcases c4 hn with rfl | rfl | rfl | rfl <;> rfl
  clear eg
  -- how many
  refine ⟨_, rfl, (by show 3 ≤ sizeLine; decide), fun l hl => ?_⟩
  have s2 := same_new hl (.lst [.int 4, .int 9, .int 25])
  have g2 : upd H6 l (.lst [.int 4, .int 9, .int 25]) l = some (.lst [.int 4, .int 9, .int 25]) := upd_same
  generalize upd H6 l (.lst [.int 4, .int 9, .int 25]) = H7 at s2 g2 ⊢
  have nl : l ≠ p := hp6.ne hl
  have p7 := hp6.same s2
  refine ⟨_, rfl, p, 3, rfl, by decide, by decide, p7, fun d0 H8 hd0 x8 p8 => ?_⟩
  obtain ⟨mm, em, mm0, mm25⟩ : ∃ mm : Nat, atI [V.int 4, .int 9, .int 25] (d0 : Int) = some (.int (mm : Nat)) ∧ 0 < mm ∧ mm ≤ 25 := by
    rcases three hd0 with rfl | rfl | rfl
    · exact ⟨4, rfl, by decide, by decide⟩
    · exact ⟨9, rfl, by decide, by decide⟩
    · exact ⟨25, rfl, by decide, by decide⟩
  refine ⟨l, _, _, .int (mm : Nat), rfl, rfl, SqL.of (x8 _ _ g2 nl), em, p, mm, rfl, mm0, by omega, p8, fun n9 H9 hn9 x9 p9 => ?_⟩
  have x69 : SX p H6 H9 := (x8.trans x9).pre s2
  have R9 := R0.sx hp6 x69
  refine ⟨(n9 : Int), rfl, by omega, by omega, ?_⟩
  refine for_range (n := n9) (fun i σ H' => ∃ (tk : Addr) (g : Nat → Addr) (us : Nat → List Addr) (rs : Nat → List Rw) (ts : List Str) (v3 v4 v5 v6 : Option V), σ = [some (.ref p), some (.ref lf), some (.ref tk), v3, v4, v5, v6] ∧ RR H' lf tk g us rs ts ∧ RM i rs ts ∧ SX p H H' ∧ PotAt H' p ∧ (∀ j, j < 4 → H (g j) = none) ∧ H tk = none)
    ⟨tk0, g, _, _, [], _, _, _, _, rfl, R9, ⟨fun j hj r hr => (by cases hr), Nat.zero_le _, Nat.zero_le _, List.nodup_nil, fun z hz => (by cases hz), fun z hz => (by cases hz), Nat.le_refl _, Nat.le_refl _⟩, x69.pre sB, p9, hgn, htkn⟩ ?_ ?_
  · clear R0 R9 hgn htkn
    rintro i σ H1 hi ⟨tk, g, us, rs, ts, v3, v4, v5, v6, rfl, R1, M1, x1, p1, hgn, htk⟩
    have hi24 : i < n9 := hi
    refine ⟨(by show 5 ≤ sizeLine; decide), fun l1 hl1 => ?_⟩
    have s2 := same_new hl1 (.lst [.str "seat", .str "both", .str "tag", .str "tail", .str "bag"])
    have g2 : upd H1 l1 (.lst [.str "seat", .str "both", .str "tag", .str "tail", .str "bag"]) l1 = some (.lst [.str "seat", .str "both", .str "tag", .str "tail", .str "bag"]) := upd_same
    generalize upd H1 l1 (.lst [.str "seat", .str "both", .str "tag", .str "tail", .str "bag"]) = H2 at s2 g2 ⊢
    refine ⟨_, rfl, p, 5, rfl, by decide, by decide, p1.same s2, fun d H3 hd x3 p3 => ?_⟩
    have kl := kd_lt d
    refine ⟨l1, _, _, .str (kw (kd d)), rfl, rfl, SqL.of (x3 _ _ g2 (p1.ne hl1)), kd_at d hd, ?_⟩
    refine ⟨_, rfl, _, rfl, p, rfl, p3, fun z H4 hz x4 p4 => ?_⟩
    refine ⟨_, rfl, p, 2, rfl, by decide, by decide, p4, fun bb H5 hbb x5 p5 => ?_⟩
    refine ⟨rfl, (by show 3 ≤ sizeLine; decide), fun u hu => ?_⟩
    obtain ⟨fb, efb⟩ : ∃ fb : Bool, fb = decide (V.int ((bb : Nat) : Int) = V.int 1) := ⟨_, rfl⟩
    rw [← efb]
    have x15 : SX p H1 H5 := ((x3.trans (x4.trans x5))).pre s2
    have R5 := R1.sx p1 x15
    have x5H := x1.trans x15
    have su := same_new hu (.tup [.str (kw (kd d)), .str z, .bl fb])
    have tu : upd H5 u (.tup [.str (kw (kd d)), .str z, .bl fb]) u = some (.tup [.str (kw (kd d)), .str z, .bl fb]) := upd_same
    show tSeq _ _ _ _ (upd H5 u (.tup [.str (kw (kd d)), .str z, .bl fb]))
    generalize upd H5 u (.tup [.str (kw (kd d)), .str z, .bl fb]) = H6' at su tu ⊢
    intro dd hdd
    refine ⟨upd_same, gL, rfl, (by show 5 ≤ 15; decide), ?_⟩
    have t1 : Same H6' (upd (upd H6' dd (.dK [])) dd (.dK (mergeK [] gL))) := by rw [upd_upd]; exact same_new hdd _
    have e1' : upd (upd H6' dd (.dK [])) dd (.dK (mergeK [] gL)) dd = some (.dK (mergeK [] gL)) := upd_same
    generalize upd (upd H6' dd (.dK [])) dd (.dK (mergeK [] gL)) = H5' at t1 e1' ⊢
    refine ⟨_, rfl, dd, .int (grp (kd d)), rfl, .inl ⟨_, .inr (kw (kd d)), .inl e1', rfl, gD_kw (kd d) kl⟩, ?_⟩
    have R5 := R5.same (su.trans t1)
    have x5 := x5H.same (su.trans t1)
    have p5 := p5.same (su.trans t1)
    have tu := t1 _ _ tu
    have g4 := grp_lt (kd d)
    refine ⟨_, rfl, _, _, rfl, rfl, (by show (0 : Int) < 2; decide), rfl, _, rfl, ?_⟩
    by_cases eo : grp (kd d) % 2 = 1
    · refine dT (congrArg V.int (by omega)) ?_
      have hn : grp (kd d) = 1 ∨ grp (kd d) = 3 := by omega
      have k2 : kd d = 2 ∨ kd d = 4 := by
        have : ∀ k : Nat, k < 5 → grp k % 2 = 1 → k = 2 ∨ k = 4 := by decide
        exact this _ kl eo
      refine ⟨_, rfl, _, rfl, u, _, rfl, SqT.of tu, (fun h => absurd h.2 (show ¬ HT.sIx 3 3 (some 2) = 3 by decide +kernel)), fun t2 ht2 => ?_⟩
      rw [show cutV [V.str (kw (kd d)), .str z, .bl fb] none (some 2) = [V.str (kw (kd d)), .str z] from rfl]
      have s7 := same_new ht2 (.tup [.str (kw (kd d)), .str z])
      have tt : TAt (upd H5' t2 (.tup [.str (kw (kd d)), .str z])) t2 ⟨kd d, z, fb⟩ := by
        show upd H5' t2 _ t2 = some (.tup (rowV (kd d) (.str z) fb))
        rw [upd_same]
        rcases k2 with e | e <;> rw [e] <;> rfl
      generalize upd H5' t2 (.tup [.str (kw (kd d)), .str z]) = H7' at s7 tt ⊢
      refine ⟨(by show 1 ≤ sizeLine; decide), fun a ha => ?_⟩
      have s8 := same_new ha (.lst [.ref t2])
      have ha8 : upd H7' a (.lst [.ref t2]) a = some (.lst [.ref t2]) := upd_same
      have R7 := R5.same s7
      have na : ∀ j, j < 4 → g j ≠ a := fun j hj e => by
        have := R7.hg j hj
        rw [e, ha] at this
        cases this
      have nla : lf ≠ a := fun e => by
        have := R7.hl
        rw [e, ha] at this
        cases this
      have nta : tk ≠ a := fun e => by
        have := R7.ht
        rw [e, ha] at this
        cases this
      have x7 := x5.same s7
      have p7 := p5.same s7
      have hna : H a = none := by
        have np : a ≠ p := p7.ne ha
        cases eh : H a with
        | none => rfl
        | some u' =>
          have := x7 _ _ eh np
          rw [ha] at this
          cases this
      have R8 := R7.same s8
      have x8 := x7.same s8
      have p8 := p7.same s8
      have tt := TAt.same tt s8
      generalize upd H7' a (.lst [.ref t2]) = H8' at s8 ha8 R8 x8 p8 tt ⊢
      refine ⟨_, rfl, _, rfl, lf, _, (grp (kd d) : Int), grp (kd d), rfl, rfl, R8.hl, (by rcases hn with e | e <;> rw [e] <;> rfl), ?_⟩
      rw [show ([V.ref (g 0), .ref (g 1), .ref (g 2), .ref (g 3)].set (grp (kd d)) (.ref a)) = [.ref (setAt g (grp (kd d)) a 0), .ref (setAt g (grp (kd d)) a 1), .ref (setAt g (grp (kd d)) a 2), .ref (setAt g (grp (kd d)) a 3)] from by rcases hn with e | e <;> rw [e] <;> rfl]
      refine ⟨tk, setAt g (grp (kd d)) a, setAt us (grp (kd d)) [t2], setAt rs (grp (kd d)) [⟨kd d, z, fb⟩], ts, _, _, _, _, rfl, R8.put g4 ha8 tt na nla nta, M1.odd (r := ⟨kd d, z, fb⟩) ⟨kl, hz⟩ rfl hn, fun b' u' e n => ?_, ?_, fun j hj => ?_, htk⟩
      · rw [upd_ne (ne_of_none e hlfn)]
        exact x8 b' u' e n
      · have nlp : p ≠ lf := Ne.symm (p8.ne_refs (us := [g 0, g 1, g 2, g 3]) R8.hl)
        obtain ⟨a', b', h1, h2, h3, h4⟩ := p8
        exact ⟨a', b', h1, h2, h3, by rw [upd_ne nlp]; exact h4⟩
      · by_cases ej : j = grp (kd d)
        · rw [ej, setAt_same]; exact hna
        · rw [setAt_ne ej]; exact hgn j hj
    · refine dF (fun z => eo (by have := V.int.inj z; omega)) ?_
      have tu5 : TAt H5' u ⟨kd d, z, fb⟩ := by
        have k3 : kd d = 0 ∨ kd d = 1 ∨ kd d = 3 := by
          have : ∀ k : Nat, k < 5 → ¬ grp k % 2 = 1 → k = 0 ∨ k = 1 ∨ k = 3 := by decide
          exact this _ kl eo
        show H5' u = some (.tup (rowV (kd d) (.str z) fb))
        rw [tu]
        rcases k3 with e | e | e <;> rw [e] <;> rfl
      have rok : Rw.ok ⟨kd d, z, fb⟩ := ⟨kl, hz⟩
      have lg : (rs (grp (kd d))).length ≤ 1000 := by
        have := M1.ln
        rcases c4 g4 with e | e | e | e <;> rw [e] <;> omega
      have lts := M1.lt
      refine ⟨_, rfl, rfl, _, rfl, ?_⟩
      by_cases h0 : kd d = 0
      · refine dT (by rw [h0]; rfl) ?_
        refine iteT ?_
        refine ⟨_, rfl, _, rfl, lf, _, (grp (kd d) : Int), .ref (g (grp (kd d))), rfl, rfl, SqL.of R5.hl, atg g _ g4, .inl ⟨rfl, _, SqL.of (R5.hg _ g4)⟩, _, rfl, g (grp (kd d)), _, .ref u, rfl, rfl, R5.hg _ g4, (by rw [List.length_map, (R5.hp _ g4).length]; exact Nat.lt_of_le_of_lt (lg : _ ≤ 1000) (small1000 (Nat.le_refl 1000))), ?_⟩
        have R6 := R5.app g4 tu5
        have x6 : SX p H (upd H5' (g (grp (kd d))) (.lst ((us (grp (kd d))).map V.ref ++ [.ref u]))) := fun b' u' e n => by
          rw [upd_ne (ne_of_none e (hgn _ g4))]
          exact x5 b' u' e n
        have p6 : PotAt (upd H5' (g (grp (kd d))) (.lst ((us (grp (kd d))).map V.ref ++ [.ref u]))) p := by
          obtain ⟨a', b', h1, h2, h3, h4⟩ := p5
          exact ⟨a', b', h1, h2, h3, by rw [upd_ne (Ne.symm (PotAt.ne_refs ⟨a', b', h1, h2, h3, h4⟩ (R5.hg _ g4)))]; exact h4⟩
        have tu6 := tat_upd (ys := (us (grp (kd d))).map V.ref ++ [.ref u]) tu5 (R5.hg _ g4)
        generalize upd H5' (g (grp (kd d))) (.lst ((us (grp (kd d))).map V.ref ++ [.ref u])) = H6 at R6 x6 p6 tu6 ⊢
        refine ⟨_, rfl, _, rfl, u, _, 1, .str z, rfl, rfl, SqT.of tu6, tat1, (by show 1 ≤ sizeLine; decide), fun l7 hl7 => ?_⟩
        have s7 := same_new hl7 (.lst [.str z])
        have h7 : upd H6 l7 (.lst [.str z]) l7 = some (.lst [.str z]) := upd_same
        generalize upd H6 l7 (.lst [.str z]) = H7 at s7 h7 ⊢
        refine ⟨_, rfl, rfl, .inr ⟨_, rfl, _, rfl, l7, _, rfl, SqL.of h7, fun l8 hl8 => ?_⟩⟩
        rw [show cutV [V.str z] none (some (if (!decide (V.str (kw (kd d)) = V.str "seat")) = true then 1 else 0)) = [] from by rw [h0]; rfl]
        have s8 := same_new hl8 (.lst (([] : List Str).map V.str))
        have h8 : upd H7 l8 (.lst (([] : List Str).map V.str)) l8 = some (.lst (([] : List Str).map V.str)) := upd_same
        have e8 : upd H7 l8 (.lst ([])) = upd H7 l8 (.lst (([] : List Str).map V.str)) := rfl
        rw [e8]
        generalize upd H7 l8 (.lst (([] : List Str).map V.str)) = H8 at s8 h8 ⊢
        have s68 := s7.trans s8
        refine ⟨tk, l8, _, _, rfl, rfl, s68 _ _ R6.ht, h8, le1000 (by rw [List.length_map, List.length_map]; show _ + 0 ≤ _; omega), fun l9 hl9 => ?_⟩
        rw [← List.map_append]
        have s9 := same_new hl9 (.lst ((ts ++ ([] : List Str)).map V.str))
        have s69 := s68.trans s9
        have R9 := R6.same s69
        refine ⟨l9, g, _, _, ts ++ ([] : List Str), _, _, _, _, rfl, R9.tak upd_same (fun j hj e => ?_) (fun e => ?_), (by rw [List.append_nil]; have := M1.seat (r := ⟨kd d, z, fb⟩) rok (by show grp (kd d) = 0; rw [h0]; rfl) (by show byNm (kd d) = false; rw [h0]; rfl); rw [show grp (kd d) = 0 by rw [h0]; rfl]; exact this), x6.same s69, p6.same s69, hgn, ?_⟩
        · have := s68 _ _ (R6.hg j hj)
          rw [← e, hl9] at this
          cases this
        · have := s68 _ _ R6.hl
          rw [← e, hl9] at this
          cases this
        · by_cases en : l9 = p
          · obtain ⟨a', b', h1, h2, h3, h4⟩ := p6.same s68
            rw [← en, hl9] at h4
            cases h4
          · cases eh : H l9 with
            | none => rfl
            | some u' =>
              have := s68 _ _ (x6 _ _ eh en)
              rw [hl9] at this
              cases this
      · refine dF (fun e => h0 (kw_in0 _ kl (V.str.inj e))) ?_
        refine ⟨_, rfl, u, _, 1, .str z, rfl, rfl, SqT.of tu5, tat1, _, rfl, tk, _, rfl, .inl (SqL.of R5.ht), rfl, flat_strs, _, rfl, ?_⟩
        rw [show (if true = true then !inV (V.str z) (ts.map V.str) else inV (V.str z) (ts.map V.str)) = !decide (z ∈ ts) from by rw [if_pos rfl, inV_strs]]
        by_cases hzt : z ∈ ts
        · rw [decide_eq_true hzt]
          refine iteF ?_
          exact ⟨tk, g, us, rs, ts, _, _, _, _, rfl, R5, M1.skip, x5, p5, hgn, htk⟩
        · rw [decide_eq_false hzt]
          refine iteT ?_
          refine ⟨_, rfl, _, rfl, lf, _, (grp (kd d) : Int), .ref (g (grp (kd d))), rfl, rfl, SqL.of R5.hl, atg g _ g4, .inl ⟨rfl, _, SqL.of (R5.hg _ g4)⟩, _, rfl, g (grp (kd d)), _, .ref u, rfl, rfl, R5.hg _ g4, (by rw [List.length_map, (R5.hp _ g4).length]; exact Nat.lt_of_le_of_lt (lg : _ ≤ 1000) (small1000 (Nat.le_refl 1000))), ?_⟩
          have R6 := R5.app g4 tu5
          have x6 : SX p H (upd H5' (g (grp (kd d))) (.lst ((us (grp (kd d))).map V.ref ++ [.ref u]))) := fun b' u' e n => by
            rw [upd_ne (ne_of_none e (hgn _ g4))]
            exact x5 b' u' e n
          have p6 : PotAt (upd H5' (g (grp (kd d))) (.lst ((us (grp (kd d))).map V.ref ++ [.ref u]))) p := by
            obtain ⟨a', b', h1, h2, h3, h4⟩ := p5
            exact ⟨a', b', h1, h2, h3, by rw [upd_ne (Ne.symm (PotAt.ne_refs ⟨a', b', h1, h2, h3, h4⟩ (R5.hg _ g4)))]; exact h4⟩
          have tu6 := tat_upd (ys := (us (grp (kd d))).map V.ref ++ [.ref u]) tu5 (R5.hg _ g4)
          generalize upd H5' (g (grp (kd d))) (.lst ((us (grp (kd d))).map V.ref ++ [.ref u])) = H6 at R6 x6 p6 tu6 ⊢
          refine ⟨_, rfl, _, rfl, u, _, 1, .str z, rfl, rfl, SqT.of tu6, tat1, (by show 1 ≤ sizeLine; decide), fun l7 hl7 => ?_⟩
          have s7 := same_new hl7 (.lst [.str z])
          have h7 : upd H6 l7 (.lst [.str z]) l7 = some (.lst [.str z]) := upd_same
          generalize upd H6 l7 (.lst [.str z]) = H7 at s7 h7 ⊢
          refine ⟨_, rfl, rfl, .inr ⟨_, rfl, _, rfl, l7, _, rfl, SqL.of h7, fun l8 hl8 => ?_⟩⟩
          rw [show cutV [V.str z] none (some (if (!decide (V.str (kw (kd d)) = V.str "seat")) = true then 1 else 0)) = [V.str z] from by rw [decide_eq_false (fun e => h0 (kw_in0 _ kl (V.str.inj e)))]; rfl]
          have s8 := same_new hl8 (.lst ([z].map V.str))
          have h8 : upd H7 l8 (.lst ([z].map V.str)) l8 = some (.lst ([z].map V.str)) := upd_same
          have e8 : upd H7 l8 (.lst ([V.str z])) = upd H7 l8 (.lst ([z].map V.str)) := rfl
          rw [e8]
          generalize upd H7 l8 (.lst ([z].map V.str)) = H8 at s8 h8 ⊢
          have s68 := s7.trans s8
          refine ⟨tk, l8, _, _, rfl, rfl, s68 _ _ R6.ht, h8, le1000 (by rw [List.length_map, List.length_map]; show _ + 1 ≤ _; omega), fun l9 hl9 => ?_⟩
          rw [← List.map_append]
          have s9 := same_new hl9 (.lst ((ts ++ [z]).map V.str))
          have s69 := s68.trans s9
          have R9 := R6.same s69
          refine ⟨l9, g, _, _, ts ++ [z], _, _, _, _, rfl, R9.tak upd_same (fun j hj e => ?_) (fun e => ?_), (M1.name (r := ⟨kd d, z, fb⟩) rok (by show byNm (kd d) = true; exact nm_of _ kl eo h0) hzt), x6.same s69, p6.same s69, hgn, ?_⟩
          · have := s68 _ _ (R6.hg j hj)
            rw [← e, hl9] at this
            cases this
          · have := s68 _ _ R6.hl
            rw [← e, hl9] at this
            cases this
          · by_cases en : l9 = p
            · obtain ⟨a', b', h1, h2, h3, h4⟩ := p6.same s68
              rw [← en, hl9] at h4
              cases h4
            · cases eh : H l9 with
              | none => rfl
              | some u' =>
                have := s68 _ _ (x6 _ _ eh en)
                rw [hl9] at this
                cases this
  · rintro σ H' ⟨tk, g, us, rs, ts, v3, v4, v5, v6, rfl, O, M, xH, pH, hgn, htk⟩
    have lu : ∀ j, j < 4 → (us j).length = (rs j).length := fun j hj => (O.hp j hj).length
    have l0 := lu 0 (by decide)
    have l1 := lu 1 (by decide)
    have l2 := lu 2 (by decide)
    have l3 := lu 3 (by decide)
    have tot := M.ln
    refine ⟨_, rfl, lf, _, 0, .ref (g 0), rfl, rfl, SqL.of O.hl, rfl, _, rfl, lf, _, 1, .ref (g 1), rfl, rfl, SqL.of O.hl, rfl, g 0, g 1, _, _, rfl, rfl, O.hg 0 (by decide), O.hg 1 (by decide), le1000 (by rw [List.length_map, List.length_map]; omega), fun c1 hc1 => ?_⟩
    rw [← List.map_append]
    have z1 := same_new hc1 (.lst ((us 0 ++ us 1).map V.ref))
    have w1 : upd H' c1 (.lst ((us 0 ++ us 1).map V.ref)) c1 = some (.lst ((us 0 ++ us 1).map V.ref)) := upd_same
    generalize upd H' c1 (.lst ((us 0 ++ us 1).map V.ref)) = J1 at z1 w1 ⊢
    refine ⟨_, rfl, lf, _, 2, .ref (g 2), rfl, rfl, SqL.of (z1 _ _ O.hl), rfl, c1, g 2, _, _, rfl, rfl, w1, z1 _ _ (O.hg 2 (by decide)), le1000 (by rw [List.length_map, List.length_map, List.length_append]; omega), fun c2 hc2 => ?_⟩
    rw [← List.map_append]
    have z2 := same_new hc2 (.lst ((us 0 ++ us 1 ++ us 2).map V.ref))
    have w2 : upd J1 c2 (.lst ((us 0 ++ us 1 ++ us 2).map V.ref)) c2 = some (.lst ((us 0 ++ us 1 ++ us 2).map V.ref)) := upd_same
    generalize upd J1 c2 (.lst ((us 0 ++ us 1 ++ us 2).map V.ref)) = J2 at z2 w2 ⊢
    refine ⟨_, rfl, lf, _, 3, .ref (g 3), rfl, rfl, SqL.of (z2 _ _ (z1 _ _ O.hl)), rfl, c2, g 3, _, _, rfl, rfl, w2, z2 _ _ (z1 _ _ (O.hg 3 (by decide))), le1000 (by rw [List.length_map, List.length_map, List.length_append, List.length_append]; omega), fun c3 hc3 => ?_⟩
    rw [← List.map_append]
    have z3 := same_new hc3 (.lst ((us 0 ++ us 1 ++ us 2 ++ us 3).map V.ref))
    have w3 : upd J2 c3 (.lst ((us 0 ++ us 1 ++ us 2 ++ us 3).map V.ref)) c3 = some (.lst ((us 0 ++ us 1 ++ us 2 ++ us 3).map V.ref)) := upd_same
    have hc3n : H c3 = none := by
      have np : c3 ≠ p := ((pH.same z1).same z2).ne hc3
      cases eh : H c3 with
      | none => rfl
      | some u' =>
        have := z2 _ _ (z1 _ _ (xH _ _ eh np))
        rw [hc3] at this
        cases this
    generalize upd J2 c3 (.lst ((us 0 ++ us 1 ++ us 2 ++ us 3).map V.ref)) = J3 at z3 w3 ⊢
    refine ⟨_, rfl, (by show 2 ≤ sizeLine; decide), fun t ht => ?_⟩
    have z4 := same_new ht (.tup [.ref c3, .ref tk])
    have sZ : Same H' (upd J3 t (.tup [.ref c3, .ref tk])) := z1.trans (z2.trans (z3.trans z4))
    have O4 := O.same sZ
    have pr' := paired_app (paired_app (paired_app (O4.hp 0 (by decide)) (O4.hp 1 (by decide))) (O4.hp 2 (by decide))) (O4.hp 3 (by decide))
    have ass : rs 0 ++ rs 1 ++ rs 2 ++ rs 3 = rs 0 ++ (rs 1 ++ (rs 2 ++ rs 3)) := by rw [List.append_assoc, List.append_assoc]
    have gk : ∀ j, j < 4 → ∀ r ∈ rs j, grp r.k = j := fun j hj r hr => (M.ok j hj r hr).2
    have en : nms (rs 0 ++ rs 1 ++ rs 2 ++ rs 3) = nms (rs 0) ++ nms (rs 2) := by
      rw [ass, nms_app, nms_app, nms_app, nms_nil (M.ok 1 (by decide)) rfl, nms_nil (M.ok 3 (by decide)) rfl, List.nil_append, List.append_nil]
    refine q t c3 tk _ _ ts _ (xH.same sZ) (pH.same sZ) upd_same hc3n (z4 _ _ w3) pr' (fun r hm => ?_) ?_ ?_ ?_ htk O4.ht ?_ M.tn ?_
    · rcases List.mem_append.mp hm with hm | hm
      · rcases List.mem_append.mp hm with hm | hm
        · rcases List.mem_append.mp hm with hm | hm
          · exact (M.ok 0 (by decide) r hm).1
          · exact (M.ok 1 (by decide) r hm).1
        · exact (M.ok 2 (by decide) r hm).1
      · exact (M.ok 3 (by decide) r hm).1
    · rw [List.length_append, List.length_append, List.length_append]
      omega
    · rw [ass]
      exact ord_all (gk 0 (by decide)) (gk 1 (by decide)) M.l1 (gk 2 (by decide)) (gk 3 (by decide)) M.l3
    · rw [en]; exact M.nd
    · rw [en]; exact M.nm
    · have := M.lt
      omega
end
end K16

set_option Elab.async false
set_option linter.all false
set_option maxRecDepth 100000
set_option maxHeartbeats 4000000
namespace K16
open PySem L2 PyProof.Rows
def spRForm : Sp := fun vs H Q _ => ∃ p : Addr, vs = [.ref p] ∧ PotAt H p ∧ ∀ (t a b : Addr) (us : List Addr) (rows : List Rw) (bars : List Str) (H' : Hp), SX p H H' → PotAt H' p → H' t = some (.tup [.ref a, .ref b]) → H' a = some (.lst (us.map V.ref)) → Paired (TAt H') us rows → (∀ r ∈ rows, r.ok) → rows.length ≤ 24 → ordOk 0 rows = true → H' b = some (.lst (bars.map V.str)) → bars.length ≤ 60 → (∀ z ∈ bars, nameB z = true) → (nms rows ++ bars).Nodup → Q (.ref t) H'
theorem sx_tats {p : Addr} {H H' : Hp} {us : List Addr} {rows : List Rw} (hp : PotAt H p) (x : SX p H H') (h : Paired (TAt H) us rows) : Paired (TAt H') us rows := Paired.imp' (fun u r z => by
  have z' : H u = some (.tup (rv r)) := z
  exact x _ _ z' (hp.ne_tup z')) h
section
variable {P : Program} {w : World} {K : PySem.W.Frag} {mg : Str → Option Value} {base : Heap} {f : Addr} {fd : FuncData}
theorem scRFm : FnScope ["_law_pot_here", "_law_rows", "_law_taken", "_law_bars", "_law_k", "_law_name"] ["_law_pot_here"] (defScope sRFm) := ⟨rfl, rfl, rfl, by decide +kernel, rfl, by decide +kernel, by decide +kernel⟩
theorem ok_rform {g1 g2 g3 : Addr} {e1 e2 e3 : FuncData} (F : Fun K "_law_right_form" "_law_right_form" sRFm f fd) (U : TxtP mg) (cT : Callee P w K mg base 1 "_law_take" g1 e1 ["_law_pot_here", "_law_many"] spTake) (cW : Callee P w K mg base 2 "_law_word" g2 e2 ["_law_pot_here"] spWd) (cR : Callee P w K mg base 3 "_law_right_rows" g3 e3 ["_law_pot_here"] spRRows) : FnOk P w K mg base CX0 4 f fd ["_law_pot_here"] spRForm := by
  refine F.ok scRFm (fun vs H Q E h => ?_) (fun cdv A outer s H vs Q E hr h => ?_)
  · obtain ⟨p, rfl, _⟩ := h
    rfl
  obtain ⟨p, rfl, hp, q⟩ := h
  have hr1 : Room 1 _ := hr.mono (by decide)
  have hr2 : Room 2 _ := hr.mono (by decide)
  refine ⟨_, pss_cons (ps_asg (cF cR hr (ac (pv 0) pa_nil)) (pg_tup rfl (pgs_cons (pg_name (i := 1) scRFm.nd rfl (Or.inl rfl)) (pgs_cons (pg_name (i := 2) scRFm.nd rfl (Or.inl rfl)) pgs_nil))))
    (pss_cons (ps_set (i := 3) scRFm.nd rfl (Or.inl rfl) (pe_lst pa_nil))
    (pss_cons (ps_for PassesOwn.never rfl (pi_range1 rfl U.range (ac (cF cT hr1 (ac (pv 0) (ac (pe_ix ix_list (pe_lst (ac pe_int (ac pe_int (ac pe_int pa_nil)))) (cF cT hr1 (ac (pv 0) (ac pe_int pa_nil))) (fun _ _ => rfl)) pa_nil))) pa_nil)) (pg_name (i := 4) scRFm.nd rfl (Or.inl rfl))
      (pss_cons (ps_set (i := 5) scRFm.nd rfl (Or.inl rfl) (cF cW hr2 (ac (pv 0) pa_nil)))
      (pss_one (ps_if (pt_cmpR op_notIn_seq (pv 5) (pe_op op_cat (pv 2) (pv 3)) (by with_unfolding_all rfl)) (pss_one (ps_expr (pe_bm PySem.F.plainAttrs_list PySem.F.slot_list_append PySem.F.type_list_append mt_append (pv 3) (ac (pv 5) pa_nil)))) pss_nil))))
    (pss_one (ps_ret (pe_tup (ac (pv 1) (ac (pv 3) pa_nil))))))), ?_⟩
  refine ⟨_, rfl, p, rfl, hp, fun t0 a l us rows ts H1 x1 p1 ht0 na ha hu rok lr ord nd nl hl nts tok lts => ?_⟩
  refine ⟨t0, _, rfl, SqT.of ht0, rfl, _, _, rfl, _, _, rfl, rfl, ?_⟩
  refine ⟨(by show 0 ≤ sizeLine; decide), fun b hb => ?_⟩
  have s2 := same_new hb (.lst [])
  have g2 : upd H1 b (.lst []) b = some (.lst []) := upd_same
  show tSeq _ _ _ _ (upd H1 b (.lst []))
  generalize upd H1 b (.lst []) = H2 at s2 g2 ⊢
  have p2 := p1.same s2
  refine ⟨_, rfl, (by show 3 ≤ sizeLine; decide), fun l1 hl1 => ?_⟩
  have s3 := same_new hl1 (.lst [.int 4, .int 9, .int 61])
  have g3 : upd H2 l1 (.lst [.int 4, .int 9, .int 61]) l1 = some (.lst [.int 4, .int 9, .int 61]) := upd_same
  generalize upd H2 l1 (.lst [.int 4, .int 9, .int 61]) = H3 at s3 g3 ⊢
  refine ⟨_, rfl, p, 3, rfl, by decide, by decide, p2.same s3, fun d0 H4 hd0 x4 p4 => ?_⟩
  obtain ⟨mm, em, mm0, mm61⟩ : ∃ mm : Nat, atI [V.int 4, .int 9, .int 61] (d0 : Int) = some (.int (mm : Nat)) ∧ 0 < mm ∧ mm ≤ 61 := by
    rcases three hd0 with rfl | rfl | rfl
    · exact ⟨4, rfl, by decide, by decide⟩
    · exact ⟨9, rfl, by decide, by decide⟩
    · exact ⟨61, rfl, by decide, by decide⟩
  refine ⟨l1, _, _, .int (mm : Nat), rfl, rfl, SqL.of (x4 _ _ g3 (p2.ne hl1)), em, p, mm, rfl, mm0, by omega, p4, fun n5 H5 hn5 x5 p5 => ?_⟩
  have x25 : SX p H2 H5 := (x4.trans x5).pre s3
  have nbp : b ≠ p := p1.ne hb
  refine ⟨(n5 : Int), rfl, by omega, by omega, ?_⟩
  refine for_range (n := n5) (fun i σ H' => ∃ (bars : List Str) (v4 v5 : Option V), σ = [some (.ref p), some (.ref a), some (.ref l), some (.ref b), v4, v5] ∧ H' b = some (.lst (bars.map V.str)) ∧ bars.length ≤ i ∧ (∀ z ∈ bars, nameB z = true) ∧ (nms rows ++ bars).Nodup ∧ SX p H1 H' ∧ PotAt H' p)
    ⟨[], _, _, rfl, x25 _ _ g2 nbp, Nat.le_refl _, (fun z hz => by cases hz), by rw [List.append_nil]; exact nd, x25.pre s2, p5⟩ ?_ ?_
  · rintro i σ H' hi ⟨bars, v4, v5, rfl, hb', lb, nb, ndb, xH, pH⟩
    have hi' : i < n5 := hi
    refine ⟨_, rfl, p, rfl, pH, fun z H6 hz x6 p6 => ?_⟩
    have hb6 := x6 _ _ hb' nbp
    have hl6 := x6 _ _ (xH _ _ hl (p1.ne_strs hl)) (pH.ne_strs (xH _ _ hl (p1.ne_strs hl)))
    refine ⟨_, rfl, _, rfl, _, rfl, l, b, _, _, rfl, rfl, hl6, hb6, le1000 (by rw [List.length_map, List.length_map]; omega), fun c hc => ?_⟩
    rw [← List.map_append]
    have s7 := same_new hc (.lst ((ts ++ bars).map V.str))
    refine ⟨c, _, rfl, .inl (SqL.of upd_same), rfl, flat_strs, _, rfl, ?_⟩
    rw [show (if true = true then !inV (V.str z) ((ts ++ bars).map V.str) else inV (V.str z) ((ts ++ bars).map V.str)) = !decide (z ∈ ts ++ bars) from by rw [if_pos rfl, inV_strs]]
    have x7 : SX p H1 (upd H6 c (.lst ((ts ++ bars).map V.str))) := (xH.trans x6).same s7
    have p7 := p6.same s7
    have hb7 := s7 _ _ hb6
    generalize upd H6 c (.lst ((ts ++ bars).map V.str)) = H7 at s7 x7 p7 hb7 ⊢
    by_cases hm : z ∈ ts ++ bars
    · rw [decide_eq_true hm]
      refine iteF ?_
      exact ⟨bars, _, _, rfl, hb7, by omega, nb, ndb, x7, p7⟩
    · rw [decide_eq_false hm]
      refine iteT ?_
      refine ⟨_, rfl, .inl ⟨rfl, _, SqL.of hb7⟩, _, rfl, b, _, .str z, rfl, rfl, hb7, (by rw [List.length_map]; exact Nat.lt_of_le_of_lt (by omega : bars.length ≤ 1000) (small1000 (Nat.le_refl 1000))), ?_⟩
      refine ⟨bars ++ [z], _, _, rfl, by rw [upd_same, List.map_append]; rfl, by rw [List.length_append]; exact Nat.succ_le_succ lb, fun y hy => ?_, ?_, fun b' u e n => ?_, ?_⟩
      · rcases List.mem_append.mp hy with hy | hy
        · exact nb y hy
        · rw [List.mem_singleton.mp hy]; exact hz
      · rw [← List.append_assoc, List.nodup_append]
        refine ⟨ndb, by simp, fun x' hx' y' hy' e => ?_⟩
        have e3 : x' = z := e.trans (List.mem_singleton.mp hy')
        rw [e3] at hx'
        rcases List.mem_append.mp hx' with hx' | hx'
        · exact hm (List.mem_append.mpr (.inl (nts z hx')))
        · exact hm (List.mem_append.mpr (.inr hx'))
      · rw [upd_ne (ne_of_none e hb)]
        exact x7 _ _ e n
      · obtain ⟨a', b', h1, h2, h3, h4⟩ := p7
        exact ⟨a', b', h1, h2, h3, by rw [upd_ne (Ne.symm nbp)]; exact h4⟩
  · rintro σ H' ⟨bars, v4, v5, rfl, hb', lb, nb, ndb, xH, pH⟩
    refine ⟨_, rfl, _, rfl, (by show 2 ≤ sizeLine; decide), fun t ht => ?_⟩
    have s8 := same_new ht (.tup [.ref a, .ref b])
    exact q t a b us rows bars _ ((x1.trans xH).same s8) (pH.same s8) upd_same (s8 _ _ (xH _ _ ha (p1.ne_refs ha))) (tats_same s8 (sx_tats p1 xH hu)) rok lr ord (s8 _ _ hb') (by omega) nb ndb
end
end K16

set_option Elab.async false
set_option linter.all false
set_option maxRecDepth 100000
set_option maxHeartbeats 4000000
namespace K16
open PySem L2 PyProof.Rows
def spLTd : Sp := fun vs H Q _ => ∃ (a b : Addr) (us : List Addr) (rows : List Rw) (bars : List Str), vs = [.ref a, .ref b] ∧ (∀ r ∈ rows, r.ok) ∧ rows.length ≤ 100 ∧ H a = some (.lst (us.map V.ref)) ∧ Paired (TAt H) us rows ∧ H b = some (.lst (bars.map V.str)) ∧ bars.length ≤ 100 ∧ (∀ z ∈ bars, OkS z) ∧
  ∀ (t : Addr) (H' : Hp), Same H H' → RzAt H' t rows (bars.map V.str) (dueZ rows (bars.map V.str)) → Q (.ref t) H'
section
variable {P : Program} {w : World} {K : PySem.W.Frag} {mg : Str → Option Value} {base : Heap} {f N : Addr} {fd : FuncData} {c : C5} {m : MA}
theorem ndOne : ([Str.ofString "_law_one"] : List Str).Nodup := by decide +kernel
theorem scLTd : FnScope ["_law_rows", "_law_bars", "_law_made_here", "_law_handed", "_law_found"] ["_law_rows", "_law_bars"] (defScope sLTold) := ⟨rfl, rfl, rfl, by decide +kernel, rfl, by decide +kernel, by decide +kernel⟩
theorem ok_ltd {g1 g2 : Addr} {e1 e2 eO : FuncData} (F : Fun K "_law_told" "_law_told" sLTold f fd) (U : TxtP mg) (PP : Pcs K m c) (GO : FnOk P w K mg base CX0 2 m.fO eO ["self"] (spTold K m)) (bO : Binds K eO ["self"] []) (cM : CalleeE P w K mg base 5 "_law_made" g1 e1 ["_law_row"] (spMade1 K c N)) (cD : Callee P w K mg base 6 "_law_done" g2 e2 ["_law_made_here", "_law_bars"] (spDone K c)) : FnOk P w K mg base CX0 7 f fd ["_law_rows", "_law_bars"] spLTd := by
  refine F.ok scLTd (fun vs H Q E h => ?_) (fun cdv A outer s H vs Q E hr h => ?_)
  · obtain ⟨a, b, us, rows, bars, rfl, _⟩ := h
    rfl
  obtain ⟨a, b, us, rows, bars, rfl, rok, lr, ha, hu, hb, lb, hS, q⟩ := h
  have hr2 : Room 2 _ := hr.mono (by decide)
  have hr5 : Room 5 _ := hr.mono (by decide)
  have hU := hr.units
  have hO : ∀ C, Cs5 c C → Cls K C ∧ Meth K C "told" m.fO := fun C ⟨k, hk, e⟩ => by rw [e]; exact ⟨(PP k hk).cl, (PP k hk).mO⟩
  refine ⟨_, pss_cons (ps_lc (i := 2) [] ["_law_row"] [none] scLTd.nd rfl (Or.inl rfl) rfl ⟨rfl, rfl, rfl, rfl⟩ (pi_list (pv 0)) (gown_name 0) rfl rfl rfl
        (fun pins fp s H C => ⟨pg_name (i := 0) ndRow rfl (Or.inl rfl) (.inr rfl), pif_nil, cE (E := fun _ _ _ => False) cM passF hr5 (ac (pv 0) pa_nil)⟩))
    (pss_cons (ps_set (i := 3) scLTd.nd rfl (Or.inl rfl) (pe_lst (ac (cTy call_list_of U.lst PyProof.Rows.boot_list (ac (pv 2) pa_nil)) (ac (cTy call_list_of U.lst PyProof.Rows.boot_list (ac (pv 1) pa_nil)) pa_nil))))
    (pss_cons (ps_set (i := 4) scLTd.nd rfl (Or.inl rfl) (cF cD hr (ac (pe_ix ix_list (pv 3) pe_int (fun _ _ => rfl)) (ac (pe_ix ix_list (pv 3) pe_int (fun _ _ => rfl)) pa_nil))))
    (pss_cons (ps_if (PW.pt (pw_or (pt_cmpR (op_neS hU) (pe_ix ix_list (pv 3) pe_int (fun _ _ => rfl)) (pv 1) (nomark _)) (pw_or1 (pt_cmpR (op_neS hU) (pe_lc [] ["_law_one"] [none] rfl ⟨rfl, rfl, rfl, rfl⟩ (pi_list (pe_ix ix_list (pv 3) pe_int (fun _ _ => rfl))) (gown_name 0) rfl rfl rfl
        (fun pins fp s H C => ⟨pg_name (i := 0) ndOne rfl (Or.inl rfl) (.inr rfl), pif_nil, pe_methP (pv 0) hO GO hr2 bO pass0⟩)) (pv 0) (nomark _))))) (pss_one (ps_ret (pe_tup (ac pe_str (ac pe_non pa_nil))))) pss_nil)
    (pss_one (ps_ret (pv 4)))))), ?_⟩
  refine ⟨_, rfl, a, rfl, ⟨_, SqL.of ha⟩, fun D hD => ?_⟩
  refine lc_map TAt (PAt c) TAt.same PAt.same PAt.upd ha hu (by omega) hD (fun i u r H' Qf Qs hu' hr' sH tr qf => ?_) fun ps H1 u1 e1 p1 => ?_
  · have rk := rok r (List.mem_of_getElem? hr')
    exact ⟨fun _ => ⟨_, rfl, u, r.k, .str r.z, r.b, rfl, rk.1, tr, .inl ⟨r.z, rfl, nameB_ok rk.2⟩, fun _ o dx H5 s5 ho => qf o H5 s5 ⟨dx, ho⟩, fun e => absurd (show nameB r.z = false from e) (by rw [rk.2]; decide)⟩, fun e => Bool.noConfusion e⟩
  refine ⟨_, rfl, D, _, rfl, .inl (SqL.of e1), fun l1 hl1 => ?_⟩
  have s2 := same_new hl1 (.lst (ps.map V.ref))
  have g2 : upd H1 l1 (.lst (ps.map V.ref)) l1 = some (.lst (ps.map V.ref)) := upd_same
  generalize upd H1 l1 (.lst (ps.map V.ref)) = H2 at s2 g2 ⊢
  refine ⟨_, rfl, b, _, rfl, .inl (SqL.of (s2 _ _ (u1 _ _ hb))), fun l2 hl2 => ?_⟩
  have s3 := same_new hl2 (.lst (bars.map V.str))
  have g3 : upd H2 l2 (.lst (bars.map V.str)) l2 = some (.lst (bars.map V.str)) := upd_same
  generalize upd H2 l2 (.lst (bars.map V.str)) = H3 at s3 g3 ⊢
  refine ⟨by show 2 ≤ sizeLine; decide, fun lh hlh => ?_⟩
  have s4 := same_new hlh (.lst [.ref l1, .ref l2])
  have g4 : upd H3 lh (.lst [.ref l1, .ref l2]) lh = some (.lst [.ref l1, .ref l2]) := upd_same
  show tSeq _ _ _ _ (upd H3 lh (.lst [.ref l1, .ref l2]))
  generalize upd H3 lh (.lst [.ref l1, .ref l2]) = H4 at s4 g4 ⊢
  have s14 : Same H1 H4 := s2.trans (s3.trans s4)
  have s04 : Same H H4 := u1.trans s14
  have p4 := pats_same s14 p1
  refine ⟨_, rfl, lh, _, 0, .ref l1, rfl, rfl, SqL.of g4, rfl, _, rfl, lh, _, 1, .ref l2, rfl, rfl, SqL.of g4, rfl, l1, l2, ps, rows, bars.map V.str, rfl, rok, lr, s4 _ _ (s3 _ _ g2), p4, s4 _ _ g3, by rw [List.length_map]; exact lb, fun x hx => ?_, fun t H5 s5 z5 => ?_⟩
  · obtain ⟨z, hz, rfl⟩ := List.mem_map.mp hx
    exact .inl ⟨z, rfl, hS z hz⟩
  have s05 := s04.trans s5
  refine ⟨_, rfl, lh, _, 1, .ref l2, rfl, rfl, SqL.of (s5 _ _ g4), rfl, _, rfl, l2, b, 0, .lst (barsD bars), fun _ => True, fun _ => True, rfl, rfl, by decide, Says.lst True.intro (s5 _ _ (s4 _ _ g3)) (says_bars bars), Says.lst True.intro (s05 _ _ hb) (says_bars bars), _, rfl, ?_⟩
  refine iteF ?_
  refine ⟨_, rfl, lh, _, 0, .ref l1, rfl, rfl, SqL.of (s5 _ _ g4), rfl, l1, rfl, ⟨_, SqL.of (s5 _ _ (s4 _ _ (s3 _ _ g2)))⟩, fun D2 hD2 => ?_⟩
  refine lc_map (PAt c) TAt PAt.same TAt.same TAt.upd (s5 _ _ (s4 _ _ (s3 _ _ g2))) (pats_same s5 p4) (by omega) hD2 (fun i u r H' Qf Qs hu' hr' sH pr' qf => ?_) fun vs6 H6 u6 e6 p6 => ?_
  · have rk := rok r (List.mem_of_getElem? hr')
    obtain ⟨dx, hdx⟩ := pr'
    exact ⟨fun _ => ⟨_, rfl, u, _, dx, _, rfl, ⟨r.k, rk.1, rfl⟩, hdx, pf_no (by decide +kernel) (by decide +kernel) (by decide +kernel), u, dx, _, r.k, .str r.z, r.b, rfl, rk.1, PP r.k rk.1, hdx, fun v H7 s7 hv => qf v H7 s7 hv⟩, fun e => Bool.noConfusion e⟩
  have s06 := s05.trans u6
  refine ⟨_, rfl, D2, a, 1, .lst (rowsD rows), fun _ => True, fun _ => True, rfl, rfl, by decide, Says.lst True.intro e6 (says_rows p6 rok), Says.lst True.intro (s06 _ _ ha) (says_rows (tats_same s06 hu) rok), _, rfl, ?_⟩
  refine iteF ?_
  exact ⟨_, rfl, q t _ s06 (z5.same u6)⟩
end
end K16

set_option Elab.async false
set_option linter.all false
set_option maxRecDepth 100000
set_option maxHeartbeats 4000000
namespace K16
open PySem L2 PyProof.Rows
def spOSort : Sp := fun vs H Q _ => ∃ (p u : Addr) (r : Rw), vs = [.ref p, .ref u] ∧ PotAt H p ∧ TAt H u r ∧ r.ok ∧ ∀ (v : Addr) (r' : Rw) (H' : Hp), r'.ok → SX p H H' → PotAt H' p → TAt H' v r' → Q (.ref v) H'
theorem sx_tat {p u : Addr} {H H' : Hp} {r : Rw} (hp : PotAt H p) (x : SX p H H') (h : TAt H u r) : TAt H' u r := by
  have h' : H u = some (.tup (rv r)) := h
  exact x _ _ h' (hp.ne_tup h')
section
variable {P : Program} {w : World} {K : PySem.W.Frag} {mg : Str → Option Value} {base : Heap} {f : Addr} {fd : FuncData}
theorem scOSort : FnScope ["_law_pot_here", "_law_row", "_law_sort"] ["_law_pot_here", "_law_row"] (defScope sOSort) := ⟨rfl, rfl, rfl, by decide +kernel, rfl, by decide +kernel, by decide +kernel⟩
theorem tb_in : ∀ k : Nat, k < 5 → inV (.str (kw k)) [.str "tail", .str "bag"] = decide (k = 2 ∨ k = 4) := by decide +kernel
theorem ok_osort {g1 : Addr} {e1 : FuncData} (F : Fun K "_law_other_sort" "_law_other_sort" sOSort f fd) (cT : Callee P w K mg base 1 "_law_take" g1 e1 ["_law_pot_here", "_law_many"] spTake) : FnOk P w K mg base CX0 2 f fd ["_law_pot_here", "_law_row"] spOSort := by
  refine F.ok scOSort (fun vs H Q E h => ?_) (fun cdv A outer s H vs Q E hr h => ?_)
  · obtain ⟨p, u, r, rfl, _⟩ := h
    rfl
  obtain ⟨p, u, r, rfl, hp, tu, rok, q⟩ := h
  refine ⟨_, pss_cons (ps_set (i := 2) scOSort.nd rfl (Or.inl rfl) (pe_ix ix_list (pe_lst (ac pe_str (ac pe_str (ac pe_str (ac pe_str (ac pe_str pa_nil)))))) (cF cT hr (ac (pv 0) (ac pe_int pa_nil))) (fun _ _ => rfl)))
    (pss_cons (ps_if (pt_cmpR op_in_seq (pv 2) (pe_tup (ac pe_str (ac pe_str pa_nil))) (by with_unfolding_all rfl)) (pss_one (ps_ret (pe_tup (ac (pv 2) (ac (pe_ix ix_tup (pv 1) pe_int (fun _ _ => rfl)) pa_nil))))) pss_nil)
    (pss_one (ps_ret (pe_tup (ac (pv 2) (ac (pe_ix ix_tup (pv 1) pe_int (fun _ _ => rfl)) (ac (pe_cmpR op_eq (cF cT hr (ac (pv 0) (ac pe_int pa_nil))) pe_int (nomark _)) pa_nil))))))), ?_⟩
  refine ⟨(by show 5 ≤ sizeLine; decide), fun l1 hl1 => ?_⟩
  have s2 := same_new hl1 (.lst [.str "seat", .str "both", .str "tag", .str "tail", .str "bag"])
  have g2 : upd H l1 (.lst [.str "seat", .str "both", .str "tag", .str "tail", .str "bag"]) l1 = some (.lst [.str "seat", .str "both", .str "tag", .str "tail", .str "bag"]) := upd_same
  generalize upd H l1 (.lst [.str "seat", .str "both", .str "tag", .str "tail", .str "bag"]) = H2 at s2 g2 ⊢
  refine ⟨_, rfl, p, 5, rfl, by decide, by decide, hp.same s2, fun d H3 hd x3 p3 => ?_⟩
  have kl := kd_lt d
  have x03 : SX p H H3 := x3.pre s2
  have tu3 := sx_tat hp x03 tu
  refine ⟨l1, _, _, .str (kw (kd d)), rfl, rfl, SqL.of (x3 _ _ g2 (hp.ne hl1)), kd_at d hd, ?_⟩
  refine ⟨_, rfl, (by show 2 ≤ sizeLine; decide), fun t ht => ⟨t, [.str "tail", .str "bag"], rfl, .inr (SqT.of upd_same), rfl, rfl, _, rfl, ?_⟩⟩
  have s4 := same_new ht (.tup [.str "tail", .str "bag"])
  rw [show (if false = true then !inV (V.str (kw (kd d))) [.str "tail", .str "bag"] else inV (V.str (kw (kd d))) [.str "tail", .str "bag"]) = decide (kd d = 2 ∨ kd d = 4) from tb_in _ kl]
  have tu4 := s4 _ _ tu3
  have x04 := x03.same s4
  have p4 := p3.same s4
  generalize upd H3 t (.tup [.str "tail", .str "bag"]) = H4 at s4 tu4 x04 p4 ⊢
  by_cases h : kd d = 2 ∨ kd d = 4
  · rw [decide_eq_true h]
    refine iteT ?_
    refine ⟨_, rfl, _, rfl, u, _, 1, .str r.z, rfl, rfl, SqT.of tu4, tat1, by show 2 ≤ sizeLine; decide, fun v hv => ?_⟩
    refine q v ⟨kd d, r.z, true⟩ _ ⟨kl, rok.2⟩ (x04.same (same_new hv _)) (p4.same (same_new hv _)) ?_
    show upd H4 v _ v = some (.tup (rowV (kd d) (.str r.z) true))
    rw [upd_same]
    rcases h with e | e <;> rw [e] <;> rfl
  · rw [decide_eq_false h]
    refine iteF ?_
    refine ⟨_, rfl, _, rfl, u, _, 1, .str r.z, rfl, rfl, SqT.of tu4, tat1, _, rfl, p, 2, rfl, by decide, by decide, p4, fun bb H5 hbb x5 p5 => ?_⟩
    refine ⟨rfl, (by show 3 ≤ sizeLine; decide), fun v hv => ?_⟩
    refine q v ⟨kd d, r.z, decide (V.int ((bb : Nat) : Int) = V.int 1)⟩ _ ⟨kl, rok.2⟩ ((x04.trans x5).same (same_new hv _)) (p5.same (same_new hv _)) ?_
    show upd H5 v _ v = some (.tup (rowV (kd d) (.str r.z) _))
    rw [upd_same]
    have k3 : kd d = 0 ∨ kd d = 1 ∨ kd d = 3 := by omega
    rcases k3 with e | e | e <;> rw [e] <;> rfl
end
end K16

set_option Elab.async false
set_option linter.all false
set_option maxRecDepth 100000
set_option maxHeartbeats 4000000
namespace K16
open PySem L2 PyProof.Rows
theorem paired_set {α β : Type} {R : α → β → Prop} {xs : List α} {ys : List β} {x : α} {y : β} (h : Paired R xs ys) (r : R x y) : ∀ i, Paired R (xs.set i x) (ys.set i y) := by
  induction h with
  | nil => intro i; exact .nil
  | cons r0 t ih =>
    intro i
    cases i with
    | zero => exact .cons r t
    | succ i => exact .cons r0 (ih i)
theorem paired_ins {α β : Type} {R : α → β → Prop} {xs : List α} {ys : List β} {x : α} {y : β} (h : Paired R xs ys) (r : R x y) : ∀ i, Paired R (xs.take i ++ x :: xs.drop i) (ys.take i ++ y :: ys.drop i) := by
  induction h with
  | nil => intro i; rw [List.take_nil, List.take_nil, List.drop_nil, List.drop_nil]; exact .cons r .nil
  | cons r0 t ih =>
    intro i
    cases i with
    | zero => exact .cons r (.cons r0 t)
    | succ i => exact .cons r0 (ih i)
theorem ixN_nat {n i : Nat} (h : i < n) : ixN n (i : Int) = some i := by
  unfold ixN
  rw [if_pos (by omega), if_pos (by omega)]
  rfl
def tl (k : Nat) (b : Bool) : List V := match k with
  | 0 => [.bl b] | 1 => [.bl b] | 2 => [] | 3 => [.bl b] | _ => []
theorem cut2 {k : Nat} {x : V} {b : Bool} (h : k < 5) : cutV (rowV k x b) (some 2) none = tl k b ∧ ¬ (HT.sIx (rowV k x b).length 0 (some 2) = 0 ∧ HT.sIx (rowV k x b).length (rowV k x b).length none = (rowV k x b).length) := by
  rcases lt5 h with rfl | rfl | rfl | rfl | rfl
  · exact ⟨rfl, fun z => absurd z.1 (show ¬ HT.sIx 3 0 (some 2) = 0 by decide +kernel)⟩
  · exact ⟨rfl, fun z => absurd z.1 (show ¬ HT.sIx 3 0 (some 2) = 0 by decide +kernel)⟩
  · exact ⟨rfl, fun z => absurd z.1 (show ¬ HT.sIx 2 0 (some 2) = 0 by decide +kernel)⟩
  · exact ⟨rfl, fun z => absurd z.1 (show ¬ HT.sIx 3 0 (some 2) = 0 by decide +kernel)⟩
  · exact ⟨rfl, fun z => absurd z.1 (show ¬ HT.sIx 2 0 (some 2) = 0 by decide +kernel)⟩
/-- the rows as they stand -/
def RowsAt (H : Hp) (l : Addr) (us : List Addr) (rows : List Rw) : Prop := H l = some (.lst (us.map V.ref)) ∧ Paired (TAt H) us rows ∧ ∀ r ∈ rows, r.ok
theorem RowsAt.same {H H' : Hp} {l : Addr} {us : List Addr} {rows : List Rw} (h : RowsAt H l us rows) (s : Same H H') : RowsAt H' l us rows := ⟨s _ _ h.1, tats_same s h.2.1, h.2.2⟩
theorem RowsAt.sx {H H' : Hp} {l p : Addr} {us : List Addr} {rows : List Rw} (h : RowsAt H l us rows) (hp : PotAt H p) (x : SX p H H') : RowsAt H' l us rows := ⟨x _ _ h.1 (hp.ne_refs h.1), sx_tats hp x h.2.1, h.2.2⟩
theorem RowsAt.set {H : Hp} {l v : Addr} {us : List Addr} {rows : List Rw} {r : Rw} (h : RowsAt H l us rows) (tv : TAt H v r) (rok : r.ok) (i : Nat) : RowsAt (upd H l (.lst ((us.map V.ref).set i (.ref v)))) l (us.set i v) (rows.set i r) := by
  refine ⟨by rw [upd_same, List.map_set], ?_, fun r' h' => ?_⟩
  · exact paired_set (Paired.imp' (fun _ _ z => tat_upd z h.1) h.2.1) (tat_upd tv h.1) i
  · rcases List.mem_or_eq_of_mem_set h' with h' | h'
    · exact h.2.2 r' h'
    · rw [h']; exact rok
theorem RowsAt.ins {H : Hp} {l v : Addr} {us : List Addr} {rows : List Rw} {r : Rw} (h : RowsAt H l us rows) (tv : TAt H v r) (rok : r.ok) (i : Nat) : RowsAt (upd H l (.lst ((us.map V.ref).take i ++ .ref v :: (us.map V.ref).drop i))) l (us.take i ++ v :: us.drop i) (rows.take i ++ r :: rows.drop i) := by
  refine ⟨by rw [upd_same, List.map_append, List.map_cons, List.map_take, List.map_drop], ?_, fun r' h' => ?_⟩
  · exact paired_ins (Paired.imp' (fun _ _ z => tat_upd z h.1) h.2.1) (tat_upd tv h.1) i
  · rcases List.mem_append.mp h' with h' | h'
    · exact h.2.2 r' (List.mem_of_mem_take h')
    · rcases List.mem_cons.mp h' with h' | h'
      · rw [h']; exact rok
      · exact h.2.2 r' (List.mem_of_mem_drop h')
def spRStep : Sp := fun vs H Q _ => ∃ (p a : Addr) (way : Int) (us : List Addr) (rows : List Rw), vs = [.ref p, .ref a, .int way] ∧ PotAt H p ∧ RowsAt H a us rows ∧ 0 < rows.length ∧ rows.length ≤ 100 ∧ ∀ (l : Addr) (us' : List Addr) (rows' : List Rw) (H' : Hp), SX p H H' → PotAt H' p → H l = none → RowsAt H' l us' rows' → rows'.length ≤ rows.length + 1 → Q (.ref l) H'
section
variable {P : Program} {w : World} {K : PySem.W.Frag} {mg : Str → Option Value} {base : Heap} {f : Addr} {fd : FuncData}
theorem scRStep : FnScope ["_law_pot_here", "_law_rows", "_law_way", "_law_found", "_law_at", "_law_other"] ["_law_pot_here", "_law_rows", "_law_way"] (defScope sRStep) := ⟨rfl, rfl, rfl, by decide +kernel, rfl, by decide +kernel, by decide +kernel⟩
theorem ok_rstep {g1 g2 : Addr} {e1 e2 : FuncData} (F : Fun K "_law_row_step" "_law_row_step" sRStep f fd) (U : TxtP mg) (cT : Callee P w K mg base 1 "_law_take" g1 e1 ["_law_pot_here", "_law_many"] spTake) (cO : Callee P w K mg base 2 "_law_other_sort" g2 e2 ["_law_pot_here", "_law_row"] spOSort) : FnOk P w K mg base CX0 3 f fd ["_law_pot_here", "_law_rows", "_law_way"] spRStep := by
  refine F.ok scRStep (fun vs H Q E h => ?_) (fun cdv A outer s H vs Q E hr h => ?_)
  · obtain ⟨p, a, way, us, rows, rfl, _⟩ := h
    rfl
  obtain ⟨p, a, way, us, rows, rfl, hp, ra, l0, l1, q⟩ := h
  have hr1 : Room 1 _ := hr.mono (by decide)
  refine ⟨_, pss_cons (ps_set (i := 3) scRStep.nd rfl (Or.inl rfl) (cTy call_list_of U.lst PyProof.Rows.boot_list (ac (pv 1) pa_nil)))
    (pss_cons (ps_par (i := 4) (j := 5) rfl scRStep.nd rfl rfl (by decide) rfl rfl (ac (cF cT hr1 (ac (pv 0) (ac (cB call_len_seq U.len PySem.boot_len (ac (pv 1) pa_nil)) pa_nil))) (ac (cF cT hr1 (ac (pv 0) (ac (cB call_len_seq U.len PySem.boot_len (ac (pv 1) pa_nil)) pa_nil))) pa_nil)) rfl)
    (pss_cons (ps_if (pt_cmpR op_eq (pv 2) pe_int (nomark _)) (pss_one (ps_asg (pe_tup (ac (pe_ix ix_list (pv 1) (pv 5) (fun _ _ => rfl)) (ac (pe_ix ix_list (pv 1) (pv 4) (fun _ _ => rfl)) pa_nil))) (pg_tup rfl (pgs_cons (pg_sub (pv 3) (pv 4) set_list) (pgs_cons (pg_sub (pv 3) (pv 5) set_list) pgs_nil))))) pss_nil)
    (pss_cons (ps_if (pt_cmpR op_eq (pv 2) pe_int (nomark _)) (pss_one (ps_expr (pe_bm PySem.F.plainAttrs_list PySem.F.slot_list_insert PySem.F.type_list_insert mt_insert (pv 3) (ac (pv 5) (ac (pe_ix ix_list (pv 1) (pv 4) (fun _ _ => rfl)) pa_nil))))) pss_nil)
    (pss_cons (ps_if (pt_cmpR op_eq (pv 2) pe_int (nomark _)) (pss_one (ps_asg (pe_op op_catT (pe_tup (ac (pe_ix ix_tup (pe_ix ix_list (pv 1) (pv 4) (fun _ _ => rfl)) pe_int (fun _ _ => rfl)) (ac (pe_ix ix_tup (pe_ix ix_list (pv 1) (pv 5) (fun _ _ => rfl)) pe_int (fun _ _ => rfl)) pa_nil))) (pe_slice sl_tup (pe_ix ix_list (pv 1) (pv 4) (fun _ _ => rfl)) (po_some pe_int) po_none)) (pg_sub (pv 3) (pv 4) set_list))) pss_nil)
    (pss_cons (ps_if (pt_cmpR op_eq (pv 2) pe_int (nomark _)) (pss_one (ps_asg (cF cO hr (ac (pv 0) (ac (pe_ix ix_list (pv 1) (pv 4) (fun _ _ => rfl)) pa_nil))) (pg_sub (pv 3) (pv 4) set_list))) pss_nil)
    (pss_one (ps_ret (pv 3)))))))), ?_⟩
  have lu : us.length = rows.length := ra.2.1.length
  refine ⟨_, rfl, a, _, rfl, .inl (SqL.of ra.1), fun l hl => ?_⟩
  have s1 := same_new hl (.lst (us.map V.ref))
  have rl : RowsAt (upd H l (.lst (us.map V.ref))) l us rows := ⟨upd_same, tats_same s1 ra.2.1, ra.2.2⟩
  show tSeq _ _ _ _ (upd H l (.lst (us.map V.ref)))
  generalize upd H l (.lst (us.map V.ref)) = H1 at s1 rl ⊢
  have p1 := hp.same s1
  have ra1 := ra.same s1
  refine ⟨_, rfl, _, rfl, a, _, rfl, .inl (SqL.of ra1.1), p, rows.length, (by rw [List.length_map, lu]; rfl), l0, by omega, p1, fun i H2 hi x2 p2 => ?_⟩
  have ra2 := ra1.sx p1 x2
  refine ⟨_, rfl, _, rfl, a, _, rfl, .inl (SqL.of ra2.1), p, rows.length, (by rw [List.length_map, lu]; rfl), l0, by omega, p2, fun j H3 hj x3 p3 => ?_⟩
  refine ⟨_, _, rfl, ?_⟩
  have x13 := x2.trans x3
  have rl3 := rl.sx p1 x13
  have x03 : SX p H H3 := x13.pre s1
  have nlp : l ≠ p := hp.ne hl
  -- the rows at i and at j
  have hiu : i < us.length := by omega
  have hju : j < us.length := by omega
  obtain ⟨ri, hri, _⟩ := paired_at ra.2.1 (List.getElem?_eq_getElem hiu)
  obtain ⟨rj, hrj, _⟩ := paired_at ra.2.1 (List.getElem?_eq_getElem hju)
  have oki := ra.2.2 ri (List.mem_of_getElem? hri)
  have okj := ra.2.2 rj (List.mem_of_getElem? hrj)
  have ati : atI (us.map V.ref) (i : Int) = some (.ref us[i]) := atI_nat (by rw [List.getElem?_map, List.getElem?_eq_getElem hiu]; rfl)
  have atj : atI (us.map V.ref) (j : Int) = some (.ref us[j]) := atI_nat (by rw [List.getElem?_map, List.getElem?_eq_getElem hju]; rfl)
  have tai : ∀ {H' : Hp}, RowsAt H' a us rows → TAt H' us[i] ri := fun h => by
    obtain ⟨r', h1, h2⟩ := paired_at h.2.1 (List.getElem?_eq_getElem hiu)
    rw [hri] at h1; cases h1; exact h2
  have taj : ∀ {H' : Hp}, RowsAt H' a us rows → TAt H' us[j] rj := fun h => by
    obtain ⟨r', h1, h2⟩ := paired_at h.2.1 (List.getElem?_eq_getElem hju)
    rw [hrj] at h1; cases h1; exact h2
  have hal : a ≠ l := ne_of_none ra.1 hl
  have wl : ∀ {H' : Hp} {o : HO}, SX p H H' → SX p H (upd H' l o) := fun x b u e n => by rw [upd_ne (ne_of_none e hl)]; exact x b u e n
  have pl : ∀ {H' : Hp} {o : HO}, PotAt H' p → PotAt (upd H' l o) p := fun h => by
    obtain ⟨a', b', h1, h2, h3, h4⟩ := h
    exact ⟨a', b', h1, h2, h3, by rw [upd_ne (Ne.symm nlp)]; exact h4⟩
  have al : ∀ {H' : Hp} {xs ys : List V}, RowsAt H' a us rows → H' l = some (.lst xs) → RowsAt (upd H' l (.lst ys)) a us rows := fun h hx => ⟨by rw [upd_ne hal]; exact h.1, Paired.imp' (fun _ _ z => tat_upd z hx) h.2.1, h.2.2⟩
  have ra3 := ra2.sx p2 x3
  clear rl ra1 ra2 x2 x3 x13 p2 p1 s1
  let PR : Nat → L2.St → Hp → Prop := fun e σ' H' => ∃ (us' : List Addr) (rows' : List Rw), σ' = [some (.ref p), some (.ref a), some (.int way), some (.ref l), some (.int (i : Nat)), some (.int (j : Nat))] ∧ SX p H H' ∧ PotAt H' p ∧ RowsAt H' a us rows ∧ RowsAt H' l us' rows' ∧ rows.length ≤ us'.length ∧ us'.length ≤ rows.length + e
  -- two exchanged
  try dsimp only
  refine seq_via (PR 0) ?_ (fun key => ?_)
  rotate_left
  · refine ⟨_, rfl, rfl, _, rfl, ?_⟩
    refine ite2 (fun _ => ?_) (fun _ => key _ _ ⟨us, rows, rfl, x03, p3, ra3, rl3, by omega, by omega⟩)
    refine ⟨_, rfl, _, rfl, a, _, (j : Int), .ref us[j], rfl, rfl, SqL.of ra3.1, atj, _, rfl, _, rfl, a, _, (i : Int), .ref us[i], rfl, rfl, SqL.of ra3.1, ati, by show 2 ≤ sizeLine; decide, fun t ht => ?_⟩
    have s4 := same_new ht (.tup [.ref us[j], .ref us[i]])
    have rl4 := rl3.same s4
    have ra4 := ra3.same s4
    refine ⟨t, _, rfl, SqT.of upd_same, rfl, _, _, rfl, _, rfl, _, rfl, l, _, (i : Int), i, rfl, rfl, rl4.1, ixN_nat (by rw [List.length_map]; exact hiu), ?_⟩
    have rl5 := rl4.set (taj ra4) okj i
    have ra5 : RowsAt _ a us rows := al (ys := (us.map V.ref).set i (.ref us[j])) ra4 rl4.1
    refine ⟨_, _, rfl, _, rfl, _, rfl, l, _, (j : Int), j, rfl, rfl, upd_same, ixN_nat (by rw [List.length_set, List.length_map]; exact hju), rfl, ?_⟩
    have rl6 := rl5.set (tai ra5) oki j
    rw [List.map_set] at rl6
    have ra6 := al (ys := ((us.map V.ref).set i (.ref us[j])).set j (.ref us[i])) ra5 upd_same
    exact key _ _ ⟨_, _, rfl, wl (wl (x03.same s4)), pl (pl (p3.same s4)), ra6, rl6, by rw [List.length_set, List.length_set]; omega, by rw [List.length_set, List.length_set]; omega⟩
  rintro σ4 H4 ⟨us4, rows4, rfl, x4, p4, ra4, rl4, l4, m4⟩
  -- one put in
  try dsimp only
  refine seq_via (PR 1) ?_ (fun key => ?_)
  rotate_left
  · refine ⟨_, rfl, rfl, _, rfl, ?_⟩
    refine ite2 (fun _ => ?_) (fun _ => key _ _ ⟨us4, rows4, rfl, x4, p4, ra4, rl4, l4, by omega⟩)
    refine ⟨_, rfl, .inl ⟨rfl, _, SqL.of rl4.1⟩, _, rfl, _, rfl, _, rfl, a, _, (i : Int), .ref us[i], rfl, rfl, SqL.of ra4.1, ati, l, _, j, .ref us[i], rfl, rfl, rl4.1, (by rw [List.length_map]; omega), (by rw [List.length_map]; omega), ?_⟩
    exact key _ _ ⟨_, _, rfl, wl x4, pl p4, al ra4 rl4.1, rl4.ins (tai ra4) oki j, by rw [List.length_append, List.length_cons, List.length_take, List.length_drop]; omega, by rw [List.length_append, List.length_cons, List.length_take, List.length_drop]; omega⟩
  clear x4 p4 ra4 rl4 l4 m4
  rintro σ5 H5 ⟨us5, rows5, rfl, x5, p5, ra5, rl5, l5, m5⟩
  -- one named as another
  try dsimp only
  refine seq_via (PR 1) ?_ (fun key => ?_)
  rotate_left
  · refine ⟨_, rfl, rfl, _, rfl, ?_⟩
    refine ite2 (fun _ => ?_) (fun _ => key _ _ ⟨us5, rows5, rfl, x5, p5, ra5, rl5, l5, m5⟩)
    refine ⟨_, rfl, _, rfl, a, _, (i : Int), .ref us[i], rfl, rfl, SqL.of ra5.1, ati, us[i], _, 0, .str (kw ri.k), rfl, rfl, SqT.of (tai ra5), tat0 oki.1, _, rfl, _, rfl, a, _, (j : Int), .ref us[j], rfl, rfl, SqL.of ra5.1, atj, us[j], _, 1, .str rj.z, rfl, rfl, SqT.of (taj ra5), tat1, by show 2 ≤ sizeLine; decide, fun t ht => ?_⟩
    have s6 := same_new ht (.tup [.str (kw ri.k), .str rj.z])
    have g6 : upd H5 t (.tup [.str (kw ri.k), .str rj.z]) t = some (.tup [.str (kw ri.k), .str rj.z]) := upd_same
    have ra6 := ra5.same s6
    have rl6 := rl5.same s6
    have x6 := x5.same s6
    have p6 := p5.same s6
    generalize upd H5 t (.tup [.str (kw ri.k), .str rj.z]) = H6 at s6 g6 ra6 rl6 x6 p6 ⊢
    have c2 := cut2 (k := ri.k) (x := .str ri.z) (b := ri.b) oki.1
    refine ⟨_, rfl, _, rfl, a, _, (i : Int), .ref us[i], rfl, rfl, SqL.of ra6.1, ati, _, rfl, us[i], _, rfl, SqT.of (tai ra6), c2.2, fun t2 ht2 => ?_⟩
    rw [show cutV (rv ri) (some 2) none = tl ri.k ri.b from c2.1]
    have s7 := same_new ht2 (.tup (tl ri.k ri.b))
    have g7 : upd H6 t2 (.tup (tl ri.k ri.b)) t2 = some (.tup (tl ri.k ri.b)) := upd_same
    have ra7 := ra6.same s7
    have rl7 := rl6.same s7
    have x7 := x6.same s7
    have p7 := p6.same s7
    have g67 := s7 _ _ g6
    generalize upd H6 t2 (.tup (tl ri.k ri.b)) = H7 at s7 g7 ra7 rl7 x7 p7 g67 ⊢
    have okn : Rw.ok ⟨ri.k, rj.z, ri.b⟩ := ⟨oki.1, okj.2⟩
    refine ⟨t, t2, _, _, rfl, rfl, SqT.of g67, SqT.of g7, (fun h => by cases h), ?_, fun en => ?_, fun en v hv => ?_⟩
    · have : (tl ri.k ri.b).length ≤ 1 := by unfold tl; split <;> simp
      exact le1000 (by show 2 + _ ≤ 1000; omega)
    · have tv : TAt H7 t ⟨ri.k, rj.z, ri.b⟩ := by
        show H7 t = some (.tup (rowV ri.k (.str rj.z) ri.b))
        rw [g67]
        rcases lt5 oki.1 with e | e | e | e | e <;> rw [e] at en ⊢ <;> first | rfl | exact absurd en (by intro h; cases h)
      refine ⟨_, rfl, _, rfl, l, _, (i : Int), i, rfl, rfl, rl7.1, ixN_nat (by rw [List.length_map]; omega), ?_⟩
      exact key _ _ ⟨_, _, rfl, wl x7, pl p7, al ra7 rl7.1, rl7.set tv okn i, by rw [List.length_set]; omega, by rw [List.length_set]; omega⟩
    · have s8 := same_new hv (.tup ([.str (kw ri.k), .str rj.z] ++ tl ri.k ri.b))
      have tv : TAt (upd H7 v (.tup ([.str (kw ri.k), .str rj.z] ++ tl ri.k ri.b))) v ⟨ri.k, rj.z, ri.b⟩ := by
        show upd H7 v _ v = some (.tup (rowV ri.k (.str rj.z) ri.b))
        rw [upd_same]
        rcases lt5 oki.1 with e | e | e | e | e <;> rw [e] at en ⊢ <;> first | rfl | exact absurd rfl en
      have rl8 := rl7.same s8
      refine ⟨_, rfl, _, rfl, l, _, (i : Int), i, rfl, rfl, rl8.1, ixN_nat (by rw [List.length_map]; omega), ?_⟩
      exact key _ _ ⟨_, _, rfl, wl (x7.same s8), pl (p7.same s8), al (ra7.same s8) rl8.1, rl8.set tv okn i, by rw [List.length_set]; omega, by rw [List.length_set]; omega⟩
  clear x5 p5 ra5 rl5 l5 m5
  rintro σ6 H6 ⟨us6, rows6, rfl, x6, p6, ra6, rl6, l6, m6⟩
  -- one of another sort
  try dsimp only
  refine seq_via (PR 1) ?_ (fun key => ?_)
  rotate_left
  · refine ⟨_, rfl, rfl, _, rfl, ?_⟩
    refine ite2 (fun _ => ?_) (fun _ => key _ _ ⟨us6, rows6, rfl, x6, p6, ra6, rl6, l6, m6⟩)
    refine ⟨_, rfl, _, rfl, _, rfl, a, _, (i : Int), .ref us[i], rfl, rfl, SqL.of ra6.1, ati, p, us[i], ri, rfl, p6, tai ra6, oki, fun v r' H7 rok' x7 p7 tv => ?_⟩
    have rl7 := rl6.sx p6 x7
    refine ⟨_, rfl, _, rfl, l, _, (i : Int), i, rfl, rfl, rl7.1, ixN_nat (by rw [List.length_map]; omega), ?_⟩
    exact key _ _ ⟨_, _, rfl, wl (x6.trans x7), pl p7, al (ra6.sx p6 x7) rl7.1, rl7.set tv rok' i, by rw [List.length_set]; omega, by rw [List.length_set]; omega⟩
  clear x6 p6 ra6 rl6 l6 m6
  rintro σ7 H7 ⟨us7, rows7, rfl, x7, p7, ra7, rl7, l7, m7⟩
  exact ⟨_, rfl, q l us7 rows7 _ x7 p7 hl rl7 (by rw [← rl7.2.1.length]; exact m7)⟩
end
end K16

set_option Elab.async false
set_option linter.all false
set_option maxRecDepth 100000
set_option maxHeartbeats 4000000
namespace K16
open PySem L2 PyProof.Rows
/-- a text of small signs, of n at most -/
def OkL (n : Nat) (z : Str) : Prop := z.length ≤ n ∧ ∀ c ∈ z.cps.toList, c < 128
theorem OkL.up {n m : Nat} {z : Str} (h : OkL n z) (l : n ≤ m) : OkL m z := ⟨Nat.le_trans h.1 l, h.2⟩
theorem OkL.of_name {n : Nat} {z : Str} (h : nameB z = true) (l : 8 ≤ n) : OkL n z := by
  obtain ⟨_, h2, _⟩ := nameB_iff.mp h
  exact ⟨by omega, (nameB_ok h).2⟩
theorem OkL.okS {n : Nat} {z : Str} (h : OkL n z) (l : n ≤ 1000) : OkS z := ⟨Nat.le_trans h.1 l, h.2⟩
def signs : Str := " !\"#$&'()*+,-./0123456789:;<=>?@ABCDEFGHIJKLMNOPQRSTUVWXYZ[\\]^_`{|}~\t\n"
theorem signs_len : signs.length = 70 := by decide +kernel
theorem signs_all : ∀ k : Nat, k < 70 → ∃ c, signs.cps.toList[k]? = some c ∧ c < 128 := by
  have h : ∀ k : Nat, k < 70 → (match signs.cps.toList[k]? with | some c => decide (c < 128) | none => false) = true := by decide +kernel
  intro k hk
  have := h k hk
  cases e : signs.cps.toList[k]? with
  | none => rw [e] at this; cases this
  | some c =>
    rw [e] at this
    exact ⟨c, rfl, of_decide_eq_true this⟩
theorem sign_put {n : Nat} {z : Str} {c : Nat} {lo hi : Option Int} (h : OkL n z) (hn : n ≤ 400) (hc : c < 128) : OkL (2 * n + 1) (Txt.slice z none lo ++ (⟨#[c]⟩ : Str) ++ Txt.slice z hi none) := by
  have o : OkS z := h.okS (by omega)
  have o1 := o.slice none lo
  have o2 := o.slice hi none
  have h1 := Txt.slice_le z none lo
  have h2 := Txt.slice_le z hi none
  have hz := h.1
  have dS : OkS ⟨#[c]⟩ := ⟨by show 1 ≤ 1000; decide, fun c' hc' => by
    have e : c' = c := by simpa using hc'
    rw [e]; exact hc⟩
  have l1 : (⟨#[c]⟩ : Str).length = 1 := rfl
  have o3 := (o1.app dS (by omega)).app o2 (by rw [app_len]; omega)
  exact ⟨by rw [app_len, app_len]; omega, o3.2⟩
def spBStep : Sp := fun vs H Q _ => ∃ (p a b : Addr) (way : Int) (us : List Addr) (rows : List Rw) (bars : List Str) (n : Nat), vs = [.ref p, .ref a, .ref b, .int way] ∧ PotAt H p ∧ RowsAt H a us rows ∧ rows.length ≤ 100 ∧ H b = some (.lst (bars.map V.str)) ∧ 0 < bars.length ∧ bars.length ≤ 100 ∧ 8 ≤ n ∧ n ≤ 400 ∧ (∀ z ∈ bars, OkL n z) ∧
  ∀ (l : Addr) (bars' : List Str) (H' : Hp), SX p H H' → PotAt H' p → H l = none → H' l = some (.lst (bars'.map V.str)) → bars'.length = bars.length → (∀ z ∈ bars', OkL (2 * n + 1) z) → Q (.ref l) H'
section
variable {P : Program} {w : World} {K : PySem.W.Frag} {mg : Str → Option Value} {base : Heap} {f : Addr} {fd : FuncData}
theorem scBStep : FnScope ["_law_pot_here", "_law_rows", "_law_bars", "_law_way", "_law_found", "_law_signs", "_law_at", "_law_other", "_law_spot"] ["_law_pot_here", "_law_rows", "_law_bars", "_law_way"] (defScope sBStep) := ⟨rfl, rfl, rfl, by decide +kernel, rfl, by decide +kernel, by decide +kernel⟩
theorem ok_bstep {g1 : Addr} {e1 : FuncData} (F : Fun K "_law_bar_step" "_law_bar_step" sBStep f fd) (T : Txt1 K mg) (U : TxtP mg) (cT : Callee P w K mg base 1 "_law_take" g1 e1 ["_law_pot_here", "_law_many"] spTake) : FnOk P w K mg base CX0 2 f fd ["_law_pot_here", "_law_rows", "_law_bars", "_law_way"] spBStep := by
  refine F.ok scBStep (fun vs H Q E h => ?_) (fun cdv A outer s H vs Q E hr h => ?_)
  · obtain ⟨p, a, b, way, us, rows, bars, n, rfl, _⟩ := h
    rfl
  obtain ⟨p, a, b, way, us, rows, bars, n, rfl, hp, ra, lr, hb, b0, b1, n8, n4, ob, q⟩ := h
  have hU := hr.units
  have hU0 := hr.units0
  refine ⟨_, pss_cons (ps_set (i := 4) scBStep.nd rfl (Or.inl rfl) (cTy call_list_of U.lst PyProof.Rows.boot_list (ac (pv 2) pa_nil)))
    (pss_cons (ps_set (i := 5) scBStep.nd rfl (Or.inl rfl) pe_str)
    (pss_cons (ps_par (i := 6) (j := 7) rfl scBStep.nd rfl rfl (by decide) rfl rfl (ac (cF cT hr (ac (pv 0) (ac (cB call_len_seq U.len PySem.boot_len (ac (pv 2) pa_nil)) pa_nil))) (ac (cF cT hr (ac (pv 0) (ac (cB call_len_seq U.len PySem.boot_len (ac (pv 2) pa_nil)) pa_nil))) pa_nil)) rfl)
    (pss_cons (ps_if (PW.pt (pw_and (pt_cmpR op_eq (pv 3) pe_int (nomark _)) (pw_and1 (pt_cmpR (OpR.or (op_neS hU) (op_neLen hU0)) (pv 1) (pe_lst pa_nil) (nomark _))))) (pss_one (ps_asg (pe_ix ix_tup (pe_ix ix_list (pv 1) (cF cT hr (ac (pv 0) (ac (cB call_len_seq U.len PySem.boot_len (ac (pv 1) pa_nil)) pa_nil))) (fun _ _ => rfl)) pe_int (fun _ _ => rfl)) (pg_sub (pv 4) (pv 6) set_list))) pss_nil)
    (pss_cons (ps_if (pt_cmpR op_eq (pv 3) pe_int (nomark _)) (pss_one (ps_asg (pe_ix ix_list (pv 2) (pv 7) (fun _ _ => rfl)) (pg_sub (pv 4) (pv 6) set_list))) pss_nil)
    (pss_cons (ps_if (PW.pt (pw_and (pt_cmpR op_eq (pv 3) pe_int (nomark _)) (pw_and (pt_val (cB call_isinst T.isi boot_isinstance (ac (pe_ix ix_list (pv 2) (pv 6) (fun _ _ => rfl)) (ac (pe_bltn (v := .ty "str") rfl T.str PyProof.Rows.boot_str rfl) pa_nil)))) (pw_and1 (pt_cmpR op_ne (pe_ix ix_list (pv 2) (pv 6) (fun _ _ => rfl)) pe_str (nomark _)))))) 
      (pss_cons (ps_set (i := 8) scBStep.nd rfl (Or.inl rfl) (pe_op op_mod (cF cT hr (ac (pv 0) (ac pe_int pa_nil))) (cB call_len_str U.len PySem.boot_len (ac (pe_ix ix_list (pv 2) (pv 6) (fun _ _ => rfl)) pa_nil))))
      (pss_one (ps_asg (pe_op op_add_str (pe_op op_add_str (pe_slice sl_str (pe_ix ix_list (pv 2) (pv 6) (fun _ _ => rfl)) po_none (po_some (pv 8))) (pe_ix ix_str (pv 5) (cF cT hr (ac (pv 0) (ac pe_int pa_nil))) (fun _ _ => rfl))) (pe_slice sl_str (pe_ix ix_list (pv 2) (pv 6) (fun _ _ => rfl)) (po_some (pe_op op_add (pv 8) pe_int)) po_none)) (pg_sub (pv 4) (pv 6) set_list)))) pss_nil)
    (pss_one (ps_ret (pv 4)))))))), ?_⟩
  refine ⟨_, rfl, b, _, rfl, .inl (SqL.of hb), fun l hl => ?_⟩
  have s1 := same_new hl (.lst (bars.map V.str))
  have hl1 : upd H l (.lst (bars.map V.str)) l = some (.lst (bars.map V.str)) := upd_same
  have nlp : l ≠ p := hp.ne hl
  have nbl : b ≠ l := ne_of_none hb hl
  have nal : a ≠ l := ne_of_none ra.1 hl
  show tSeq _ _ _ _ (upd H l (.lst (bars.map V.str)))
  generalize upd H l (.lst (bars.map V.str)) = H1 at s1 hl1 ⊢
  have p1 := hp.same s1
  have hb1 := s1 _ _ hb
  show tSeq _ _ _ _ _
  refine ⟨_, rfl, _, rfl, b, _, rfl, .inl (SqL.of hb1), p, bars.length, (by rw [List.length_map]; rfl), b0, by omega, p1, fun i H2 hi x2 p2 => ?_⟩
  have hb2 := x2 _ _ hb1 (p1.ne_strs hb1)
  refine ⟨_, rfl, _, rfl, b, _, rfl, .inl (SqL.of hb2), p, bars.length, (by rw [List.length_map]; rfl), b0, by omega, p2, fun j H3 hj x3 p3 => ?_⟩
  refine ⟨_, _, rfl, ?_⟩
  have x13 := x2.trans x3
  have hl3 := x13 _ _ hl1 nlp
  have x03 : SX p H H3 := x13.pre s1
  have ati : atI (bars.map V.str) (i : Int) = some (.str bars[i]) := atI_nat (by rw [List.getElem?_map, List.getElem?_eq_getElem hi]; rfl)
  have atj : atI (bars.map V.str) (j : Int) = some (.str bars[j]) := atI_nat (by rw [List.getElem?_map, List.getElem?_eq_getElem hj]; rfl)
  have oi := ob bars[i] (List.getElem_mem hi)
  have oj := ob bars[j] (List.getElem_mem hj)
  have wl : ∀ {H' : Hp} {o : HO}, SX p H H' → SX p H (upd H' l o) := fun x b u e n => by rw [upd_ne (ne_of_none e hl)]; exact x b u e n
  have pl : ∀ {H' : Hp} {o : HO}, PotAt H' p → PotAt (upd H' l o) p := fun h => by
    obtain ⟨a', b', h1, h2, h3, h4⟩ := h
    exact ⟨a', b', h1, h2, h3, by rw [upd_ne (Ne.symm nlp)]; exact h4⟩
  have hbx : ∀ {H' : Hp}, SX p H H' → H' b = some (.lst (bars.map V.str)) := fun x => x _ _ hb (hp.ne_strs hb)
  let PR : L2.St → Hp → Prop := fun σ' H' => ∃ (bs : List Str) (v8 : Option V), σ' = [some (.ref p), some (.ref a), some (.ref b), some (.int way), some (.ref l), some (.str signs), some (.int (i : Nat)), some (.int (j : Nat)), v8] ∧ SX p H H' ∧ PotAt H' p ∧ H' l = some (.lst (bs.map V.str)) ∧ bs.length = bars.length ∧ ∀ z ∈ bs, OkL (2 * n + 1) z
  have setok : ∀ {bs : List Str} {z : Str}, (∀ y ∈ bs, OkL (2 * n + 1) y) → OkL (2 * n + 1) z → ∀ y ∈ bs.set i z, OkL (2 * n + 1) y := fun h1 h2 y hy => by
    rcases List.mem_or_eq_of_mem_set hy with hy | hy
    · exact h1 y hy
    · rw [hy]; exact h2
  have ob' : ∀ z ∈ bars, OkL (2 * n + 1) z := fun z hz => (ob z hz).up (by omega)
  have ra3 := ra.sx hp x03
  have lu : us.length = rows.length := ra.2.1.length
  clear x2 x3 x13 p1 p2 hb1 hb2 s1 hl1
  try dsimp only
  refine seq_via PR ?_ (fun key => ?_)
  rotate_left
  · refine ⟨_, rfl, rfl, _, rfl, ?_⟩
    refine ite2 (fun _ => ?_) (fun _ => key _ _ ⟨bars, _, rfl, x03, p3, hl3, rfl, ob'⟩)
    refine ⟨_, rfl, (by show 0 ≤ sizeLine; decide), fun l4 hl4 => ?_⟩
    have s4 := same_new hl4 (.lst [])
    have x4 := x03.same s4
    have p4 := p3.same s4
    have ra4 := ra3.same s4
    have hl4' := s4 _ _ hl3
    by_cases er : rows.length = 0
    · have eu : us = [] := List.length_eq_zero_iff.mp (by omega)
      refine .inl ⟨a, l4, 0, .lst [], fun _ => True, fun _ => True, rfl, rfl, by decide, Says.lst True.intro ra4.1 (by rw [eu]; exact .nil), Says.lst True.intro upd_same .nil, _, rfl, ?_⟩
      refine iteF ?_
      exact key _ _ ⟨bars, _, rfl, x4, p4, hl4', rfl, ob'⟩
    · refine .inr ⟨a, l4, _, _, rfl, rfl, ra4.1, upd_same, (by rw [List.length_map]; show us.length ≠ 0; omega), _, rfl, ?_⟩
      refine iteT ?_
      refine ⟨_, rfl, _, rfl, _, rfl, a, _, rfl, .inl (SqL.of ra4.1), p, rows.length, (by rw [List.length_map, lu]; rfl), by omega, by omega, p4, fun k H5 hk x5 p5 => ?_⟩
      have ra5 := ra4.sx p4 x5
      have hku : k < us.length := by omega
      obtain ⟨rk, hrk, tk⟩ := paired_at ra5.2.1 (List.getElem?_eq_getElem hku)
      have okk := ra5.2.2 rk (List.mem_of_getElem? hrk)
      have hl5 := x5 _ _ hl4' nlp
      refine ⟨a, _, (k : Int), .ref us[k], rfl, rfl, SqL.of ra5.1, atI_nat (by rw [List.getElem?_map, List.getElem?_eq_getElem hku]; rfl), us[k], _, 1, .str rk.z, rfl, rfl, SqT.of tk, tat1, _, rfl, _, rfl, l, _, (i : Int), i, rfl, rfl, hl5, ixN_nat (by rw [List.length_map]; exact hi), ?_⟩
      exact key _ _ ⟨bars.set i rk.z, _, rfl, wl (x4.trans x5), pl p5, by rw [upd_same, List.map_set], by rw [List.length_set], setok ob' (OkL.of_name okk.2 (by omega))⟩
  clear x03 p3 hl3 ra3
  rintro σ4 H4 ⟨bs4, v8, rfl, x4, p4, hl4, l4, o4⟩
  try dsimp only
  refine seq_via PR ?_ (fun key => ?_)
  rotate_left
  · refine ⟨_, rfl, rfl, _, rfl, ?_⟩
    refine ite2 (fun _ => ?_) (fun _ => key _ _ ⟨bs4, _, rfl, x4, p4, hl4, l4, o4⟩)
    refine ⟨_, rfl, _, rfl, b, _, (j : Int), .str bars[j], rfl, rfl, SqL.of (hbx x4), atj, _, rfl, _, rfl, l, _, (i : Int), i, rfl, rfl, hl4, ixN_nat (by rw [List.length_map]; omega), ?_⟩
    exact key _ _ ⟨bs4.set i bars[j], _, rfl, wl x4, pl p4, by rw [upd_same, List.map_set], by rw [List.length_set]; exact l4, setok o4 (oj.up (by omega))⟩
  clear x4 p4 hl4 l4 o4
  rintro σ5 H5 ⟨bs5, v8', rfl, x5, p5, hl5, l5, o5⟩
  try dsimp only
  refine seq_via PR ?_ (fun key => ?_)
  rotate_left
  · refine ⟨_, rfl, rfl, _, rfl, ?_⟩
    refine ite2 (fun _ => ?_) (fun _ => key _ _ ⟨bs5, _, rfl, x5, p5, hl5, l5, o5⟩)
    refine ⟨_, rfl, _, rfl, b, _, (i : Int), .str bars[i], rfl, rfl, SqL.of (hbx x5), ati, _, _, _, _, rfl, .str bars[i], T.kStr, _, rfl, ?_⟩
    refine iteT ?_
    refine ⟨_, rfl, _, rfl, b, _, (i : Int), .str bars[i], rfl, rfl, SqL.of (hbx x5), ati, rfl, _, rfl, ?_⟩
    refine ite2 (fun cc => ?_) (fun _ => key _ _ ⟨bs5, _, rfl, x5, p5, hl5, l5, o5⟩)
    have zl : 0 < (bars[i]).length := by
      have ne : ¬ V.str bars[i] = V.str (Str.ofString "") := by
        intro e
        rw [decide_eq_true e] at cc
        cases cc
      cases e : (bars[i]).length with
      | zero =>
        exfalso
        apply ne
        have e2 : (bars[i]).cps = #[] := Array.eq_empty_of_size_eq_zero e
        have e3 : bars[i] = ⟨#[]⟩ := by
          cases h : bars[i]
          rw [h] at e2
          cases e2
          rfl
        rw [e3]
        rfl
      | succ k => omega
    have zle : (bars[i]).length ≤ sizeLine := le1000 (Nat.le_trans oi.1 (by omega))
    refine ⟨_, rfl, p, 8, rfl, by decide, by decide, p5, fun d H6 hd x6 p6 => ?_⟩
    have x56 := x5.trans x6
    refine ⟨_, rfl, _, rfl, b, _, (i : Int), .str bars[i], rfl, rfl, SqL.of (hbx x56), ati, bars[i], rfl, zle, _, _, rfl, rfl, (by show (0 : Int) < ((bars[i]).length : Int); omega), ?_⟩
    refine ⟨_, rfl, _, rfl, b, _, (i : Int), .str bars[i], rfl, rfl, SqL.of (hbx x56), ati, _, rfl, _, rfl, bars[i], rfl, zle, _, rfl, _, rfl, p, 70, rfl, by decide, by decide, p6, fun e H7 he x7 p7 => ?_⟩
    obtain ⟨cc', hc1, hc2⟩ := signs_all e he
    have x57 := x56.trans x7
    refine ⟨signs, _, cc', rfl, rfl, (by rw [signs_len]; decide), atI_nat hc1, _, _, rfl, rfl, ?_, ?_⟩
    · have h1 := Txt.slice_le bars[i] none (some ((d : Int) % ((bars[i]).length : Int)))
      show _ + 1 ≤ sizeLine
      exact le1000 (by have := oi.1; omega)
    refine ⟨_, rfl, _, rfl, b, _, (i : Int), .str bars[i], rfl, rfl, SqL.of (hbx x57), ati, _, rfl, _, _, rfl, rfl, _, rfl, bars[i], rfl, zle, _, _, rfl, rfl, ?_, ?_⟩
    · have h1 := Txt.slice_le bars[i] none (some ((d : Int) % ((bars[i]).length : Int)))
      have h2 := Txt.slice_le bars[i] (some ((d : Int) % ((bars[i]).length : Int) + 1)) none
      rw [app_len]
      show _ + 1 + _ ≤ sizeLine
      exact le1000 (by have := oi.1; omega)
    have hl7 := x7 _ _ (x6 _ _ hl5 nlp) nlp
    refine ⟨_, rfl, _, rfl, l, _, (i : Int), i, rfl, rfl, hl7, ixN_nat (by rw [List.length_map]; omega), ?_⟩
    exact key _ _ ⟨bs5.set i _, _, rfl, wl x57, pl p7, by rw [upd_same, List.map_set], by rw [List.length_set]; exact l5, setok o5 (sign_put oi n4 hc2)⟩
  clear x5 p5 hl5 l5 o5
  rintro σ6 H6 ⟨bs6, v8'', rfl, x6, p6, hl6, l6, o6⟩
  exact ⟨_, rfl, q l bs6 _ x6 p6 hl hl6 l6 o6⟩
end
end K16

set_option Elab.async false
set_option linter.all false
set_option maxRecDepth 100000
set_option maxHeartbeats 4000000
namespace K16
open PySem L2 PyProof.Rows
def spBes : Sp := fun vs H Q _ => ∃ (p a b : Addr) (us : List Addr) (rows : List Rw) (bars : List Str), vs = [.ref p, .ref a, .ref b] ∧ PotAt H p ∧ RowsAt H a us rows ∧ rows.length ≤ 24 ∧ H b = some (.lst (bars.map V.str)) ∧ bars.length ≤ 60 ∧ (∀ z ∈ bars, OkL 8 z) ∧
  ∀ (t a' b' : Addr) (us' : List Addr) (rows' : List Rw) (bars' : List Str) (H' : Hp), SX p H H' → PotAt H' p → H' t = some (.tup [.ref a', .ref b']) → RowsAt H' a' us' rows' → rows'.length ≤ 60 → H' b' = some (.lst (bars'.map V.str)) → bars'.length ≤ 61 → (∀ z ∈ bars', OkL 400 z) → Q (.ref t) H'
section
variable {P : Program} {w : World} {K : PySem.W.Frag} {mg : Str → Option Value} {base : Heap} {f : Addr} {fd : FuncData}
def lnn : Nat → Nat
  | 0 => 8
  | n + 1 => 2 * lnn n + 1
theorem lnn_le {i : Nat} (h : i < 2) : 8 ≤ lnn i ∧ lnn i ≤ 17 := by
  match i, h with
  | 0, _ => exact ⟨by decide, by decide⟩
  | 1, _ => exact ⟨by decide, by decide⟩
theorem ndKL : ([Str.ofString "_law_k", Str.ofString "_law_letters"] : List Str).Nodup := by decide +kernel
theorem ndNB : ([Str.ofString "_law_name", Str.ofString "_law_bars"] : List Str).Nodup := by decide +kernel
theorem scBes : FnScope ["_law_pot_here", "_law_rows", "_law_bars", "_law_turn", "_law_way", "_law_letters", "_law_some"] ["_law_pot_here", "_law_rows", "_law_bars"] (defScope sBes) := ⟨rfl, rfl, rfl, by decide +kernel, rfl, by decide +kernel, by decide +kernel⟩
theorem ok_bes {g1 g2 g3 : Addr} {e1 e2 e3 : FuncData} (F : Fun K "_law_beside" "_law_beside" sBes f fd) (U : TxtP mg) (cT : Callee P w K mg base 1 "_law_take" g1 e1 ["_law_pot_here", "_law_many"] spTake) (cR : Callee P w K mg base 3 "_law_row_step" g2 e2 ["_law_pot_here", "_law_rows", "_law_way"] spRStep) (cB' : Callee P w K mg base 2 "_law_bar_step" g3 e3 ["_law_pot_here", "_law_rows", "_law_bars", "_law_way"] spBStep) : FnOk P w K mg base CX0 4 f fd ["_law_pot_here", "_law_rows", "_law_bars"] spBes := by
  refine F.ok scBes (fun vs H Q E h => ?_) (fun cdv A outer s H vs Q E hr h => ?_)
  · obtain ⟨p, a, b, us, rows, bars, rfl, _⟩ := h
    rfl
  obtain ⟨p, a, b, us, rows, bars, rfl, hp, ra, lr, hb, lb, ob, q⟩ := h
  have hr1 : Room 1 _ := hr.mono (by decide)
  have hr2 : Room 2 _ := hr.mono (by decide)
  have hU := hr.units
  have hU0 := hr.units0
  refine ⟨_, pss_cons (ps_for PassesOwn.never rfl (pi_range1 rfl U.range (ac (pe_op op_add pe_int (cF cT hr1 (ac (pv 0) (ac pe_int pa_nil)))) pa_nil)) (pg_name (i := 3) scBes.nd rfl (Or.inl rfl))
      (pss_cons (ps_set (i := 4) scBes.nd rfl (Or.inl rfl) (cF cT hr1 (ac (pv 0) (ac pe_int pa_nil))))
      (pss_cons (ps_if (PW.pt (pw_and (pt_cmpR op_lt (pv 4) pe_int (nomark _)) (pw_and1 (pt_cmpR (OpR.or (op_neS hU) (op_neLen hU0)) (pv 1) (pe_lst pa_nil) (nomark _))))) (pss_one (ps_set (i := 1) scBes.nd rfl (Or.inl rfl) (cF cR hr (ac (pv 0) (ac (pv 1) (ac (pv 4) pa_nil)))))) pss_nil)
      (pss_cons (ps_if (PW.pt (pw_and (pt_chain op_le op_lt pe_int (pv 4) pe_int) (pw_and1 (pt_cmpR (OpR.or (op_neS hU) (op_neLen hU0)) (pv 2) (pe_lst pa_nil) (nomark _))))) (pss_one (ps_set (i := 2) scBes.nd rfl (Or.inr rfl) (cF cB' hr2 (ac (pv 0) (ac (pv 1) (ac (pv 2) (ac (pv 4) pa_nil))))))) pss_nil)
      (pss_one (ps_if (PW.pt (pw_and (pt_cmpR op_eq (pv 4) pe_int (nomark _)) (pw_and1 (pt_cmpR op_eq (cF cT hr1 (ac (pv 0) (ac pe_int pa_nil))) pe_int (nomark _)))))
        (pss_one (ps_set (i := 1) scBes.nd rfl (Or.inl rfl) (pe_op op_cat (pe_op op_rep (pe_lst (ac (pe_tup (ac pe_str (ac pe_str (ac pe_bl pa_nil)))) pa_nil)) (pe_op op_sub pe_int (cB call_len_seq U.len PySem.boot_len (ac (pv 1) pa_nil)))) (pv 1))))
        (pss_one (ps_if (pt_cmpR op_eq (pv 4) pe_int (nomark _))
          (pss_cons (ps_set (i := 5) scBes.nd rfl (Or.inr rfl) pe_str)
          (pss_cons (ps_lc (i := 6) ["_law_letters"] ["_law_k", "_law_letters"] [none, some 5] scBes.nd rfl (Or.inl rfl) rfl ⟨rfl, rfl, rfl, rfl⟩ (pi_range1 rfl U.range (ac pe_int pa_nil)) (gown_name 0) rfl rfl rfl
            (fun pins fp s H C => ⟨pg_name (i := 0) ndKL rfl (Or.inl rfl) (.inr rfl), pif_nil, pe_op op_add_str (pe_op op_add_str (pe_op op_q6 pe_str pe_int) (pe_ix (r := rIxS) ix_str (pv 1) (pe_op op_fdiv (pv 0) pe_int) (fun _ _ => rfl))) (pe_ix (r := rIxS) ix_str (pv 1) (pe_op op_mod (pv 0) pe_int) (fun _ _ => rfl))⟩))
          (pss_one (ps_set (i := 2) scBes.nd rfl (Or.inr rfl) (pe_op op_cat (pv 2) (pe_slice sl_list (pe_lc ["_law_bars"] ["_law_name", "_law_bars"] [none, some 2] rfl ⟨rfl, rfl, rfl, rfl⟩ (pi_list (pv 6)) (gown_name 0) rfl rfl rfl
            (fun pins fp s H C => ⟨pg_name (i := 0) ndNB rfl (Or.inl rfl) (.inr rfl), pif_one (pt_cmpR (r := rIn K true) op_notIn_seq (pv 0) (pv 1) (by with_unfolding_all rfl)), pv 0⟩)) po_none (po_some (pe_op op_sub pe_int (cB call_len_seq U.len PySem.boot_len (ac (pv 2) pa_nil))))))))))
          pss_nil))))))))
    (pss_one (ps_ret (pe_tup (ac (pv 1) (ac (pv 2) pa_nil))))), ?_⟩
  refine ⟨_, rfl, p, 2, rfl, by decide, by decide, hp, fun d0 H1 hd0 x1 p1 => ?_⟩
  refine ⟨_, _, rfl, rfl, ((1 + d0 : Nat) : Int), (by show [V.int ((1 : Int) + (d0 : Int))] = [V.int ((1 + d0 : Nat) : Int)]; rw [show (1 : Int) + (d0 : Int) = ((1 + d0 : Nat) : Int) by omega]), by omega, by omega, ?_⟩
  refine for_range (n := 1 + d0) (fun i σ H' => ∃ (a b : Addr) (us : List Addr) (rows : List Rw) (bars : List Str) (v3 v4 v5 v6 : Option V), σ = [some (.ref p), some (.ref a), some (.ref b), v3, v4, v5, v6] ∧ SX p H H' ∧ PotAt H' p ∧ RowsAt H' a us rows ∧ rows.length ≤ 25 + i ∧ H' b = some (.lst (bars.map V.str)) ∧ bars.length ≤ 61 ∧ ∀ z ∈ bars, OkL (lnn i) z)
    ⟨a, b, us, rows, bars, _, _, _, _, rfl, x1, p1, ra.sx hp x1, by omega, x1 _ _ hb (hp.ne_strs hb), by omega, ob⟩ ?_ ?_
  · clear ra lr hb lb ob x1 p1
    rintro i σ H1 hi ⟨a, b, us, rows, bars, v3, v4, v5, v6, rfl, x1, p1, ra, lr, hb, lb, ob⟩
    have hi2 : i < 2 := by have : i < 1 + d0 := hi; omega
    obtain ⟨n8, n17⟩ := lnn_le hi2
    refine ⟨_, rfl, p, 8, rfl, by decide, by decide, p1, fun d H2 hd x2 p2 => ?_⟩
    have x12 := x1.trans x2
    have ra2 := ra.sx p1 x2
    have hb2 := x2 _ _ hb (p1.ne_strs hb)
    -- a step of the rows
    try dsimp only
    refine seq_via (fun σ' H' => ∃ (a : Addr) (us : List Addr) (rows : List Rw), σ' = [some (.ref p), some (.ref a), some (.ref b), some (.int (0 + (i : Nat))), some (.int (d : Nat)), v5, v6] ∧ SX p H H' ∧ PotAt H' p ∧ RowsAt H' a us rows ∧ rows.length ≤ 26 + i ∧ H' b = some (.lst (bars.map V.str))) ?_ (fun key => ?_)
    rotate_left
    · refine ⟨_, rfl, _, _, rfl, rfl, _, rfl, ?_⟩
      refine ite2 (fun _ => ?_) (fun _ => key _ _ ⟨a, us, rows, rfl, x12, p2, ra2, by omega, hb2⟩)
      refine ⟨_, rfl, (by show 0 ≤ sizeLine; decide), fun l4 hl4 => ?_⟩
      have s4 := same_new hl4 (.lst [])
      have ra4 := ra2.same s4
      have lu : us.length = rows.length := ra.2.1.length
      by_cases er : rows.length = 0
      · have eu : us = [] := List.length_eq_zero_iff.mp (by omega)
        refine .inl ⟨a, l4, 0, .lst [], fun _ => True, fun _ => True, rfl, rfl, by decide, Says.lst True.intro ra4.1 (by rw [eu]; exact .nil), Says.lst True.intro upd_same .nil, _, rfl, ?_⟩
        refine iteF ?_
        exact key _ _ ⟨a, us, rows, rfl, x12.same s4, p2.same s4, ra4, by omega, s4 _ _ hb2⟩
      · refine .inr ⟨a, l4, _, _, rfl, rfl, ra4.1, upd_same, (by rw [List.length_map]; show us.length ≠ 0; omega), _, rfl, ?_⟩
        refine iteT ?_
        refine ⟨_, rfl, _, rfl, _, rfl, p, a, (d : Int), us, rows, rfl, p2.same s4, ra4, by omega, by omega, fun l us' rows' H5 x5 p5 _ r5 m5 => ?_⟩
        exact key _ _ ⟨l, us', rows', rfl, (x12.same s4).trans x5, p5, r5, by omega, x5 _ _ (s4 _ _ hb2) ((p2.same s4).ne_strs (s4 _ _ hb2))⟩
    clear ra ra2 lr x2 x12 p2 hb2 hb x1 p1
    rintro σ3 H3 ⟨a, us, rows, rfl, x3, p3, ra, lr, hb⟩
    -- a step of the bars
    try dsimp only
    refine seq_via (fun σ' H' => ∃ (b : Addr) (bars : List Str), σ' = [some (.ref p), some (.ref a), some (.ref b), some (.int (0 + (i : Nat))), some (.int (d : Nat)), v5, v6] ∧ SX p H H' ∧ PotAt H' p ∧ RowsAt H' a us rows ∧ H' b = some (.lst (bars.map V.str)) ∧ bars.length ≤ 61 ∧ ∀ z ∈ bars, OkL (lnn (i + 1)) z) ?_ (fun key => ?_)
    rotate_left
    · have ob' : ∀ z ∈ bars, OkL (lnn (i + 1)) z := fun z hz => (ob z hz).up (by show lnn i ≤ 2 * lnn i + 1; omega)
      refine ⟨_, rfl, _, _, rfl, rfl, _, rfl, ?_⟩
      refine ite2 (fun _ => ?_) (fun _ => ⟨_, rfl, iteF (key _ _ ⟨b, bars, rfl, x3, p3, ra, hb, lb, ob'⟩)⟩)
      refine ⟨_, _, rfl, rfl, _, rfl, ?_⟩
      refine ite2 (fun _ => ?_) (fun _ => key _ _ ⟨b, bars, rfl, x3, p3, ra, hb, lb, ob'⟩)
      refine ⟨_, rfl, (by show 0 ≤ sizeLine; decide), fun l4 hl4 => ?_⟩
      have s4 := same_new hl4 (.lst [])
      by_cases er : bars.length = 0
      · have eu : bars = [] := List.length_eq_zero_iff.mp er
        refine .inl ⟨b, l4, 0, .lst [], fun _ => True, fun _ => True, rfl, rfl, by decide, Says.lst True.intro (s4 _ _ hb) (by rw [eu]; exact .nil), Says.lst True.intro upd_same .nil, _, rfl, ?_⟩
        refine iteF ?_
        exact key _ _ ⟨b, bars, rfl, x3.same s4, p3.same s4, ra.same s4, s4 _ _ hb, lb, ob'⟩
      · refine .inr ⟨b, l4, _, _, rfl, rfl, s4 _ _ hb, upd_same, (by rw [List.length_map]; exact er), _, rfl, ?_⟩
        refine iteT ?_
        refine ⟨_, rfl, _, rfl, _, rfl, _, rfl, p, a, b, (d : Int), us, rows, bars, lnn i, rfl, p3.same s4, ra.same s4, by omega, s4 _ _ hb, by omega, by omega, n8, by omega, ob, fun l bars' H5 x5 p5 _ h5 e5 o5 => ?_⟩
        exact key _ _ ⟨l, bars', rfl, (x3.same s4).trans x5, p5, (ra.same s4).sx (p3.same s4) x5, h5, by omega, o5⟩
    clear ob lb hb x3 p3
    rintro σ4 H4 ⟨b, bars, rfl, x4, p4, ra4, hb, lb, ob⟩
    have lu : us.length = rows.length := ra4.2.1.length
    refine ⟨_, rfl, rfl, _, rfl, ?_⟩
    refine ite2 (fun c7 => ?_) (fun c7 => ?_)
    rotate_left
    · refine ⟨_, rfl, rfl, _, rfl, ?_⟩
      refine ite2 (fun c => absurd c c7) (fun _ => ?_)
      exact ⟨a, b, us, rows, bars, _, _, _, _, rfl, x4, p4, ra4, by omega, hb, lb, ob⟩
    refine ⟨_, rfl, p, 2, rfl, by decide, by decide, p4, fun e H5 he x5 p5 => ?_⟩
    have x45 := x4.trans x5
    have ra5 := ra4.sx p4 x5
    have hb5 := x5 _ _ hb (p4.ne_strs hb)
    refine ⟨rfl, _, rfl, ?_⟩
    refine ite2 (fun _ => ?_) (fun _ => ?_)
    · refine ⟨by show 3 ≤ sizeLine; decide, fun t ht => ?_⟩
      have s6 := same_new ht (.tup [.str "seat", .str "s", .bl false])
      have tt : TAt (upd H5 t (.tup [.str "seat", .str "s", .bl false])) t ⟨0, Str.ofString "s", false⟩ := upd_same
      generalize upd H5 t (.tup [.str "seat", .str "s", .bl false]) = H6 at s6 tt ⊢
      refine ⟨by show 1 ≤ sizeLine; decide, fun l hl => ?_⟩
      have s7 := same_new hl (.lst [.ref t])
      have g7 : upd H6 l (.lst [.ref t]) l = some (.lst [.ref t]) := upd_same
      generalize upd H6 l (.lst [.ref t]) = H7 at s7 g7 ⊢
      have s57 := s6.trans s7
      have ra7 := ra5.same s57
      refine ⟨_, rfl, a, _, rfl, .inl (SqL.of ra7.1), _, _, rfl, rfl, l, (25 : Int) - ((us.map V.ref).length : Int), [.ref t], rfl, rfl, g7, ?_, ?_, ?_, fun c hc => ?_⟩
      · rw [List.length_map]
        exact Int.le_trans (by decide : -(2 ^ 63 : Int) ≤ -1000) (by omega)
      · rw [List.length_map]
        exact Int.lt_of_le_of_lt (by omega : _ ≤ (1000 : Int)) (by decide)
      · rw [List.length_map]
        exact le1000 (by show 1 * _ ≤ 1000; omega)
      rw [List.length_map]
      have er : (List.replicate ((25 : Int) - (us.length : Int)).toNat [V.ref t]).flatten = (List.replicate ((25 : Int) - (us.length : Int)).toNat t).map V.ref := by
        rw [List.map_replicate]
        generalize ((25 : Int) - (us.length : Int)).toNat = n
        induction n with
        | zero => rfl
        | succ n ih => rw [List.replicate_succ, List.replicate_succ, List.flatten_cons, ih]; rfl
      rw [er]
      have s8 := same_new hc (.lst ((List.replicate ((25 : Int) - (us.length : Int)).toNat t).map V.ref))
      have g8 : upd H7 c (.lst ((List.replicate ((25 : Int) - (us.length : Int)).toNat t).map V.ref)) c = some (.lst ((List.replicate ((25 : Int) - (us.length : Int)).toNat t).map V.ref)) := upd_same
      generalize upd H7 c (.lst ((List.replicate ((25 : Int) - (us.length : Int)).toNat t).map V.ref)) = H8 at s8 g8 ⊢
      refine ⟨_, rfl, c, a, _, _, rfl, rfl, g8, s8 _ _ ra7.1, le1000 (by rw [List.length_map, List.length_map, List.length_replicate]; omega), fun c2 hc2 => ?_⟩
      rw [← List.map_append]
      have s9 := same_new hc2 (.lst ((List.replicate ((25 : Int) - (us.length : Int)).toNat t ++ us).map V.ref))
      have s59 := s57.trans (s8.trans s9)
      have tt9 := TAt.same tt (s7.trans (s8.trans s9))
      have prp : ∀ n : Nat, Paired (TAt (upd H8 c2 (.lst ((List.replicate ((25 : Int) - (us.length : Int)).toNat t ++ us).map V.ref)))) (List.replicate n t) (List.replicate n ⟨0, Str.ofString "s", false⟩) := fun n => by
        induction n with
        | zero => exact .nil
        | succ n ih => exact .cons tt9 ih
      refine ⟨c2, b, _, List.replicate ((25 : Int) - (us.length : Int)).toNat ⟨0, Str.ofString "s", false⟩ ++ rows, bars, _, _, _, _, rfl, x45.same s59, p5.same s59, ⟨upd_same, paired_app (prp _) (ra5.same s59).2.1, fun r hr => ?_⟩, ?_, s59 _ _ hb5, lb, ob⟩
      · rcases List.mem_append.mp hr with hr | hr
        · rw [(List.mem_replicate.mp hr).2]
          exact ⟨by show 0 < 5; decide, by decide +kernel⟩
        · exact ra5.2.2 r hr
      · rw [List.length_append, List.length_replicate]
        omega
    · refine ⟨_, rfl, rfl, _, rfl, ?_⟩
      refine ite2 (fun _ => ?_) (fun _ => ⟨a, b, us, rows, bars, _, _, _, _, rfl, x45, p5, ra5, by omega, hb5, lb, ob⟩)
      show tSeq _ _ _ _ _
      refine ⟨130, rfl, by decide, by decide, fun D hD => ?_⟩
      refine lc_range (n := 130) (fun k ys H' => ∃ zs : List Str, ys = zs.map V.str ∧ zs.length = k ∧ (∀ z ∈ zs, OkL 8 z) ∧ Same H5 H' ∧ H' D = some (.lst ys)) ⟨[], rfl, rfl, (fun z hz => by cases hz), same_new hD _, upd_same⟩ ?_ ?_
      · rintro k ys H' hlt ⟨zs, rfl, lz, oz, sH, hDy⟩
        refine ⟨fun _ => ?_, fun e => Bool.noConfusion e⟩
        have e1 : ((0 : Int) + (k : Nat)) / 26 = ((k / 26 : Nat) : Int) := by omega
        have e2 : ((0 : Int) + (k : Nat)) % 26 = ((k % 26 : Nat) : Int) := by omega
        refine ⟨rfl, rfl, _, rfl, _, rfl, _, _, rfl, rfl, ⟨by decide, by decide⟩, letters, _, 97 + k / 26, rfl, rfl, (by rw [letters_len]; decide), ?_, _, _, rfl, rfl, (by show 6 + 1 ≤ sizeLine; decide), _, rfl, _, rfl, _, _, rfl, rfl, (by show (0 : Int) < 26; decide), letters, _, 97 + k % 26, rfl, rfl, (by rw [letters_len]; decide), ?_, _, _, rfl, rfl, ?_, ?_⟩
        · show atI letters.cps.toList (((0 : Int) + (k : Nat)) / 26) = _
          rw [e1]
          exact atI_nat (letters_at _ (by omega))
        · show atI letters.cps.toList (((0 : Int) + (k : Nat)) % 26) = _
          rw [e2]
          exact atI_nat (letters_at _ (by omega))
        · rw [app_len]
          show 6 + 1 + 1 ≤ sizeLine
          decide
        · refine lcN.mk hlt (le1000 (by decide)) hDy (by rw [List.length_map]; omega) ⟨zs ++ [_], by rw [List.map_append]; rfl, by rw [List.length_append, lz]; rfl, fun z hz => ?_, fun b' u e' => ?_, upd_same⟩
          · rcases List.mem_append.mp hz with hz | hz
            · exact oz z hz
            · rw [List.mem_singleton.mp hz]
              refine ⟨by rw [app_len, app_len]; show 6 + 1 + 1 ≤ 8; decide, fun c hc => ?_⟩
              rw [app_cps, app_cps] at hc
              rcases List.mem_append.mp hc with hc | hc
              · rcases List.mem_append.mp hc with hc | hc
                · have : ∀ c ∈ (Str.ofString "qqqqqq").cps.toList, c < 128 := by decide +kernel
                  exact this c hc
                · have : c = 97 + k / 26 := by simpa using hc
                  omega
              · have : c = 97 + k % 26 := by simpa using hc
                omega
          · rw [upd_ne (ne_of_none e' hD)]
            exact sH _ _ e'
      rintro ys H6 ⟨zs, rfl, lz, oz, s6, hD6⟩
      have hb6 := s6 _ _ hb5
      refine ⟨_, rfl, _, rfl, D, rfl, ⟨_, SqL.of hD6⟩, fun D2 hD2 => ?_⟩
      refine lc_sel (K := K) (xs := zs.map V.str) zs (fun z => !decide (z ∈ bars)) V.str hD2 (SqL.of hD6) (by rw [List.length_map]) (by rw [List.length_map]; omega) ?_ fun H7 s7 eD2 => ?_
      · intro k x y H' N S hx hy sH qy qn
        have exy : x = .str y := by rw [List.getElem?_map, hy] at hx; exact (Option.some.inj hx).symm
        subst exy
        refine ⟨_, rfl, _, rfl, b, _, rfl, .inl (SqL.of (sH _ _ hb6)), rfl, flat_strs, _, rfl, ?_⟩
        rw [show (if true = true then !inV (V.str y) (bars.map V.str) else inV (V.str y) (bars.map V.str)) = !decide (y ∈ bars) from by rw [if_pos rfl, inV_strs]]
        exact ⟨fun e => ⟨_, rfl, qy _ (Same.refl _) e⟩, fun e => qn _ (Same.refl _) e⟩
      have hb7 := s7 _ _ hb6
      refine ⟨_, rfl, b, _, rfl, .inl (SqL.of hb7), _, _, rfl, rfl, _, rfl, D2, _, rfl, SqL.of eD2, fun l hl => ?_⟩
      rw [show cutV ((zs.filter fun z => !decide (z ∈ bars)).map V.str) none (some ((61 : Int) - ((bars.map V.str).length : Nat))) = ((zs.filter fun z => !decide (z ∈ bars)).take (61 - bars.length)).map V.str from by
        rw [List.length_map, show (61 : Int) - (bars.length : Nat) = ((61 - bars.length : Nat) : Int) by omega, cut_take, List.map_take]]
      have s8 := same_new hl (.lst (((zs.filter fun z => !decide (z ∈ bars)).take (61 - bars.length)).map V.str))
      have g8 : upd H7 l (.lst (((zs.filter fun z => !decide (z ∈ bars)).take (61 - bars.length)).map V.str)) l = some (.lst (((zs.filter fun z => !decide (z ∈ bars)).take (61 - bars.length)).map V.str)) := upd_same
      generalize upd H7 l (.lst (((zs.filter fun z => !decide (z ∈ bars)).take (61 - bars.length)).map V.str)) = H8 at s8 g8 ⊢
      have lt : ((zs.filter fun z => !decide (z ∈ bars)).take (61 - bars.length)).length ≤ 61 - bars.length := by rw [List.length_take]; omega
      refine ⟨b, l, _, _, rfl, rfl, s8 _ _ hb7, g8, le1000 (by rw [List.length_map, List.length_map]; omega), fun c hc => ?_⟩
      rw [← List.map_append]
      have s9 := same_new hc (.lst ((bars ++ (zs.filter fun z => !decide (z ∈ bars)).take (61 - bars.length)).map V.str))
      have s59 := s6.trans (s7.trans (s8.trans s9))
      refine ⟨a, c, us, rows, _, _, _, _, _, rfl, x45.same s59, p5.same s59, ra5.same s59, by omega, upd_same, by rw [List.length_append]; omega, fun z hz => ?_⟩
      rcases List.mem_append.mp hz with hz | hz
      · exact ob z hz
      · exact (oz z (List.mem_filter.mp (List.mem_of_mem_take hz)).1).up (by show 8 ≤ 2 * lnn i + 1; omega)
  · rintro σ H' ⟨a, b, us, rows, bars, v3, v4, v5, v6, rfl, xH, pH, ra, lr, hb, lb, ob⟩
    refine ⟨_, rfl, _, rfl, by show 2 ≤ sizeLine; decide, fun t ht => ?_⟩
    have s8 := same_new ht (.tup [.ref a, .ref b])
    refine q t a b us rows bars _ (xH.same s8) (pH.same s8) upd_same (ra.same s8) (by omega) (s8 _ _ hb) lb (fun z hz => (ob z hz).up ?_)
    have hd2 : 1 + d0 ≤ 2 := by omega
    have : ∀ k : Nat, k ≤ 2 → lnn k ≤ 400 := fun k hk => by
      match k, hk with
      | 0, _ => decide
      | 1, _ => decide
      | 2, _ => decide
    exact this _ hd2
end
end K16

set_option Elab.async false
set_option linter.all false
set_option maxRecDepth 100000
set_option maxHeartbeats 4000000
namespace K16
open PySem L2 PyProof.Rows
section
variable {P : Program} {w : World} {K : PySem.W.Frag} {mg : Str → Option Value} {base : Heap} {f : Addr} {fd : FuncData}
theorem dup_none : ∀ (zs ss : List Str), (ss ++ zs).Nodup → dupF ss zs = none
  | [], _, _ => rfl
  | z :: zs, ss, h => by
    have h1 : z ∉ ss := fun hm => (List.nodup_append.mp h).2.2 z hm z List.mem_cons_self rfl
    show (if z ∈ ss then some z else dupF (ss ++ [z]) zs) = none
    rw [if_neg h1]
    exact dup_none zs (ss ++ [z]) (by rw [List.append_assoc]; exact h)
theorem txs_strs : ∀ zs : List Str, txs (zs.map V.str) = zs
  | [] => rfl
  | z :: zs => by
    show z :: txs (zs.map V.str) = _
    rw [txs_strs zs]
theorem due_right {rows : List Rw} {bars : List Str} (lr : rows.length ≤ 24) (lb : bars.length ≤ 60) (ord : ordOk 0 rows = true) (nb : ∀ z ∈ bars, nameB z = true) (nd : (nms rows ++ bars).Nodup) : dueZ rows (bars.map V.str) = .done := by
  refine due_done (by rw [List.length_map]; omega) (misp_of_ord rows 0 0 ord) (List.all_eq_true.mpr fun x hx => ?_) (by rw [txs_strs]; exact dup_none _ [] nd)
  obtain ⟨z, hz, rfl⟩ := List.mem_map.mp hx
  exact nb z hz
theorem scLaw : FnScope ["_law_script", "_law_k", "_law_pot_here", "_law_rows", "_law_bars", "_law_others", "_law_shut", "_law_found"] ["_law_script"] (defScope sLaw) := ⟨rfl, rfl, rfl, by decide +kernel, rfl, by decide +kernel, by decide +kernel⟩
theorem ok_law {f1 f2 f3 f4 f5 : Addr} {e1 e2 e3 e4 e5 : FuncData} (F : Fun K "law" "law" sLaw f fd) (T : Txt1 K mg) (U : TxtP mg) (cP : Callee P w K mg base 1 "_law_pot" f1 e1 ["_law_script", "_law_k"] (spPot K)) (cR : Callee P w K mg base 4 "_law_right_form" f2 e2 ["_law_pot_here"] spRForm) (cT : Callee P w K mg base 7 "_law_told" f3 e3 ["_law_rows", "_law_bars"] spLTd) (cB' : Callee P w K mg base 4 "_law_beside" f4 e4 ["_law_pot_here", "_law_rows", "_law_bars"] spBes) (cU : Callee P w K mg base 2 "_law_due" f5 e5 ["_law_rows", "_law_bars"] (spDue K)) : FnOk P w K mg base CX0 8 f fd ["_law_script"] (spLaw K) := by
  refine F.ok scLaw (fun vs H Q E h => ?_) (fun cdv A outer s H vs Q E hr h => ?_)
  · obtain ⟨a, ns, rfl, _⟩ := h
    rfl
  obtain ⟨sa, ns, rfl, hS, h63, q⟩ := h
  have hr1 : Room 1 _ := hr.mono (by decide)
  have hr2 : Room 2 _ := hr.mono (by decide)
  have hr4 : Room 4 _ := hr.mono (by decide)
  have hU := hr.units
  refine ⟨_, pss_cons (ps_for PassesOwn.never rfl (pi_range1 rfl U.range (ac (cB (call_max2 rfl) U.max boot_max (ac pe_int (ac (cB (call_min2 rfl) U.min boot_min (ac pe_int (ac (cB call_len_seq U.len PySem.boot_len (ac (pv 0) pa_nil)) pa_nil))) pa_nil))) pa_nil)) (pg_name (i := 1) scLaw.nd rfl (Or.inl rfl))
      (pss_cons (ps_set (i := 2) scLaw.nd rfl (Or.inl rfl) (cF cP hr1 (ac (pv 0) (ac (pv 1) pa_nil))))
      (pss_cons (ps_asg (cF cR hr4 (ac (pv 2) pa_nil)) (pg_tup rfl (pgs_cons (pg_name (i := 3) scLaw.nd rfl (Or.inl rfl)) (pgs_cons (pg_name (i := 4) scLaw.nd rfl (Or.inl rfl)) pgs_nil))))
      (pss_cons (ps_if (pt_cmpR (op_neS hU) (cF cT hr (ac (pv 3) (ac (pv 4) pa_nil))) (pe_tup (ac pe_str (ac (pe_tup (ac (pv 3) (ac (pv 4) pa_nil))) pa_nil))) (nomark _)) (pss_one (ps_ret pe_bl)) pss_nil)
      (pss_cons (ps_asg (cF cB' hr4 (ac (pv 2) (ac (pv 3) (ac (pv 4) pa_nil)))) (pg_tup rfl (pgs_cons (pg_name (i := 5) scLaw.nd rfl (Or.inl rfl)) (pgs_cons (pg_name (i := 6) scLaw.nd rfl (Or.inl rfl)) pgs_nil))))
      (pss_cons (ps_set (i := 7) scLaw.nd rfl (Or.inl rfl) (cF cT hr (ac (pv 5) (ac (pv 6) pa_nil))))
      (pss_cons (ps_if (PW.pt (pw_or (pt_cmpR (op_neS hU) (pv 7) (cF cU hr2 (ac (pv 5) (ac (pv 6) pa_nil))) (nomark _)) (pw_or1 (PW.pt (pw_and (pt_cmpR op_eq (pe_ix ix_tup (pv 7) pe_int (fun _ _ => rfl)) pe_str (nomark _)) (pw_and1 (pt_val (cB call_isinst T.isi boot_isinstance (ac (pe_ix ix_tup (pv 7) pe_int (fun _ _ => rfl)) (ac (pe_bltn (v := .ty "bool") rfl T.bool PyProof.Rows.boot_bool rfl) pa_nil))))))))))
        (pss_one (ps_ret pe_bl)) pss_nil)
      (pss_one (ps_if (pt_cmpR (op_neS hU) (cF cT hr (ac (pv 3) (ac (pv 4) pa_nil))) (pe_tup (ac pe_str (ac (pe_tup (ac (pv 3) (ac (pv 4) pa_nil))) pa_nil))) (nomark _)) (pss_one (ps_ret pe_bl)) pss_nil)))))))))
    (pss_one (ps_ret pe_bl)), ?_⟩
  obtain ⟨N, hN, hN8⟩ : ∃ N : Nat, (if (if ((ns.map V.int).length : Int) < 8 then ((ns.map V.int).length : Int) else 8) > 1 then (if ((ns.map V.int).length : Int) < 8 then ((ns.map V.int).length : Int) else 8) else 1) = (N : Int) ∧ N ≤ 8 := by
    by_cases h1 : ((ns.map V.int).length : Int) < 8
    · rw [if_pos h1]
      by_cases h2 : ((ns.map V.int).length : Int) > 1
      · rw [if_pos h2]; exact ⟨(ns.map V.int).length, rfl, by omega⟩
      · rw [if_neg h2]; exact ⟨1, rfl, by omega⟩
    · rw [if_neg h1, if_pos (by decide)]; exact ⟨8, rfl, by omega⟩
  refine ⟨_, rfl, sa, _, rfl, .inl hS, _, _, rfl, _, _, rfl, (N : Int), (by rw [← hN]), by omega, by omega, ?_⟩
  refine for_range (n := N) (fun i σ H' => ∃ v1 v2 v3 v4 v5 v6 v7 : Option V, σ = [some (.ref sa), v1, v2, v3, v4, v5, v6, v7] ∧ Same H H') ⟨_, _, _, _, _, _, _, rfl, Same.refl _⟩ ?_ ?_
  · rintro i σ H1 hi ⟨v1, v2, v3, v4, v5, v6, v7, rfl, s1⟩
    refine ⟨_, rfl, _, rfl, sa, ns, i, (by rw [Int.zero_add]; rfl), s1.seq hS, fun p H2 s2 np hp => ?_⟩
    refine ⟨_, rfl, p, rfl, hp, fun t a b us rows bars H3 x3 p3 ht ha hu rok lr ord hb lb nb nd => ?_⟩
    refine ⟨t, _, rfl, SqT.of ht, rfl, _, _, rfl, _, _, rfl, rfl, ?_⟩
    have ed := due_right lr lb ord nb nd
    have allx : (bars.map V.str).all nmV = true := due_nm ed
    have okb : ∀ z ∈ bars, OkS z := fun z hz => nameB_ok (nb z hz)
    have sx2 : ∀ {H' : Hp}, SX p H2 H' → Same H1 H' := fun x b u e => x b u (s2 _ _ e) (ne_of_none e np)
    refine ⟨_, rfl, _, rfl, a, b, us, rows, bars, rfl, rok, by omega, ha, hu, hb, by omega, okb, fun t1 H4 s4 z4 => ?_⟩
    rw [ed] at z4
    refine ⟨_, rfl, _, rfl, by show 2 ≤ sizeLine; decide, fun u hu' => ?_⟩
    have s5 := same_new hu' (.tup [.ref a, .ref b])
    have g5 : upd H4 u (.tup [.ref a, .ref b]) u = some (.tup [.ref a, .ref b]) := upd_same
    generalize upd H4 u (.tup [.ref a, .ref b]) = H5 at s5 g5 ⊢
    refine ⟨by show 2 ≤ sizeLine; decide, fun t2 ht2 => ?_⟩
    have s6 := same_new ht2 (.tup [.str "done", .ref u])
    have g6 : upd H5 t2 (.tup [.str "done", .ref u]) t2 = some (.tup [.str "done", .ref u]) := upd_same
    generalize upd H5 t2 (.tup [.str "done", .ref u]) = H6 at s6 g6 ⊢
    have s36 : Same H3 H6 := s4.trans (s5.trans s6)
    refine ⟨t1, t2, 3, rzD rows (bars.map V.str) .done, fun _ => True, fun _ => True, rfl, rfl, by decide, says_rz rok (z4.same (s5.trans s6)), says_rz rok ⟨u, a, b, us, g6, s6 _ _ g5, s36 _ _ ha, tats_same s36 hu, s36 _ _ hb, allx⟩, _, rfl, ?_⟩
    refine iteF ?_
    have p6 := p3.same s36
    refine ⟨_, rfl, _, rfl, _, rfl, p, a, b, us, rows, bars, rfl, p6, ⟨s36 _ _ ha, tats_same s36 hu, rok⟩, lr, s36 _ _ hb, lb, fun z hz => OkL.of_name (nb z hz) (Nat.le_refl _), fun t3 a' b' us' rows' bars' H7 x7 p7 ht3 ra' lr' hb' lb' ob' => ?_⟩
    refine ⟨t3, _, rfl, SqT.of ht3, rfl, _, _, rfl, _, _, rfl, rfl, ?_⟩
    have ha7 := x7 _ _ (s36 _ _ ha) (p6.ne_refs (s36 _ _ ha))
    have hb7 := x7 _ _ (s36 _ _ hb) (p6.ne_strs (s36 _ _ hb))
    have hu7 := sx_tats p6 x7 (tats_same s36 hu)
    have x27 : SX p H2 H7 := (x3.same s36).trans x7
    refine ⟨_, rfl, _, rfl, a', b', us', rows', bars', rfl, ra'.2.2, by omega, ra'.1, ra'.2.1, hb', by omega, fun z hz => (ob' z hz).okS (by decide), fun t4 H8 s8 z8 => ?_⟩
    try dsimp only
    refine seq_via (fun σ' H' => ∃ v7 : Option V, σ' = [some (.ref sa), some (.int (0 + (i : Nat))), some (.ref p), some (.ref a), some (.ref b), some (.ref a'), some (.ref b'), v7] ∧ Same H8 H') ?_ (fun key => ?_)
    rotate_left
    · refine ⟨_, rfl, _, rfl, _, rfl, a', b', us', rows', bars'.map V.str, rfl, ra'.2.2, by omega, s8 _ _ ra'.1, tats_same s8 ra'.2.1, s8 _ _ hb', by rw [List.length_map]; omega, fun x hx => ?_, fun t5 H9 s9 z9 => ?_⟩
      · obtain ⟨z, hz, rfl⟩ := List.mem_map.mp hx
        exact .inl ⟨z, rfl, (ob' z hz).okS (by decide)⟩
      refine ⟨t4, t5, 3, rzD rows' (bars'.map V.str) (dueZ rows' (bars'.map V.str)), fun _ => True, fun _ => True, rfl, rfl, by decide, says_rz ra'.2.2 (z8.same s9), says_rz ra'.2.2 z9, _, rfl, ?_⟩
      refine iteF ?_
      have z9' := z8.same s9
      generalize dueZ rows' (bars'.map V.str) = zz at z9'
      cases zz with
      | many =>
        refine ⟨_, rfl, t4, _, 0, .str "many", rfl, rfl, SqT.of z9', rfl, rfl, _, rfl, ?_⟩
        refine dF (by decide +kernel) ?_
        exact key _ _ ⟨_, rfl, s9⟩
      | order k =>
        refine ⟨_, rfl, t4, _, 0, .str "order", rfl, rfl, SqT.of z9', rfl, rfl, _, rfl, ?_⟩
        refine dT rfl ?_
        refine ⟨_, rfl, t4, _, 1, .int (k : Nat), rfl, rfl, SqT.of z9', rfl, _, _, _, _, rfl, .int (k : Nat), kt_int_bool K, _, rfl, ?_⟩
        refine iteF ?_
        exact key _ _ ⟨_, rfl, s9⟩
      | name =>
        refine ⟨_, rfl, t4, _, 0, .str "name", rfl, rfl, SqT.of z9', rfl, rfl, _, rfl, ?_⟩
        refine dF (by decide +kernel) ?_
        exact key _ _ ⟨_, rfl, s9⟩
      | twice y =>
        refine ⟨_, rfl, t4, _, 0, .str "twice", rfl, rfl, SqT.of z9', rfl, rfl, _, rfl, ?_⟩
        refine dF (by decide +kernel) ?_
        exact key _ _ ⟨_, rfl, s9⟩
      | done =>
        obtain ⟨u', l1', l2', us'', h1, _⟩ := z9'
        refine ⟨_, rfl, t4, _, 0, .str "done", rfl, rfl, SqT.of h1, rfl, rfl, _, rfl, ?_⟩
        refine dF (by decide +kernel) ?_
        exact key _ _ ⟨_, rfl, s9⟩
    rintro σ9 H9 ⟨v7', rfl, s9⟩
    have s79 := s8.trans s9
    refine ⟨_, rfl, _, rfl, a, b, us, rows, bars, rfl, rok, by omega, s79 _ _ ha7, tats_same s79 hu7, s79 _ _ hb7, by omega, okb, fun t6 H10 s10 z10 => ?_⟩
    rw [ed] at z10
    refine ⟨_, rfl, _, rfl, by show 2 ≤ sizeLine; decide, fun u2 hu2 => ?_⟩
    have s11 := same_new hu2 (.tup [.ref a, .ref b])
    have g11 : upd H10 u2 (.tup [.ref a, .ref b]) u2 = some (.tup [.ref a, .ref b]) := upd_same
    generalize upd H10 u2 (.tup [.ref a, .ref b]) = H11 at s11 g11 ⊢
    refine ⟨by show 2 ≤ sizeLine; decide, fun t7 ht7 => ?_⟩
    have s12 := same_new ht7 (.tup [.str "done", .ref u2])
    have g12 : upd H11 t7 (.tup [.str "done", .ref u2]) t7 = some (.tup [.str "done", .ref u2]) := upd_same
    generalize upd H11 t7 (.tup [.str "done", .ref u2]) = H12 at s12 g12 ⊢
    have s712 : Same H7 H12 := s79.trans (s10.trans (s11.trans s12))
    refine ⟨t6, t7, 3, rzD rows (bars.map V.str) .done, fun _ => True, fun _ => True, rfl, rfl, by decide, says_rz rok (z10.same (s11.trans s12)), says_rz rok ⟨u2, a, b, us, g12, s12 _ _ g11, s712 _ _ ha7, tats_same s712 hu7, s712 _ _ hb7, allx⟩, _, rfl, ?_⟩
    refine iteF ?_
    exact ⟨_, _, _, _, _, _, _, rfl, s1.trans (sx2 (x27.same s712))⟩
  · rintro σ H' ⟨v1, v2, v3, v4, v5, v6, v7, rfl, s1⟩
    exact q _
end
end K16

set_option Elab.async false
def PySem.W.Fast.tw5144470234900121433 : Unit := ()
def PySem.W.Fast.tw18164413615340937450 : Unit := ()
def PySem.W.Fast.tw3338270946448067445 : Unit := ()
def PySem.W.Fast.tw8742555132085296822 : Unit := ()
def PySem.W.Fast.tw13792755876826840705 : Unit := ()
def PySem.W.Fast.tw29216126546719920 : Unit := ()
def PySem.W.Fast.tw2948891222526510691 : Unit := ()
def PySem.W.Fast.tw970617921139172370 : Unit := ()
def PySem.W.Fast.tw1178109695989025789 : Unit := ()
def PySem.W.Fast.tw1718606824459504255 : Unit := ()
def PySem.W.Fast.tw11882764622833884062 : Unit := ()
def PySem.W.Fast.tw6191024686878761662 : Unit := ()
def PySem.W.Fast.tw15670331570904420504 : Unit := ()
def PySem.W.Fast.tw2756753811954132184 : Unit := ()
def PySem.W.Fast.tw11400650325545291109 : Unit := ()
def PySem.W.Fast.tw2463822486235282020 : Unit := ()
def PySem.W.Fast.tw9220284682186795686 : Unit := ()
def PySem.W.Fast.tw17747201073846659473 : Unit := ()
def PySem.W.Fast.tw6588885194027069472 : Unit := ()
def PySem.W.Fast.tw7232671940537954799 : Unit := ()
def PySem.W.Fast.tw35595954134407829 : Unit := ()
set_option linter.all false
set_option maxRecDepth 100000
set_option maxHeartbeats 4000000
namespace K16
open PySem L2 PyProof.Rows
theorem own_in {K : PySem.W.Frag} {h : Heap} {mg : Str → Option Value} {x : Str} {C : Addr} {bm : List Value} {nid : String} (X : K.In h) (G : h.Ns mainGlobals mg) (e : PySem.W.nsIn K mainGlobals x = some (some (.ref C))) (q : PySem.W.excIn K C bm nid = true) : OwnCls x C bm nid mg h := by
  have b : mg x = some (.ref C) := PySem.W.mg_of X G e
  refine ⟨b, ?_⟩
  simp only [PySem.W.excIn] at q
  split at q
  case h_2 => cases q
  rename_i dd cd sl ho
  obtain ⟨nm, bs, mro, ns, qn, hd, sn, sub, ab, col, del⟩ := cd
  obtain ⟨l⟩ := sl
  dsimp only at q
  split at q
  case h_2 => cases q
  rename_i C' m k0 k1 k2 k3 n k5
  simp only [Bool.and_eq_true, beq_iff_eq, Bool.not_eq_true'] at q
  obtain ⟨⟨⟨⟨⟨rfl, rfl⟩, rfl⟩, ht⟩, hok⟩, hni⟩ := q
  exact ⟨m, ns, nm, qn, bs, hd, sn, sub, ab, col, dd, k0, k1, k2, k3, k5, _, X _ _ ho, .of_isNs (PySem.W.isNs_of_in X hok), PySem.W.nsMap_none_of_in X hok hni, PySem.W.tail_of_in X ht⟩
theorem ktab_of {w : World} {K : PySem.W.Frag} {Gr : Addr} {es : Array DictEntry} {n : Nat} {t0 t1 t2 t3 t4 : Tok} (hl : K.lookup Gr = some ⟨.type "dict", none, .dict es n, #[]⟩) (hk : PySem.W.KeysLit w.params es.toList) (h0 : PySem.W.nsIn K Gr "seat" = some (some (.int 0 t0))) (h1 : PySem.W.nsIn K Gr "both" = some (some (.int 0 t1))) (h2 : PySem.W.nsIn K Gr "tail" = some (some (.int 1 t2)))
    (h3 : PySem.W.nsIn K Gr "tag" = some (some (.int 2 t3))) (h4 : PySem.W.nsIn K Gr "bag" = some (some (.int 3 t4))) : KTab w K Gr grpV := by
  refine ⟨⟨es, n, hl, hk⟩, fun x v h => ?_⟩
  unfold grpV at h
  by_cases e0 : x = "seat"
  · subst e0; rw [List.lookup_cons_self] at h; cases h; exact ⟨_, h0, _, rfl⟩
  rw [List.lookup_cons, beq_eq_false_iff_ne.mpr e0] at h
  by_cases e1 : x = "both"
  · subst e1; rw [List.lookup_cons_self] at h; cases h; exact ⟨_, h1, _, rfl⟩
  rw [List.lookup_cons, beq_eq_false_iff_ne.mpr e1] at h
  by_cases e2 : x = "tail"
  · subst e2; rw [List.lookup_cons_self] at h; cases h; exact ⟨_, h2, _, rfl⟩
  rw [List.lookup_cons, beq_eq_false_iff_ne.mpr e2] at h
  by_cases e3 : x = "tag"
  · subst e3; rw [List.lookup_cons_self] at h; cases h; exact ⟨_, h3, _, rfl⟩
  rw [List.lookup_cons, beq_eq_false_iff_ne.mpr e3] at h
  by_cases e4 : x = "bag"
  · subst e4; rw [List.lookup_cons_self] at h; cases h; exact ⟨_, h4, _, rfl⟩
  rw [List.lookup_cons, beq_eq_false_iff_ne.mpr e4] at h
  cases h
theorem all_mk {l : PySem.W.OpenLaw} {w : World} {K : PySem.W.Frag} {h : Heap} {mg : Str → Option Value} {fa D C0 C1 C2 C3 C4 FM f1 f2 f3 f4 f5 f6 f7 f8 f9 f10 f11 f12 f13 f14 f15 f16 f17 f18 f19 f20 f21 f22 f23 f24 f25 f26 f27 f28 f29 f30 f31 f32 f33 f34 f35 f36 f37 f38 T8 T9 T11 T13 : Addr} (X : K.In h) (G : h.Ns mainGlobals mg) (hfa : mg "law" = some (.ref fa))
    {od1 an1 od2 an2 od3 an3 od4 an4 od5 an5 od6 an6 od7 an7 od8 an8 od9 an9 od10 an10 od11 an11 od12 an12 od13 an13 od14 an14 od15 an15 od16 an16 od17 an17 od18 an18 od19 an19 od20 an20 od21 an21 od22 an22 od23 an23 od24 an24 od25 an25 od26 an26 od27 an27 od28 an28 od29 an29 od30 an30 od31 an31 od32 an32 od33 an33 od34 an34 od35 an35 od36 an36 od37 an37 od38 an38 odT8 odT9 odT11 odT13 : Option Addr} {sl1 sl2 sl3 sl4 sl5 sl6 sl7 sl8 sl9 sl10 sl11 sl12 sl13 sl14 sl15 sl16 sl17 sl18 sl19 sl20 sl21 sl22 sl23 sl24 sl25 sl26 sl27 sl28 sl29 sl30 sl31 sl32 sl33 sl34 sl35 sl36 sl37 sl38 slT8 slT9 slT11 slT13 : Array (Option Value)} {oc1 kV1 dc1 pm1 cd1 ct1 oc2 kV2 dc2 pm2 cd2 ct2 oc3 kV3 dc3 pm3 cd3 ct3 oc4 kV4 dc4 pm4 cd4 ct4 oc5 kV5 dc5 pm5 cd5 ct5 oc6 kV6 dc6 pm6 cd6 ct6 oc7 kV7 dc7 pm7 cd7 ct7 oc8 kV8 dc8 pm8 cd8 ct8 oc9 kV9 dc9 pm9 cd9 ct9 oc10 kV10 dc10 pm10 cd10 ct10 oc11 kV11 dc11 pm11 cd11 ct11 oc12 kV12 dc12 pm12 cd12 ct12 oc13 kV13 dc13 pm13 cd13 ct13 oc14 kV14 dc14 pm14 cd14 ct14 oc15 kV15 dc15 pm15 cd15 ct15 oc16 kV16 dc16 pm16 cd16 ct16 oc17 kV17 dc17 pm17 cd17 ct17 oc18 kV18 dc18 pm18 cd18 ct18 oc19 kV19 dc19 pm19 cd19 ct19 oc20 kV20 dc20 pm20 cd20 ct20 oc21 kV21 dc21 pm21 cd21 ct21 oc22 kV22 dc22 pm22 cd22 ct22 oc23 kV23 dc23 pm23 cd23 ct23 oc24 kV24 dc24 pm24 cd24 ct24 oc25 kV25 dc25 pm25 cd25 ct25 oc26 kV26 dc26 pm26 cd26 ct26 oc27 kV27 dc27 pm27 cd27 ct27 oc28 kV28 dc28 pm28 cd28 ct28 oc29 kV29 dc29 pm29 cd29 ct29 oc30 kV30 dc30 pm30 cd30 ct30 oc31 kV31 dc31 pm31 cd31 ct31 oc32 kV32 dc32 pm32 cd32 ct32 oc33 kV33 dc33 pm33 cd33 ct33 oc34 kV34 dc34 pm34 cd34 ct34 oc35 kV35 dc35 pm35 cd35 ct35 oc36 kV36 dc36 pm36 cd36 ct36 oc37 kV37 dc37 pm37 cd37 ct37 oc38 kV38 dc38 pm38 cd38 ct38 ocT8 ocT9 ocT11 ocT13 : Value}
    {nT8 nT9 nT11 nT13 : Nat}
    {CE E0 E1 E2 E3 tP tB tO sg Gr : Addr} {tL tN tMP tMB ktP0 ktP1 ktB0 ktB1 ktO0 ktO1 ktO2 ksg0 ksg1 kG0 kG1 kG2 kG3 kG4 : Tok} {odtP odtB odtO odsg : Option Addr} {ntP ntB ntO nsg nG : Nat} {sltP sltB sltO slsg : Array (Option Value)} {esG : Array DictEntry}
    (aD : PySem.W.nsIn K mainGlobals "Parameter" = some (some (.ref D))) (pgD : PySem.W.plainGet K D Str.empty = true) (hdD : PySem.W.hasDictIn K D = true) (poD : PySem.W.plainOver K D = true) (saD : PySem.W.findIn K (.ref D) "__setattr__" = some (some (.builtin "object.__setattr__"))) (mkD : PySem.W.makesIn K D = true) (kcD : PySem.W.keepIn K (.ref D) = true)
    (aC0 : PySem.W.nsIn K mainGlobals "Seat" = some (some (.ref C0))) (pgC0 : PySem.W.plainGet K C0 Str.empty = true) (hdC0 : PySem.W.hasDictIn K C0 = true) (poC0 : PySem.W.plainOver K C0 = true) (saC0 : PySem.W.findIn K (.ref C0) "__setattr__" = some (some (.builtin "object.__setattr__"))) (mkC0 : PySem.W.makesIn K C0 = true) (kcC0 : PySem.W.keepIn K (.ref C0) = true)
    (nC0_word : PySem.W.findIn K (.ref C0) "word" = some none)
    (nC0_name : PySem.W.findIn K (.ref C0) "name" = some none)
    (nC0_may_lack : PySem.W.findIn K (.ref C0) "may_lack" = some none)
    (aC1 : PySem.W.nsIn K mainGlobals "Both" = some (some (.ref C1))) (pgC1 : PySem.W.plainGet K C1 Str.empty = true) (hdC1 : PySem.W.hasDictIn K C1 = true) (poC1 : PySem.W.plainOver K C1 = true) (saC1 : PySem.W.findIn K (.ref C1) "__setattr__" = some (some (.builtin "object.__setattr__"))) (mkC1 : PySem.W.makesIn K C1 = true) (kcC1 : PySem.W.keepIn K (.ref C1) = true)
    (nC1_word : PySem.W.findIn K (.ref C1) "word" = some none)
    (nC1_name : PySem.W.findIn K (.ref C1) "name" = some none)
    (nC1_may_lack : PySem.W.findIn K (.ref C1) "may_lack" = some none)
    (aC2 : PySem.W.nsIn K mainGlobals "Tail" = some (some (.ref C2))) (pgC2 : PySem.W.plainGet K C2 Str.empty = true) (hdC2 : PySem.W.hasDictIn K C2 = true) (poC2 : PySem.W.plainOver K C2 = true) (saC2 : PySem.W.findIn K (.ref C2) "__setattr__" = some (some (.builtin "object.__setattr__"))) (mkC2 : PySem.W.makesIn K C2 = true) (kcC2 : PySem.W.keepIn K (.ref C2) = true)
    (nC2_word : PySem.W.findIn K (.ref C2) "word" = some none)
    (nC2_name : PySem.W.findIn K (.ref C2) "name" = some none)
    (nC2_may_lack : PySem.W.findIn K (.ref C2) "may_lack" = some none)
    (aC3 : PySem.W.nsIn K mainGlobals "Tag" = some (some (.ref C3))) (pgC3 : PySem.W.plainGet K C3 Str.empty = true) (hdC3 : PySem.W.hasDictIn K C3 = true) (poC3 : PySem.W.plainOver K C3 = true) (saC3 : PySem.W.findIn K (.ref C3) "__setattr__" = some (some (.builtin "object.__setattr__"))) (mkC3 : PySem.W.makesIn K C3 = true) (kcC3 : PySem.W.keepIn K (.ref C3) = true)
    (nC3_word : PySem.W.findIn K (.ref C3) "word" = some none)
    (nC3_name : PySem.W.findIn K (.ref C3) "name" = some none)
    (nC3_may_lack : PySem.W.findIn K (.ref C3) "may_lack" = some none)
    (aC4 : PySem.W.nsIn K mainGlobals "Bag" = some (some (.ref C4))) (pgC4 : PySem.W.plainGet K C4 Str.empty = true) (hdC4 : PySem.W.hasDictIn K C4 = true) (poC4 : PySem.W.plainOver K C4 = true) (saC4 : PySem.W.findIn K (.ref C4) "__setattr__" = some (some (.builtin "object.__setattr__"))) (mkC4 : PySem.W.makesIn K C4 = true) (kcC4 : PySem.W.keepIn K (.ref C4) = true)
    (nC4_word : PySem.W.findIn K (.ref C4) "word" = some none)
    (nC4_name : PySem.W.findIn K (.ref C4) "name" = some none)
    (nC4_may_lack : PySem.W.findIn K (.ref C4) "may_lack" = some none)
    (aFM : PySem.W.nsIn K mainGlobals "Form" = some (some (.ref FM))) (pgFM : PySem.W.plainGet K FM Str.empty = true) (hdFM : PySem.W.hasDictIn K FM = true) (poFM : PySem.W.plainOver K FM = true) (saFM : PySem.W.findIn K (.ref FM) "__setattr__" = some (some (.builtin "object.__setattr__"))) (mkFM : PySem.W.makesIn K FM = true) (kcFM : PySem.W.keepIn K (.ref FM) = true)
    (nFM_row : PySem.W.findIn K (.ref FM) "row" = some none)
    (nFM_bar_names : PySem.W.findIn K (.ref FM) "bar_names" = some none)
    (nFM_place_count : PySem.W.findIn K (.ref FM) "place_count" = some none)
    (nFM_tail_number : PySem.W.findIn K (.ref FM) "tail_number" = some none)
    (nFM_bag_number : PySem.W.findIn K (.ref FM) "bag_number" = some none)
    (nFM_doors : PySem.W.findIn K (.ref FM) "doors" = some none)
    (a1 : PySem.W.nsIn K mainGlobals "is_name" = some (some (.ref f1)))
    (l1 : K.lookup f1 = some ⟨oc1, od1, .func (PySem.W.fnOf "is_name" "is_name" (defArgs sIs) (defBody sIs) (defScope sIs) .none kV1 dc1 pm1 an1 cd1 ct1), sl1⟩) (c1 : PySem.W.codeIn K cd1 "is_name" = true) (k1 : PySem.W.keepIn K (.ref f1) = true)
    (a2 : PySem.W.findIn K (.ref D) "__init__" = some (some (.ref f2))) (i2 : PySem.W.isFn K (.ref f2) = true)
    (l2 : K.lookup f2 = some ⟨oc2, od2, .func (PySem.W.fnOf "__init__" "Parameter.__init__" (defArgs sPInit) (defBody sPInit) (defScope sPInit) .none kV2 dc2 pm2 an2 cd2 ct2), sl2⟩) (c2 : PySem.W.codeIn K cd2 "Parameter.__init__" = true) (k2 : PySem.W.keepIn K (.ref f2) = true)
    (a3 : PySem.W.findIn K (.ref D) "free" = some (some (.ref f3))) (i3 : PySem.W.isFn K (.ref f3) = true)
    (l3 : K.lookup f3 = some ⟨oc3, od3, .func (PySem.W.fnOf "free" "Parameter.free" (defArgs sFree) (defBody sFree) (defScope sFree) .none kV3 dc3 pm3 an3 cd3 ct3), sl3⟩) (c3 : PySem.W.codeIn K cd3 "Parameter.free" = true) (k3 : PySem.W.keepIn K (.ref f3) = true)
    (a4 : PySem.W.findIn K (.ref D) "by_place" = some (some (.ref f4))) (i4 : PySem.W.isFn K (.ref f4) = true)
    (l4 : K.lookup f4 = some ⟨oc4, od4, .func (PySem.W.fnOf "by_place" "Parameter.by_place" (defArgs sByPlace) (defBody sByPlace) (defScope sByPlace) .none kV4 dc4 pm4 an4 cd4 ct4), sl4⟩) (c4 : PySem.W.codeIn K cd4 "Parameter.by_place" = true) (k4 : PySem.W.keepIn K (.ref f4) = true)
    (a5 : PySem.W.findIn K (.ref D) "by_name" = some (some (.ref f5))) (i5 : PySem.W.isFn K (.ref f5) = true)
    (l5 : K.lookup f5 = some ⟨oc5, od5, .func (PySem.W.fnOf "by_name" "Parameter.by_name" (defArgs sByName) (defBody sByName) (defScope sByName) .none kV5 dc5 pm5 an5 cd5 ct5), sl5⟩) (c5 : PySem.W.codeIn K cd5 "Parameter.by_name" = true) (k5 : PySem.W.keepIn K (.ref f5) = true)
    (a6 : PySem.W.findIn K (.ref D) "takes_one" = some (some (.ref f6))) (i6 : PySem.W.isFn K (.ref f6) = true)
    (l6 : K.lookup f6 = some ⟨oc6, od6, .func (PySem.W.fnOf "takes_one" "Parameter.takes_one" (defArgs sTakes) (defBody sTakes) (defScope sTakes) .none kV6 dc6 pm6 an6 cd6 ct6), sl6⟩) (c6 : PySem.W.codeIn K cd6 "Parameter.takes_one" = true) (k6 : PySem.W.keepIn K (.ref f6) = true)
    (a7 : PySem.W.findIn K (.ref D) "told" = some (some (.ref f7))) (i7 : PySem.W.isFn K (.ref f7) = true)
    (l7 : K.lookup f7 = some ⟨oc7, od7, .func (PySem.W.fnOf "told" "Parameter.told" (defArgs sTold) (defBody sTold) (defScope sTold) .none kV7 dc7 pm7 an7 cd7 ct7), sl7⟩) (c7 : PySem.W.codeIn K cd7 "Parameter.told" = true) (k7 : PySem.W.keepIn K (.ref f7) = true)
    (a8 : PySem.W.findIn K (.ref C0) "__init__" = some (some (.ref f8))) (i8 : PySem.W.isFn K (.ref f8) = true)
    (l8 : K.lookup f8 = some ⟨oc8, od8, .func (PySem.W.fnOf "__init__" "Seat.__init__" (defArgs sSeat) (defBody sSeat) (defScope sSeat) (.ref T8) kV8 dc8 pm8 an8 cd8 ct8), sl8⟩) (c8 : PySem.W.codeIn K cd8 "Seat.__init__" = true) (k8 : PySem.W.keepIn K (.ref f8) = true)
    (t8 : K.lookup T8 = some ⟨ocT8, odT8, .seq #[Value.bool false] nT8, slT8⟩)
    (a9 : PySem.W.findIn K (.ref C1) "__init__" = some (some (.ref f9))) (i9 : PySem.W.isFn K (.ref f9) = true)
    (l9 : K.lookup f9 = some ⟨oc9, od9, .func (PySem.W.fnOf "__init__" "Both.__init__" (defArgs sBoth) (defBody sBoth) (defScope sBoth) (.ref T9) kV9 dc9 pm9 an9 cd9 ct9), sl9⟩) (c9 : PySem.W.codeIn K cd9 "Both.__init__" = true) (k9 : PySem.W.keepIn K (.ref f9) = true)
    (t9 : K.lookup T9 = some ⟨ocT9, odT9, .seq #[Value.bool false] nT9, slT9⟩)
    (a10 : PySem.W.findIn K (.ref C2) "__init__" = some (some (.ref f10))) (i10 : PySem.W.isFn K (.ref f10) = true)
    (l10 : K.lookup f10 = some ⟨oc10, od10, .func (PySem.W.fnOf "__init__" "Tail.__init__" (defArgs sTail) (defBody sTail) (defScope sTail) .none kV10 dc10 pm10 an10 cd10 ct10), sl10⟩) (c10 : PySem.W.codeIn K cd10 "Tail.__init__" = true) (k10 : PySem.W.keepIn K (.ref f10) = true)
    (a11 : PySem.W.findIn K (.ref C3) "__init__" = some (some (.ref f11))) (i11 : PySem.W.isFn K (.ref f11) = true)
    (l11 : K.lookup f11 = some ⟨oc11, od11, .func (PySem.W.fnOf "__init__" "Tag.__init__" (defArgs sTag) (defBody sTag) (defScope sTag) (.ref T11) kV11 dc11 pm11 an11 cd11 ct11), sl11⟩) (c11 : PySem.W.codeIn K cd11 "Tag.__init__" = true) (k11 : PySem.W.keepIn K (.ref f11) = true)
    (t11 : K.lookup T11 = some ⟨ocT11, odT11, .seq #[Value.bool false] nT11, slT11⟩)
    (a12 : PySem.W.findIn K (.ref C4) "__init__" = some (some (.ref f12))) (i12 : PySem.W.isFn K (.ref f12) = true)
    (l12 : K.lookup f12 = some ⟨oc12, od12, .func (PySem.W.fnOf "__init__" "Bag.__init__" (defArgs sBag) (defBody sBag) (defScope sBag) .none kV12 dc12 pm12 an12 cd12 ct12), sl12⟩) (c12 : PySem.W.codeIn K cd12 "Bag.__init__" = true) (k12 : PySem.W.keepIn K (.ref f12) = true)
    (a13 : PySem.W.findIn K (.ref FM) "__init__" = some (some (.ref f13))) (i13 : PySem.W.isFn K (.ref f13) = true)
    (l13 : K.lookup f13 = some ⟨oc13, od13, .func (PySem.W.fnOf "__init__" "Form.__init__" (defArgs sFInit) (defBody sFInit) (defScope sFInit) (.ref T13) kV13 dc13 pm13 an13 cd13 ct13), sl13⟩) (c13 : PySem.W.codeIn K cd13 "Form.__init__" = true) (k13 : PySem.W.keepIn K (.ref f13) = true)
    (t13 : K.lookup T13 = some ⟨ocT13, odT13, .seq #[Value.none] nT13, slT13⟩)
    (a14 : PySem.W.findIn K (.ref FM) "keep" = some (some (.ref f14))) (i14 : PySem.W.isFn K (.ref f14) = true)
    (l14 : K.lookup f14 = some ⟨oc14, od14, .func (PySem.W.fnOf "keep" "Form.keep" (defArgs sKeep) (defBody sKeep) (defScope sKeep) .none kV14 dc14 pm14 an14 cd14 ct14), sl14⟩) (c14 : PySem.W.codeIn K cd14 "Form.keep" = true) (k14 : PySem.W.keepIn K (.ref f14) = true)
    (a15 : PySem.W.findIn K (.ref FM) "told" = some (some (.ref f15))) (i15 : PySem.W.isFn K (.ref f15) = true)
    (l15 : K.lookup f15 = some ⟨oc15, od15, .func (PySem.W.fnOf "told" "Form.told" (defArgs sFTold) (defBody sFTold) (defScope sFTold) .none kV15 dc15 pm15 an15 cd15 ct15), sl15⟩) (c15 : PySem.W.codeIn K cd15 "Form.told" = true) (k15 : PySem.W.keepIn K (.ref f15) = true)
    (a16 : PySem.W.findIn K (.ref E2) "__init__" = some (some (.ref f16))) (i16 : PySem.W.isFn K (.ref f16) = true)
    (l16 : K.lookup f16 = some ⟨oc16, od16, .func (PySem.W.fnOf "__init__" "BadOrder.__init__" (defArgs sXBad) (defBody sXBad) (defScope sXBad) .none kV16 dc16 pm16 an16 cd16 ct16), sl16⟩) (c16 : PySem.W.codeIn K cd16 "BadOrder.__init__" = true) (k16 : PySem.W.keepIn K (.ref f16) = true)
    (a17 : PySem.W.findIn K (.ref E3) "__init__" = some (some (.ref f17))) (i17 : PySem.W.isFn K (.ref f17) = true)
    (l17 : K.lookup f17 = some ⟨oc17, od17, .func (PySem.W.fnOf "__init__" "Twice.__init__" (defArgs sXTwice) (defBody sXTwice) (defScope sXTwice) .none kV17 dc17 pm17 an17 cd17 ct17), sl17⟩) (c17 : PySem.W.codeIn K cd17 "Twice.__init__" = true) (k17 : PySem.W.keepIn K (.ref f17) = true)
    (a18 : PySem.W.nsIn K mainGlobals "refuse_too_many" = some (some (.ref f18)))
    (l18 : K.lookup f18 = some ⟨oc18, od18, .func (PySem.W.fnOf "refuse_too_many" "refuse_too_many" (defArgs sRMany) (defBody sRMany) (defScope sRMany) .none kV18 dc18 pm18 an18 cd18 ct18), sl18⟩) (c18 : PySem.W.codeIn K cd18 "refuse_too_many" = true) (k18 : PySem.W.keepIn K (.ref f18) = true)
    (a19 : PySem.W.nsIn K mainGlobals "refuse_bad_order" = some (some (.ref f19)))
    (l19 : K.lookup f19 = some ⟨oc19, od19, .func (PySem.W.fnOf "refuse_bad_order" "refuse_bad_order" (defArgs sROrder) (defBody sROrder) (defScope sROrder) .none kV19 dc19 pm19 an19 cd19 ct19), sl19⟩) (c19 : PySem.W.codeIn K cd19 "refuse_bad_order" = true) (k19 : PySem.W.keepIn K (.ref f19) = true)
    (a20 : PySem.W.nsIn K mainGlobals "refuse_bars_without_name" = some (some (.ref f20)))
    (l20 : K.lookup f20 = some ⟨oc20, od20, .func (PySem.W.fnOf "refuse_bars_without_name" "refuse_bars_without_name" (defArgs sRBars) (defBody sRBars) (defScope sRBars) .none kV20 dc20 pm20 an20 cd20 ct20), sl20⟩) (c20 : PySem.W.codeIn K cd20 "refuse_bars_without_name" = true) (k20 : PySem.W.keepIn K (.ref f20) = true)
    (a21 : PySem.W.nsIn K mainGlobals "refuse_twice" = some (some (.ref f21)))
    (l21 : K.lookup f21 = some ⟨oc21, od21, .func (PySem.W.fnOf "refuse_twice" "refuse_twice" (defArgs sRTwice) (defBody sRTwice) (defScope sRTwice) .none kV21 dc21 pm21 an21 cd21 ct21), sl21⟩) (c21 : PySem.W.codeIn K cd21 "refuse_twice" = true) (k21 : PySem.W.keepIn K (.ref f21) = true)
    (a22 : PySem.W.nsIn K mainGlobals "number_of_word" = some (some (.ref f22)))
    (l22 : K.lookup f22 = some ⟨oc22, od22, .func (PySem.W.fnOf "number_of_word" "number_of_word" (defArgs sNumW) (defBody sNumW) (defScope sNumW) .none kV22 dc22 pm22 an22 cd22 ct22), sl22⟩) (c22 : PySem.W.codeIn K cd22 "number_of_word" = true) (k22 : PySem.W.keepIn K (.ref f22) = true)
    (a23 : PySem.W.nsIn K mainGlobals "_law_pot" = some (some (.ref f23)))
    (l23 : K.lookup f23 = some ⟨oc23, od23, .func (PySem.W.fnOf "_law_pot" "_law_pot" (defArgs sPot) (defBody sPot) (defScope sPot) .none kV23 dc23 pm23 an23 cd23 ct23), sl23⟩) (c23 : PySem.W.codeIn K cd23 "_law_pot" = true) (k23 : PySem.W.keepIn K (.ref f23) = true)
    (a24 : PySem.W.nsIn K mainGlobals "_law_take" = some (some (.ref f24)))
    (l24 : K.lookup f24 = some ⟨oc24, od24, .func (PySem.W.fnOf "_law_take" "_law_take" (defArgs sTake) (defBody sTake) (defScope sTake) .none kV24 dc24 pm24 an24 cd24 ct24), sl24⟩) (c24 : PySem.W.codeIn K cd24 "_law_take" = true) (k24 : PySem.W.keepIn K (.ref f24) = true)
    (a25 : PySem.W.nsIn K mainGlobals "_law_word" = some (some (.ref f25)))
    (l25 : K.lookup f25 = some ⟨oc25, od25, .func (PySem.W.fnOf "_law_word" "_law_word" (defArgs sWord) (defBody sWord) (defScope sWord) .none kV25 dc25 pm25 an25 cd25 ct25), sl25⟩) (c25 : PySem.W.codeIn K cd25 "_law_word" = true) (k25 : PySem.W.keepIn K (.ref f25) = true)
    (a26 : PySem.W.nsIn K mainGlobals "_law_right_rows" = some (some (.ref f26)))
    (l26 : K.lookup f26 = some ⟨oc26, od26, .func (PySem.W.fnOf "_law_right_rows" "_law_right_rows" (defArgs sRRw) (defBody sRRw) (defScope sRRw) .none kV26 dc26 pm26 an26 cd26 ct26), sl26⟩) (c26 : PySem.W.codeIn K cd26 "_law_right_rows" = true) (k26 : PySem.W.keepIn K (.ref f26) = true)
    (a27 : PySem.W.nsIn K mainGlobals "_law_right_form" = some (some (.ref f27)))
    (l27 : K.lookup f27 = some ⟨oc27, od27, .func (PySem.W.fnOf "_law_right_form" "_law_right_form" (defArgs sRFm) (defBody sRFm) (defScope sRFm) .none kV27 dc27 pm27 an27 cd27 ct27), sl27⟩) (c27 : PySem.W.codeIn K cd27 "_law_right_form" = true) (k27 : PySem.W.keepIn K (.ref f27) = true)
    (a28 : PySem.W.nsIn K mainGlobals "_law_other_sort" = some (some (.ref f28)))
    (l28 : K.lookup f28 = some ⟨oc28, od28, .func (PySem.W.fnOf "_law_other_sort" "_law_other_sort" (defArgs sOSort) (defBody sOSort) (defScope sOSort) .none kV28 dc28 pm28 an28 cd28 ct28), sl28⟩) (c28 : PySem.W.codeIn K cd28 "_law_other_sort" = true) (k28 : PySem.W.keepIn K (.ref f28) = true)
    (a29 : PySem.W.nsIn K mainGlobals "_law_row_step" = some (some (.ref f29)))
    (l29 : K.lookup f29 = some ⟨oc29, od29, .func (PySem.W.fnOf "_law_row_step" "_law_row_step" (defArgs sRStep) (defBody sRStep) (defScope sRStep) .none kV29 dc29 pm29 an29 cd29 ct29), sl29⟩) (c29 : PySem.W.codeIn K cd29 "_law_row_step" = true) (k29 : PySem.W.keepIn K (.ref f29) = true)
    (a30 : PySem.W.nsIn K mainGlobals "_law_bar_step" = some (some (.ref f30)))
    (l30 : K.lookup f30 = some ⟨oc30, od30, .func (PySem.W.fnOf "_law_bar_step" "_law_bar_step" (defArgs sBStep) (defBody sBStep) (defScope sBStep) .none kV30 dc30 pm30 an30 cd30 ct30), sl30⟩) (c30 : PySem.W.codeIn K cd30 "_law_bar_step" = true) (k30 : PySem.W.keepIn K (.ref f30) = true)
    (a31 : PySem.W.nsIn K mainGlobals "_law_beside" = some (some (.ref f31)))
    (l31 : K.lookup f31 = some ⟨oc31, od31, .func (PySem.W.fnOf "_law_beside" "_law_beside" (defArgs sBes) (defBody sBes) (defScope sBes) .none kV31 dc31 pm31 an31 cd31 ct31), sl31⟩) (c31 : PySem.W.codeIn K cd31 "_law_beside" = true) (k31 : PySem.W.keepIn K (.ref f31) = true)
    (a32 : PySem.W.nsIn K mainGlobals "_law_made" = some (some (.ref f32)))
    (l32 : K.lookup f32 = some ⟨oc32, od32, .func (PySem.W.fnOf "_law_made" "_law_made" (defArgs sMade) (defBody sMade) (defScope sMade) .none kV32 dc32 pm32 an32 cd32 ct32), sl32⟩) (c32 : PySem.W.codeIn K cd32 "_law_made" = true) (k32 : PySem.W.keepIn K (.ref f32) = true)
    (a33 : PySem.W.nsIn K mainGlobals "_law_misplaced" = some (some (.ref f33)))
    (l33 : K.lookup f33 = some ⟨oc33, od33, .func (PySem.W.fnOf "_law_misplaced" "_law_misplaced" (defArgs sMisp) (defBody sMisp) (defScope sMisp) .none kV33 dc33 pm33 an33 cd33 ct33), sl33⟩) (c33 : PySem.W.codeIn K cd33 "_law_misplaced" = true) (k33 : PySem.W.keepIn K (.ref f33) = true)
    (a34 : PySem.W.nsIn K mainGlobals "_law_is_text" = some (some (.ref f34)))
    (l34 : K.lookup f34 = some ⟨oc34, od34, .func (PySem.W.fnOf "_law_is_text" "_law_is_text" (defArgs sIsT) (defBody sIsT) (defScope sIsT) .none kV34 dc34 pm34 an34 cd34 ct34), sl34⟩) (c34 : PySem.W.codeIn K cd34 "_law_is_text" = true) (k34 : PySem.W.keepIn K (.ref f34) = true)
    (a35 : PySem.W.nsIn K mainGlobals "_law_due" = some (some (.ref f35)))
    (l35 : K.lookup f35 = some ⟨oc35, od35, .func (PySem.W.fnOf "_law_due" "_law_due" (defArgs sDue) (defBody sDue) (defScope sDue) .none kV35 dc35 pm35 an35 cd35 ct35), sl35⟩) (c35 : PySem.W.codeIn K cd35 "_law_due" = true) (k35 : PySem.W.keepIn K (.ref f35) = true)
    (a36 : PySem.W.nsIn K mainGlobals "_law_done" = some (some (.ref f36)))
    (l36 : K.lookup f36 = some ⟨oc36, od36, .func (PySem.W.fnOf "_law_done" "_law_done" (defArgs sDone) (defBody sDone) (defScope sDone) .none kV36 dc36 pm36 an36 cd36 ct36), sl36⟩) (c36 : PySem.W.codeIn K cd36 "_law_done" = true) (k36 : PySem.W.keepIn K (.ref f36) = true)
    (a37 : PySem.W.nsIn K mainGlobals "_law_told" = some (some (.ref f37)))
    (l37 : K.lookup f37 = some ⟨oc37, od37, .func (PySem.W.fnOf "_law_told" "_law_told" (defArgs sLTold) (defBody sLTold) (defScope sLTold) .none kV37 dc37 pm37 an37 cd37 ct37), sl37⟩) (c37 : PySem.W.codeIn K cd37 "_law_told" = true) (k37 : PySem.W.keepIn K (.ref f37) = true)
    (a38 : PySem.W.nsIn K mainGlobals "law" = some (some (.ref f38)))
    (l38 : K.lookup f38 = some ⟨oc38, od38, .func (PySem.W.fnOf "law" "law" (defArgs sLaw) (defBody sLaw) (defScope sLaw) .none kV38 dc38 pm38 an38 cd38 ct38), sl38⟩) (c38 : PySem.W.codeIn K cd38 "law" = true) (k38 : PySem.W.keepIn K (.ref f38) = true)
    (zisinstance : PySem.W.nsIn K mainGlobals "isinstance" = some none)
    (zstr : PySem.W.nsIn K mainGlobals "str" = some none)
    (zbool : PySem.W.nsIn K mainGlobals "bool" = some none)
    (zlen : PySem.W.nsIn K mainGlobals "len" = some none)
    (zall : PySem.W.nsIn K mainGlobals "all" = some none)
    (zrange : PySem.W.nsIn K mainGlobals "range" = some none)
    (zint : PySem.W.nsIn K mainGlobals "int" = some none)
    (zlist : PySem.W.nsIn K mainGlobals "list" = some none)
    (zenumerate : PySem.W.nsIn K mainGlobals "enumerate" = some none)
    (zset : PySem.W.nsIn K mainGlobals "set" = some none)
    (zabs : PySem.W.nsIn K mainGlobals "abs" = some none)
    (zmax : PySem.W.nsIn K mainGlobals "max" = some none)
    (zmin : PySem.W.nsIn K mainGlobals "min" = some none)
    (gL : PySem.W.nsIn K mainGlobals "LETTERS" = some (some (.str letters tL)))
    (gN : PySem.W.nsIn K mainGlobals "LONGEST" = some (some (.int 8 tN)))
    (gMP : PySem.W.nsIn K mainGlobals "MOST_PARAMETERS" = some (some (.int 24 tMP)))
    (gMB : PySem.W.nsIn K mainGlobals "MOST_BARS" = some (some (.int 60 tMB)))
    (ytP : PySem.W.nsIn K mainGlobals "BY_PLACE" = some (some (.ref tP)))
    (utP : K.lookup tP = some ⟨.type "tuple", odtP, .seq #[.str "seat" ktP0, .str "both" ktP1] ntP, sltP⟩)
    (ytB : PySem.W.nsIn K mainGlobals "BY_NAME" = some (some (.ref tB)))
    (utB : K.lookup tB = some ⟨.type "tuple", odtB, .seq #[.str "both" ktB0, .str "tag" ktB1] ntB, sltB⟩)
    (ytO : PySem.W.nsIn K mainGlobals "OF_ONE_THING" = some (some (.ref tO)))
    (utO : K.lookup tO = some ⟨.type "tuple", odtO, .seq #[.str "seat" ktO0, .str "both" ktO1, .str "tag" ktO2] ntO, sltO⟩)
    (ysg : PySem.W.nsIn K mainGlobals "SINGLE_GROUPS" = some (some (.ref sg)))
    (usg : K.lookup sg = some ⟨.type "tuple", odsg, .seq #[.int 1 ksg0, .int 3 ksg1] nsg, slsg⟩)
    (yGr : PySem.W.nsIn K mainGlobals "GROUPS" = some (some (.ref Gr)))
    (lGr : K.lookup Gr = some ⟨.type "dict", none, .dict esG nG, #[]⟩)
    (kGr : PySem.W.KeysLit w.params esG.toList)
    (eG0 : PySem.W.nsIn K Gr "seat" = some (some (.int 0 kG0)))
    (eG1 : PySem.W.nsIn K Gr "both" = some (some (.int 0 kG1)))
    (eG2 : PySem.W.nsIn K Gr "tail" = some (some (.int 1 kG2)))
    (eG3 : PySem.W.nsIn K Gr "tag" = some (some (.int 2 kG3)))
    (eG4 : PySem.W.nsIn K Gr "bag" = some (some (.int 3 kG4)))
    (dga : PySem.W.specialIn K (.ref D) "__getattribute__" = some (some (.builtin "type.__getattribute__")))
    (drd : PySem.W.readsIn K D (.type "type") = true)
    (dfc : PySem.W.findCls K (.ref D) (.type "type") "__init__" = some (.val (.ref f2)))
    (h0_3 : PySem.W.findIn K (.ref C0) "free" = some (some (.ref f3)))
    (h0_4 : PySem.W.findIn K (.ref C0) "by_place" = some (some (.ref f4)))
    (h0_5 : PySem.W.findIn K (.ref C0) "by_name" = some (some (.ref f5)))
    (h0_6 : PySem.W.findIn K (.ref C0) "takes_one" = some (some (.ref f6)))
    (h0_7 : PySem.W.findIn K (.ref C0) "told" = some (some (.ref f7)))
    (h1_3 : PySem.W.findIn K (.ref C1) "free" = some (some (.ref f3)))
    (h1_4 : PySem.W.findIn K (.ref C1) "by_place" = some (some (.ref f4)))
    (h1_5 : PySem.W.findIn K (.ref C1) "by_name" = some (some (.ref f5)))
    (h1_6 : PySem.W.findIn K (.ref C1) "takes_one" = some (some (.ref f6)))
    (h1_7 : PySem.W.findIn K (.ref C1) "told" = some (some (.ref f7)))
    (h2_3 : PySem.W.findIn K (.ref C2) "free" = some (some (.ref f3)))
    (h2_4 : PySem.W.findIn K (.ref C2) "by_place" = some (some (.ref f4)))
    (h2_5 : PySem.W.findIn K (.ref C2) "by_name" = some (some (.ref f5)))
    (h2_6 : PySem.W.findIn K (.ref C2) "takes_one" = some (some (.ref f6)))
    (h2_7 : PySem.W.findIn K (.ref C2) "told" = some (some (.ref f7)))
    (h3_3 : PySem.W.findIn K (.ref C3) "free" = some (some (.ref f3)))
    (h3_4 : PySem.W.findIn K (.ref C3) "by_place" = some (some (.ref f4)))
    (h3_5 : PySem.W.findIn K (.ref C3) "by_name" = some (some (.ref f5)))
    (h3_6 : PySem.W.findIn K (.ref C3) "takes_one" = some (some (.ref f6)))
    (h3_7 : PySem.W.findIn K (.ref C3) "told" = some (some (.ref f7)))
    (h4_3 : PySem.W.findIn K (.ref C4) "free" = some (some (.ref f3)))
    (h4_4 : PySem.W.findIn K (.ref C4) "by_place" = some (some (.ref f4)))
    (h4_5 : PySem.W.findIn K (.ref C4) "by_name" = some (some (.ref f5)))
    (h4_6 : PySem.W.findIn K (.ref C4) "takes_one" = some (some (.ref f6)))
    (h4_7 : PySem.W.findIn K (.ref C4) "told" = some (some (.ref f7)))
    (yCE : PySem.W.nsIn K mainGlobals "CallError" = some (some (.ref CE)))
    (xgt : PySem.W.specialIn K (.builtin "object.__class__") "__get__" = some (some (.builtin "getset_descriptor.__get__")))
    (xtk : PySem.W.takesIn K (.builtin "object.__class__") = some true)
    (yE0 : PySem.W.nsIn K mainGlobals "NoName" = some (some (.ref E0)))
    (ec0 : (PySem.W.clsIn K E0).isSome = true)
    (ea0 : PySem.W.findIn K (.ref E0) "__getattribute__" = some (some (.builtin "BaseException.__getattribute__")))
    (en0 : PySem.W.findIn K (.ref E0) "__getattr__" = some none)
    (el0 : PySem.W.findIn K (.ref E0) "__class__" = some (some (.builtin "object.__class__")))
    (eb0 : PySem.W.mroIn K E0 (.type "BaseException") = some true)
    (eo0 : PySem.W.mroIn K E0 (.type "object") = some true)
    (xm0 : L2.xmIn K E0 = true)
    (ek0 : PySem.W.keepIn K (.ref E0) = true)
    (xo0 : PySem.W.excIn K E0 [.type "ValueError", .type "Exception", .type "BaseException", .type "object"] "ValueError.__new__" = true)
    (yE1 : PySem.W.nsIn K mainGlobals "TooMany" = some (some (.ref E1)))
    (ec1 : (PySem.W.clsIn K E1).isSome = true)
    (ea1 : PySem.W.findIn K (.ref E1) "__getattribute__" = some (some (.builtin "BaseException.__getattribute__")))
    (en1 : PySem.W.findIn K (.ref E1) "__getattr__" = some none)
    (el1 : PySem.W.findIn K (.ref E1) "__class__" = some (some (.builtin "object.__class__")))
    (eb1 : PySem.W.mroIn K E1 (.type "BaseException") = some true)
    (eo1 : PySem.W.mroIn K E1 (.type "object") = some true)
    (xm1 : L2.xmIn K E1 = true)
    (ek1 : PySem.W.keepIn K (.ref E1) = true)
    (xo1 : PySem.W.excIn K E1 [.type "ValueError", .type "Exception", .type "BaseException", .type "object"] "ValueError.__new__" = true)
    (yE2 : PySem.W.nsIn K mainGlobals "BadOrder" = some (some (.ref E2)))
    (ec2 : (PySem.W.clsIn K E2).isSome = true)
    (ea2 : PySem.W.findIn K (.ref E2) "__getattribute__" = some (some (.builtin "BaseException.__getattribute__")))
    (en2 : PySem.W.findIn K (.ref E2) "__getattr__" = some none)
    (el2 : PySem.W.findIn K (.ref E2) "__class__" = some (some (.builtin "object.__class__")))
    (eb2 : PySem.W.mroIn K E2 (.type "BaseException") = some true)
    (eo2 : PySem.W.mroIn K E2 (.type "object") = some true)
    (xm2 : L2.xmIn K E2 = true)
    (ek2 : PySem.W.keepIn K (.ref E2) = true)
    (es2 : PySem.W.specialIn K (.ref E2) "__call__" = some (some (.builtin "type.__call__")))
    (et2 : PySem.W.instIn K (.ref E2) (.type "type") = some true)
    (xt2 : L2.xtIn K E2 = true)
    (ef2 : PySem.W.findIn K (.ref E2) "__setattr__" = some (some (.builtin "object.__setattr__")))
    (eq2 : PySem.W.findIn K (.ref E2) "at" = some none)
    (yE3 : PySem.W.nsIn K mainGlobals "Twice" = some (some (.ref E3)))
    (ec3 : (PySem.W.clsIn K E3).isSome = true)
    (ea3 : PySem.W.findIn K (.ref E3) "__getattribute__" = some (some (.builtin "BaseException.__getattribute__")))
    (en3 : PySem.W.findIn K (.ref E3) "__getattr__" = some none)
    (el3 : PySem.W.findIn K (.ref E3) "__class__" = some (some (.builtin "object.__class__")))
    (eb3 : PySem.W.mroIn K E3 (.type "BaseException") = some true)
    (eo3 : PySem.W.mroIn K E3 (.type "object") = some true)
    (xm3 : L2.xmIn K E3 = true)
    (ek3 : PySem.W.keepIn K (.ref E3) = true)
    (es3 : PySem.W.specialIn K (.ref E3) "__call__" = some (some (.builtin "type.__call__")))
    (et3 : PySem.W.instIn K (.ref E3) (.type "type") = some true)
    (xt3 : L2.xtIn K E3 = true)
    (ef3 : PySem.W.findIn K (.ref E3) "__setattr__" = some (some (.builtin "object.__setattr__")))
    (eq3 : PySem.W.findIn K (.ref E3) "name" = some none)
    (em1_1 : PySem.W.exmOne K (.ref E1) (.ref E1) = some true)
    (em2_1 : PySem.W.exmOne K (.ref E2) (.ref E1) = some false)
    (em2_2 : PySem.W.exmOne K (.ref E2) (.ref E2) = some true)
    (em0_1 : PySem.W.exmOne K (.ref E0) (.ref E1) = some false)
    (em0_2 : PySem.W.exmOne K (.ref E0) (.ref E2) = some false)
    (em0_0 : PySem.W.exmOne K (.ref E0) (.ref E0) = some true)
    (em3_1 : PySem.W.exmOne K (.ref E3) (.ref E1) = some false)
    (em3_2 : PySem.W.exmOne K (.ref E3) (.ref E2) = some false)
    (em3_0 : PySem.W.exmOne K (.ref E3) (.ref E0) = some false)
    (em3_3 : PySem.W.exmOne K (.ref E3) (.ref E3) = some true)
    : ∃ fd : FuncData, (∀ (s : Shared) (v : Value), BindsTo s fd ⟨[v], []⟩ [("_law_script", v)]) ∧ ∀ base : Heap, K.In base → base.Ns mainGlobals mg → FnOk l.prog w K mg base CX0 8 fa fd ["_law_script"] (spLaw K) := by
  have e := hfa.symm.trans (PySem.W.mg_of X G a38)
  cases e
  have F1 := fun_mk (st := sIs) l1 c1 k1
  have b1 := F1.binds (ps := ["thing"]) fun _ _ _ _ _ _ us hl => match us, hl with | [_], _ => rfl
  have F2 := fun_mk (st := sPInit) l2 c2 k2
  have b2 := F2.binds (ps := ["self", "word", "name", "may_lack"]) fun _ _ _ _ _ _ us hl => match us, hl with | [_, _, _, _], _ => rfl
  have F3 := fun_mk (st := sFree) l3 c3 k3
  have b3 := F3.binds (ps := ["self"]) fun _ _ _ _ _ _ us hl => match us, hl with | [_], _ => rfl
  have F4 := fun_mk (st := sByPlace) l4 c4 k4
  have b4 := F4.binds (ps := ["self"]) fun _ _ _ _ _ _ us hl => match us, hl with | [_], _ => rfl
  have F5 := fun_mk (st := sByName) l5 c5 k5
  have b5 := F5.binds (ps := ["self"]) fun _ _ _ _ _ _ us hl => match us, hl with | [_], _ => rfl
  have F6 := fun_mk (st := sTakes) l6 c6 k6
  have b6 := F6.binds (ps := ["self"]) fun _ _ _ _ _ _ us hl => match us, hl with | [_], _ => rfl
  have F7 := fun_mk (st := sTold) l7 c7 k7
  have b7 := F7.binds (ps := ["self"]) fun _ _ _ _ _ _ us hl => match us, hl with | [_], _ => rfl
  have F8 := funD_mk (st := sSeat) (items := [Value.bool false]) l8 c8 k8 t8 rfl
  have F9 := funD_mk (st := sBoth) (items := [Value.bool false]) l9 c9 k9 t9 rfl
  have F10 := fun_mk (st := sTail) l10 c10 k10
  have b10 := F10.binds (ps := ["self", "name"]) fun _ _ _ _ _ _ us hl => match us, hl with | [_, _], _ => rfl
  have F11 := funD_mk (st := sTag) (items := [Value.bool false]) l11 c11 k11 t11 rfl
  have F12 := fun_mk (st := sBag) l12 c12 k12
  have b12 := F12.binds (ps := ["self", "name"]) fun _ _ _ _ _ _ us hl => match us, hl with | [_, _], _ => rfl
  have F13 := funD_mk (st := sFInit) (items := [Value.none]) l13 c13 k13 t13 rfl
  have F14 := fun_mk (st := sKeep) l14 c14 k14
  have b14 := F14.binds (ps := ["self", "parameters", "bars"]) fun _ _ _ _ _ _ us hl => match us, hl with | [_, _, _], _ => rfl
  have F15 := fun_mk (st := sFTold) l15 c15 k15
  have b15 := F15.binds (ps := ["self"]) fun _ _ _ _ _ _ us hl => match us, hl with | [_], _ => rfl
  have F16 := fun_mk (st := sXBad) l16 c16 k16
  have b16 := F16.binds (ps := ["self", "at"]) fun _ _ _ _ _ _ us hl => match us, hl with | [_, _], _ => rfl
  have F17 := fun_mk (st := sXTwice) l17 c17 k17
  have b17 := F17.binds (ps := ["self", "name"]) fun _ _ _ _ _ _ us hl => match us, hl with | [_, _], _ => rfl
  have F18 := fun_mk (st := sRMany) l18 c18 k18
  have b18 := F18.binds (ps := ["parameters", "bars"]) fun _ _ _ _ _ _ us hl => match us, hl with | [_, _], _ => rfl
  have F19 := fun_mk (st := sROrder) l19 c19 k19
  have b19 := F19.binds (ps := ["parameters"]) fun _ _ _ _ _ _ us hl => match us, hl with | [_], _ => rfl
  have F20 := fun_mk (st := sRBars) l20 c20 k20
  have b20 := F20.binds (ps := ["bars"]) fun _ _ _ _ _ _ us hl => match us, hl with | [_], _ => rfl
  have F21 := fun_mk (st := sRTwice) l21 c21 k21
  have b21 := F21.binds (ps := ["parameters", "bars"]) fun _ _ _ _ _ _ us hl => match us, hl with | [_, _], _ => rfl
  have F22 := fun_mk (st := sNumW) l22 c22 k22
  have b22 := F22.binds (ps := ["parameters", "word"]) fun _ _ _ _ _ _ us hl => match us, hl with | [_, _], _ => rfl
  have F23 := fun_mk (st := sPot) l23 c23 k23
  have b23 := F23.binds (ps := ["_law_script", "_law_k"]) fun _ _ _ _ _ _ us hl => match us, hl with | [_, _], _ => rfl
  have F24 := fun_mk (st := sTake) l24 c24 k24
  have b24 := F24.binds (ps := ["_law_pot_here", "_law_many"]) fun _ _ _ _ _ _ us hl => match us, hl with | [_, _], _ => rfl
  have F25 := fun_mk (st := sWord) l25 c25 k25
  have b25 := F25.binds (ps := ["_law_pot_here"]) fun _ _ _ _ _ _ us hl => match us, hl with | [_], _ => rfl
  have F26 := fun_mk (st := sRRw) l26 c26 k26
  have b26 := F26.binds (ps := ["_law_pot_here"]) fun _ _ _ _ _ _ us hl => match us, hl with | [_], _ => rfl
  have F27 := fun_mk (st := sRFm) l27 c27 k27
  have b27 := F27.binds (ps := ["_law_pot_here"]) fun _ _ _ _ _ _ us hl => match us, hl with | [_], _ => rfl
  have F28 := fun_mk (st := sOSort) l28 c28 k28
  have b28 := F28.binds (ps := ["_law_pot_here", "_law_row"]) fun _ _ _ _ _ _ us hl => match us, hl with | [_, _], _ => rfl
  have F29 := fun_mk (st := sRStep) l29 c29 k29
  have b29 := F29.binds (ps := ["_law_pot_here", "_law_rows", "_law_way"]) fun _ _ _ _ _ _ us hl => match us, hl with | [_, _, _], _ => rfl
  have F30 := fun_mk (st := sBStep) l30 c30 k30
  have b30 := F30.binds (ps := ["_law_pot_here", "_law_rows", "_law_bars", "_law_way"]) fun _ _ _ _ _ _ us hl => match us, hl with | [_, _, _, _], _ => rfl
  have F31 := fun_mk (st := sBes) l31 c31 k31
  have b31 := F31.binds (ps := ["_law_pot_here", "_law_rows", "_law_bars"]) fun _ _ _ _ _ _ us hl => match us, hl with | [_, _, _], _ => rfl
  have F32 := fun_mk (st := sMade) l32 c32 k32
  have b32 := F32.binds (ps := ["_law_row"]) fun _ _ _ _ _ _ us hl => match us, hl with | [_], _ => rfl
  have F33 := fun_mk (st := sMisp) l33 c33 k33
  have b33 := F33.binds (ps := ["_law_rows"]) fun _ _ _ _ _ _ us hl => match us, hl with | [_], _ => rfl
  have F34 := fun_mk (st := sIsT) l34 c34 k34
  have b34 := F34.binds (ps := ["_law_name"]) fun _ _ _ _ _ _ us hl => match us, hl with | [_], _ => rfl
  have F35 := fun_mk (st := sDue) l35 c35 k35
  have b35 := F35.binds (ps := ["_law_rows", "_law_bars"]) fun _ _ _ _ _ _ us hl => match us, hl with | [_, _], _ => rfl
  have F36 := fun_mk (st := sDone) l36 c36 k36
  have b36 := F36.binds (ps := ["_law_made_here", "_law_bars"]) fun _ _ _ _ _ _ us hl => match us, hl with | [_, _], _ => rfl
  have F37 := fun_mk (st := sLTold) l37 c37 k37
  have b37 := F37.binds (ps := ["_law_rows", "_law_bars"]) fun _ _ _ _ _ _ us hl => match us, hl with | [_, _], _ => rfl
  have F38 := fun_mk (st := sLaw) l38 c38 k38
  have no : ∀ {x : Str}, PySem.W.nsIn K mainGlobals x = some none → mg x = none := fun z => PySem.W.mg_none_of X G z
  have T : Txt1 K mg := ⟨no zisinstance, no zstr, no zbool, no zlen, no zall, no zrange, ⟨tL, PySem.W.mg_of X G gL⟩, ⟨tN, PySem.W.mg_of X G gN⟩, kt_NoneType_str K, kt_int_str K, kt_bool_str K, kt_list_str K, kt_tuple_str K, kt_dict_str K, kt_str_str K, kt_bool_bool K⟩
  have Wd : Wds K mg tP tB tO := ⟨PySem.W.mg_of X G ytP, PySem.W.mg_of X G ytB, PySem.W.mg_of X G ytO, fun H => .inr ⟨_, _, _, utP, rfl, rfl, (by show 2 ≤ sizeLine; decide), .cons ⟨_, rfl⟩ (.cons ⟨_, rfl⟩ (.nil))⟩, fun H => .inr ⟨_, _, _, utB, rfl, rfl, (by show 2 ≤ sizeLine; decide), .cons ⟨_, rfl⟩ (.cons ⟨_, rfl⟩ (.nil))⟩, fun H => .inr ⟨_, _, _, utO, rfl, rfl, (by show 3 ≤ sizeLine; decide), .cons ⟨_, rfl⟩ (.cons ⟨_, rfl⟩ (.cons ⟨_, rfl⟩ (.nil)))⟩⟩
  have TF : TxtF w K mg Gr sg := ⟨no zlen, no zenumerate, no zlist, no zset, ⟨tMP, PySem.W.mg_of X G gMP⟩, ⟨tMB, PySem.W.mg_of X G gMB⟩, PySem.W.mg_of X G yGr, ktab_of lGr kGr eG0 eG1 eG2 eG3 eG4, PySem.W.mg_of X G ysg, fun H => .inr ⟨_, _, _, usg, rfl, rfl, (by show 2 ≤ sizeLine; decide), .cons ⟨_, rfl⟩ (.cons ⟨_, rfl⟩ .nil)⟩⟩
  have pc0 : PC K ⟨f3, f4, f5, f6, f7⟩ C0 := ⟨⟨pgC0, hdC0, poC0, saC0⟩, nC0_word, nC0_name, nC0_may_lack, ⟨h0_3, i3, k3⟩, ⟨h0_4, i4, k4⟩, ⟨h0_5, i5, k5⟩, ⟨h0_6, i6, k6⟩, ⟨h0_7, i7, k7⟩⟩
  have pc1 : PC K ⟨f3, f4, f5, f6, f7⟩ C1 := ⟨⟨pgC1, hdC1, poC1, saC1⟩, nC1_word, nC1_name, nC1_may_lack, ⟨h1_3, i3, k3⟩, ⟨h1_4, i4, k4⟩, ⟨h1_5, i5, k5⟩, ⟨h1_6, i6, k6⟩, ⟨h1_7, i7, k7⟩⟩
  have pc2 : PC K ⟨f3, f4, f5, f6, f7⟩ C2 := ⟨⟨pgC2, hdC2, poC2, saC2⟩, nC2_word, nC2_name, nC2_may_lack, ⟨h2_3, i3, k3⟩, ⟨h2_4, i4, k4⟩, ⟨h2_5, i5, k5⟩, ⟨h2_6, i6, k6⟩, ⟨h2_7, i7, k7⟩⟩
  have pc3 : PC K ⟨f3, f4, f5, f6, f7⟩ C3 := ⟨⟨pgC3, hdC3, poC3, saC3⟩, nC3_word, nC3_name, nC3_may_lack, ⟨h3_3, i3, k3⟩, ⟨h3_4, i4, k4⟩, ⟨h3_5, i5, k5⟩, ⟨h3_6, i6, k6⟩, ⟨h3_7, i7, k7⟩⟩
  have pc4 : PC K ⟨f3, f4, f5, f6, f7⟩ C4 := ⟨⟨pgC4, hdC4, poC4, saC4⟩, nC4_word, nC4_name, nC4_may_lack, ⟨h4_3, i3, k3⟩, ⟨h4_4, i4, k4⟩, ⟨h4_5, i5, k5⟩, ⟨h4_6, i6, k6⟩, ⟨h4_7, i7, k7⟩⟩
  have PP : Pcs K ⟨f3, f4, f5, f6, f7⟩ ⟨C0, C1, C2, C3, C4⟩ := fun k hk => by
    rcases lt5 hk with rfl | rfl | rfl | rfl | rfl
    · exact pc0
    · exact pc1
    · exact pc2
    · exact pc3
    · exact pc4
  have FK : FC K FM := ⟨⟨pgFM, hdFM, poFM, saFM⟩, nFM_row, nFM_bar_names, nFM_place_count, nFM_tail_number, nFM_bag_number, nFM_doors⟩
  have ex0 : ExcCls K E0 := ⟨ec0, ea0, en0, el0, xgt, xtk, eb0, eo0⟩
  have ex1 : ExcCls K E1 := ⟨ec1, ea1, en1, el1, xgt, xtk, eb1, eo1⟩
  have ex2 : ExcCls K E2 := ⟨ec2, ea2, en2, el2, xgt, xtk, eb2, eo2⟩
  have ex3 : ExcCls K E3 := ⟨ec3, ea3, en3, el3, xgt, xtk, eb3, eo3⟩
  have U : TxtD mg E1 E2 E0 E3 CE FM := ⟨PySem.W.mg_of X G yE1, PySem.W.mg_of X G yE2, PySem.W.mg_of X G yE0, PySem.W.mg_of X G yE3, PySem.W.mg_of X G yCE, PySem.W.mg_of X G aFM⟩
  have EM : ExM K E1 E2 E0 E3 := ⟨em1_1, em2_1, em2_2, em0_1, em0_2, em0_0, em3_1, em3_2, em3_0, em3_3⟩
  have b8_0 : Binds K _ ["self", "name", "free"] [] := fun s us KX hl => match us, hl with | [u, v, x], _ => F8.bindsTo (fun _ _ _ _ _ _ _ => ⟨_, rfl, rfl⟩) KX
  have b8_1 : Binds K _ ["self", "name", "free"] [.bool false] := fun s us KX hl => match us, (show us.length = 2 by simpa using hl) with | [u, v], _ => F8.bindsTo (fun _ _ _ _ _ _ _ => ⟨_, rfl, rfl⟩) KX
  have b8_2 : KBinds K _ ["self", "name", "free"] ["free"] g21 g21 := ⟨fun s us ws KX hl => match us, ws, hl with | [u, v], [x], _ => F8.bindsTo (fun _ _ _ _ _ _ _ => ⟨_, rfl, rfl⟩) KX, fun r z => g21_rel r z⟩
  have b9_0 : Binds K _ ["self", "name", "free"] [] := fun s us KX hl => match us, hl with | [u, v, x], _ => F9.bindsTo (fun _ _ _ _ _ _ _ => ⟨_, rfl, rfl⟩) KX
  have b9_1 : Binds K _ ["self", "name", "free"] [.bool false] := fun s us KX hl => match us, (show us.length = 2 by simpa using hl) with | [u, v], _ => F9.bindsTo (fun _ _ _ _ _ _ _ => ⟨_, rfl, rfl⟩) KX
  have b9_2 : KBinds K _ ["self", "name", "free"] ["free"] g21 g21 := ⟨fun s us ws KX hl => match us, ws, hl with | [u, v], [x], _ => F9.bindsTo (fun _ _ _ _ _ _ _ => ⟨_, rfl, rfl⟩) KX, fun r z => g21_rel r z⟩
  have b11_0 : Binds K _ ["self", "name", "free"] [] := fun s us KX hl => match us, hl with | [u, v, x], _ => F11.bindsTo (fun _ _ _ _ _ _ _ => ⟨_, rfl, rfl⟩) KX
  have b11_1 : Binds K _ ["self", "name", "free"] [.bool false] := fun s us KX hl => match us, (show us.length = 2 by simpa using hl) with | [u, v], _ => F11.bindsTo (fun _ _ _ _ _ _ _ => ⟨_, rfl, rfl⟩) KX
  have b11_2 : KBinds K _ ["self", "name", "free"] ["free"] g21 g21 := ⟨fun s us ws KX hl => match us, ws, hl with | [u, v], [x], _ => F11.bindsTo (fun _ _ _ _ _ _ _ => ⟨_, rfl, rfl⟩) KX, fun r z => g21_rel r z⟩
  have b13_0 : Binds K _ ["self", "parameters", "bars"] [] := fun s us KX hl => match us, hl with | [u, v, x], _ => F13.bindsTo (fun _ _ _ _ _ _ _ => ⟨_, rfl, rfl⟩) KX
  have b13_1 : Binds K _ ["self", "parameters", "bars"] [.none] := fun s us KX hl => match us, (show us.length = 2 by simpa using hl) with | [u, v], _ => F13.bindsTo (fun _ _ _ _ _ _ _ => ⟨_, rfl, rfl⟩) KX
  have b13_2 : KBinds K _ ["self", "parameters", "bars"] ["bars"] g21 g21 := ⟨fun s us ws KX hl => match us, ws, hl with | [u, v], [x], _ => F13.bindsTo (fun _ _ _ _ _ _ _ => ⟨_, rfl, rfl⟩) KX, fun r z => g21_rel r z⟩
  refine ⟨PySem.W.fnOf "law" "law" (defArgs sLaw) (defBody sLaw) (defScope sLaw) .none kV38 dc38 pm38 an38 cd38 ct38, fun s v => .of_eq rfl, fun base KB GB => ?_⟩
  have cI : Callee l.prog w K mg base 1 "is_name" f1 _ ["thing"] (spIs K) := ⟨ok_is F1 T , PySem.W.mg_of X G a1, k1, b1⟩
  have GP : FnOk l.prog w K mg base (CXe l.prog w) 2 f2 _ ["self", "word", "name", "may_lack"] (spP K ⟨f3, f4, f5, f6, f7⟩ E0) := ok_pinit F2 (own_in KB GB yE0 xo0) cI
  have CB : ClsFn K D "__init__" f2 := ⟨dga, drd, dfc, k2⟩
  have mD := PySem.W.mg_of X G aD
  have UC : Ctors l.prog w K mg base ⟨C0, C1, C2, C3, C4⟩ E0 f8 f9 f10 f11 f12 _ _ _ _ _ := ⟨⟨⟨mkC0, a8, i8, kcC0⟩, ok_seat F8 pc0 CB mD GP b2, PySem.W.mg_of X G aC0, b8_0⟩, ⟨⟨mkC0, a8, i8, kcC0⟩, ok_seat F8 pc0 CB mD GP b2, PySem.W.mg_of X G aC0, b8_1⟩, b8_2, ⟨⟨mkC1, a9, i9, kcC1⟩, ok_both F9 pc1 CB mD GP b2, PySem.W.mg_of X G aC1, b9_0⟩, ⟨⟨mkC1, a9, i9, kcC1⟩, ok_both F9 pc1 CB mD GP b2, PySem.W.mg_of X G aC1, b9_1⟩, b9_2, ⟨⟨mkC2, a10, i10, kcC2⟩, ok_tail F10 pc2 CB mD GP b2, PySem.W.mg_of X G aC2, b10⟩, ⟨⟨mkC3, a11, i11, kcC3⟩, ok_tag F11 pc3 CB mD GP b2, PySem.W.mg_of X G aC3, b11_0⟩, ⟨⟨mkC3, a11, i11, kcC3⟩, ok_tag F11 pc3 CB mD GP b2, PySem.W.mg_of X G aC3, b11_1⟩, b11_2, ⟨⟨mkC4, a12, i12, kcC4⟩, ok_bag F12 pc4 CB mD GP b2, PySem.W.mg_of X G aC4, b12⟩⟩
  have GQ : FnOk l.prog w K mg base CX0 1 f4 _ ["self"] (spIn K ⟨f3, f4, f5, f6, f7⟩ bpL) := ok_by_place F4 Wd
  have GN : FnOk l.prog w K mg base CX0 1 f5 _ ["self"] (spIn K ⟨f3, f4, f5, f6, f7⟩ bnL) := ok_by_name F5 Wd
  have GT : FnOk l.prog w K mg base CX0 1 f6 _ ["self"] (spIn K ⟨f3, f4, f5, f6, f7⟩ otL) := ok_takes_one F6 Wd
  have GO : FnOk l.prog w K mg base CX0 2 f7 _ ["self"] (spTold K ⟨f3, f4, f5, f6, f7⟩) := ok_told F7 GT b6
  have p0 : PCls K mg base "NoName" E0 := ⟨own_in KB GB yE0 xo0, ek0, ex0, xm0⟩
  have p1 : PCls K mg base "TooMany" E1 := ⟨own_in KB GB yE1 xo1, ek1, ex1, xm1⟩
  have x2 : XCls l.prog w K mg base "BadOrder" E2 f16 _ "at" "at" := ⟨⟨xm2, a16, i16, es2, et2, ek2⟩, ⟨xt2, ef2, eo2⟩, eq2, ex2, PySem.W.mg_of X G yE2, ok_xbad F16, b16⟩
  have x3 : XCls l.prog w K mg base "Twice" E3 f17 _ "name" "name" := ⟨⟨xm3, a17, i17, es3, et3, ek3⟩, ⟨xt3, ef3, eo3⟩, eq3, ex3, PySem.W.mg_of X G yE3, ok_xtwice F17, b17⟩
  have cM : CalleeS l.prog w K mg base 1 "refuse_too_many" f18 _ ["parameters", "bars"] (spManyZ K E1) := ⟨ok_manyZ F18 TF p1 , PySem.W.mg_of X G a18, k18, b18⟩
  have cOr : CalleeS l.prog w K mg base 3 "refuse_bad_order" f19 _ ["parameters"] (spOrdZ ⟨C0, C1, C2, C3, C4⟩ E2) := ⟨ok_orderZ F19 TF PP x2 , PySem.W.mg_of X G a19, k19, b19⟩
  have cBa : CalleeS l.prog w K mg base 2 "refuse_bars_without_name" f20 _ ["bars"] (spRBZ K E0) := ⟨ok_rbarsZ F20 p0 cI , PySem.W.mg_of X G a20, k20, b20⟩
  have cTw : CalleeS l.prog w K mg base 3 "refuse_twice" f21 _ ["parameters", "bars"] (spTwZ ⟨C0, C1, C2, C3, C4⟩ E3) := ⟨ok_twiceZ F21 TF PP GN b5 x3 , PySem.W.mg_of X G a21, k21, b21⟩
  have cW : Callee l.prog w K mg base 1 "number_of_word" f22 _ ["parameters", "word"] (spNW ⟨C0, C1, C2, C3, C4⟩) := ⟨ok_numw F22 TF PP , PySem.W.mg_of X G a22, k22, b22⟩
  have GK : FnOk l.prog w K mg base CX0 2 f14 _ ["self", "parameters", "bars"] (spKeep ⟨C0, C1, C2, C3, C4⟩ FM) := ok_keep F14 TF PP FK cW GQ b4 GN b5
  have GF : FnOk l.prog w K mg base (CXs l.prog w) 4 f13 _ ["self", "parameters", "bars"] (spFIZ K ⟨C0, C1, C2, C3, C4⟩ FM E1 E2 E0 E3) := ok_finitZ F13 FK ⟨a14, i14, k14⟩ cM cOr cBa cTw GK b14
  have GFT : FnOk l.prog w K mg base CX0 3 f15 _ ["self"] (spFTold ⟨C0, C1, C2, C3, C4⟩ FM) := ok_ftold F15 TF FK PP GO b7
  have U2 : TxtP mg := ⟨no zlen, no zabs, no zmax, no zmin, no zrange, no zint, no zlist⟩
  have cP : Callee l.prog w K mg base 1 "_law_pot" f23 _ ["_law_script", "_law_k"] (spPot K) := ⟨ok_pot F23 U2 , PySem.W.mg_of X G a23, k23, b23⟩
  have cTk : Callee l.prog w K mg base 1 "_law_take" f24 _ ["_law_pot_here", "_law_many"] spTake := ⟨ok_take F24 , PySem.W.mg_of X G a24, k24, b24⟩
  have cWd : Callee l.prog w K mg base 2 "_law_word" f25 _ ["_law_pot_here"] spWd := ⟨ok_word F25 U2 cTk , PySem.W.mg_of X G a25, k25, b25⟩
  have cRR : Callee l.prog w K mg base 3 "_law_right_rows" f26 _ ["_law_pot_here"] spRRows := ⟨ok_rrows F26 U2 cTk cWd , PySem.W.mg_of X G a26, k26, b26⟩
  have cRF : Callee l.prog w K mg base 4 "_law_right_form" f27 _ ["_law_pot_here"] spRForm := ⟨ok_rform F27 U2 cTk cWd cRR , PySem.W.mg_of X G a27, k27, b27⟩
  have cOS : Callee l.prog w K mg base 2 "_law_other_sort" f28 _ ["_law_pot_here", "_law_row"] spOSort := ⟨ok_osort F28 cTk , PySem.W.mg_of X G a28, k28, b28⟩
  have cRS : Callee l.prog w K mg base 3 "_law_row_step" f29 _ ["_law_pot_here", "_law_rows", "_law_way"] spRStep := ⟨ok_rstep F29 U2 cTk cOS , PySem.W.mg_of X G a29, k29, b29⟩
  have cBS : Callee l.prog w K mg base 2 "_law_bar_step" f30 _ ["_law_pot_here", "_law_rows", "_law_bars", "_law_way"] spBStep := ⟨ok_bstep F30 T U2 cTk , PySem.W.mg_of X G a30, k30, b30⟩
  have cBe : Callee l.prog w K mg base 4 "_law_beside" f31 _ ["_law_pot_here", "_law_rows", "_law_bars"] spBes := ⟨ok_bes F31 U2 cTk cRS cBS , PySem.W.mg_of X G a31, k31, b31⟩
  have cMd : CalleeE l.prog w K mg base 5 "_law_made" f32 _ ["_law_row"] (spMade1 K ⟨C0, C1, C2, C3, C4⟩ E0) := ⟨ok_made F32 UC , PySem.W.mg_of X G a32, k32, b32⟩
  have cMi : Callee l.prog w K mg base 1 "_law_misplaced" f33 _ ["_law_rows"] spMisp := ⟨ok_misp F33 T , PySem.W.mg_of X G a33, k33, b33⟩
  have cIT : Callee l.prog w K mg base 1 "_law_is_text" f34 _ ["_law_name"] (spIs K) := ⟨ok_isT F34 T , PySem.W.mg_of X G a34, k34, b34⟩
  have cU : Callee l.prog w K mg base 2 "_law_due" f35 _ ["_law_rows", "_law_bars"] (spDue K) := ⟨ok_due F35 T cMi cIT , PySem.W.mg_of X G a35, k35, b35⟩
  have cD : Callee l.prog w K mg base 6 "_law_done" f36 _ ["_law_made_here", "_law_bars"] (spDone K ⟨C0, C1, C2, C3, C4⟩) := ⟨ok_done F36 U EM FK ⟨mkFM, a13, i13, kcFM⟩ GF b13_0 ⟨a15, i15, k15⟩ GFT b15 x2 x3 , PySem.W.mg_of X G a36, k36, b36⟩
  have cTd : Callee l.prog w K mg base 7 "_law_told" f37 _ ["_law_rows", "_law_bars"] spLTd := ⟨ok_ltd F37 U2 PP GO b7 cMd cD , PySem.W.mg_of X G a37, k37, b37⟩
  exact ok_law F38 T U2 cP cRF cTd cBe cU
theorem walk {l : PySem.W.OpenLaw} {q : Program} {loose : List Str} {XP : (Str → Option Value) → Heap → Prop} {YP : World → Heap → Prop} {d : DefRec} {K : Params → PySem.W.Frag} (hn : l.most = some 63) (hdf : d.params.defaults = [])
    (hY : ∀ (w : World) (h : Heap), YP w h → (K w.params).In h)
    (F : ∀ (w : World) (mg : Str → Option Value) (fa : Addr) (h : Heap), (K w.params).In h → h.Ns mainGlobals mg → mg d.name = some (.ref fa) →
      ∃ fd : FuncData, (∀ (s : Shared) (u : Value), BindsTo s fd ⟨[u], []⟩ [("_law_script", u)]) ∧ ∀ base : Heap, (K w.params).In base → base.Ns mainGlobals mg → FnOk l.prog w (K w.params) mg base CX0 8 fa fd ["_law_script"] (spLaw (K w.params))) :
    PySem.W.WalkO q loose XP YP l.row.toRowW d [] (fun f vs => PySem.call f vs) :=
  L2.walk_of (n := 63) (k := 8) (x := "_law_script") (CX := fun _ => CX0) (sp := fun w => spLaw (K w.params)) hn (by decide) hdf ⟨rfl, by decide, by decide⟩ hY F (fun _ _ a ns hl _ hS => ⟨a, ns, rfl, hS, hl, fun _ => rfl⟩) fun _ _ _ _ _ z => z
end K16
open PySem PySem.W PyProof.Rows
set_option maxRecDepth 100000 in
set_option maxHeartbeats 0 in
theorem PySem.Challenge.cw_callbinds_k16_whole_forms_one_step_besid_holds : PySem.Challenge.rw_callbinds_k16_whole_forms_one_step_besid.Holds := by
  w_on; o_law; k_head; (case hw => w_witness2)
  k_fill
  refine K16.walk (l := PySem.Challenge.rw_callbinds_k16_whole_forms_one_step_besid) rfl rfl (fun w h Y => PySem.W.kIn_of Y) ?F
  case F =>
    intro w mg fa h KX G hmg
    refine' K16.all_mk KX G hmg ?aD ?pgD ?hdD ?poD ?saD ?mkD ?kcD ?aC0 ?pgC0 ?hdC0 ?poC0 ?saC0 ?mkC0 ?kcC0 ?nC0_word ?nC0_name ?nC0_may_lack ?aC1 ?pgC1 ?hdC1 ?poC1 ?saC1 ?mkC1 ?kcC1 ?nC1_word ?nC1_name ?nC1_may_lack ?aC2 ?pgC2 ?hdC2 ?poC2 ?saC2 ?mkC2 ?kcC2 ?nC2_word ?nC2_name ?nC2_may_lack ?aC3 ?pgC3 ?hdC3 ?poC3 ?saC3 ?mkC3 ?kcC3 ?nC3_word ?nC3_name ?nC3_may_lack ?aC4 ?pgC4 ?hdC4 ?poC4 ?saC4 ?mkC4 ?kcC4 ?nC4_word ?nC4_name ?nC4_may_lack ?aFM ?pgFM ?hdFM ?poFM ?saFM ?mkFM ?kcFM ?nFM_row ?nFM_bar_names ?nFM_place_count ?nFM_tail_number ?nFM_bag_number ?nFM_doors ?a1 ?l1 ?c1 ?k1 ?a2 ?i2 ?l2 ?c2 ?k2 ?a3 ?i3 ?l3 ?c3 ?k3 ?a4 ?i4 ?l4 ?c4 ?k4 ?a5 ?i5 ?l5 ?c5 ?k5 ?a6 ?i6 ?l6 ?c6 ?k6 ?a7 ?i7 ?l7 ?c7 ?k7 ?a8 ?i8 ?l8 ?c8 ?k8 ?t8 ?a9 ?i9 ?l9 ?c9 ?k9 ?t9 ?a10 ?i10 ?l10 ?c10 ?k10 ?a11 ?i11 ?l11 ?c11 ?k11 ?t11 ?a12 ?i12 ?l12 ?c12 ?k12 ?a13 ?i13 ?l13 ?c13 ?k13 ?t13 ?a14 ?i14 ?l14 ?c14 ?k14 ?a15 ?i15 ?l15 ?c15 ?k15 ?a16 ?i16 ?l16 ?c16 ?k16 ?a17 ?i17 ?l17 ?c17 ?k17 ?a18 ?l18 ?c18 ?k18 ?a19 ?l19 ?c19 ?k19 ?a20 ?l20 ?c20 ?k20 ?a21 ?l21 ?c21 ?k21 ?a22 ?l22 ?c22 ?k22 ?a23 ?l23 ?c23 ?k23 ?a24 ?l24 ?c24 ?k24 ?a25 ?l25 ?c25 ?k25 ?a26 ?l26 ?c26 ?k26 ?a27 ?l27 ?c27 ?k27 ?a28 ?l28 ?c28 ?k28 ?a29 ?l29 ?c29 ?k29 ?a30 ?l30 ?c30 ?k30 ?a31 ?l31 ?c31 ?k31 ?a32 ?l32 ?c32 ?k32 ?a33 ?l33 ?c33 ?k33 ?a34 ?l34 ?c34 ?k34 ?a35 ?l35 ?c35 ?k35 ?a36 ?l36 ?c36 ?k36 ?a37 ?l37 ?c37 ?k37 ?a38 ?l38 ?c38 ?k38 ?zisinstance ?zstr ?zbool ?zlen ?zall ?zrange ?zint ?zlist ?zenumerate ?zset ?zabs ?zmax ?zmin ?gL ?gN ?gMP ?gMB ?ytP ?utP ?ytB ?utB ?ytO ?utO ?ysg ?usg ?yGr ?lGr ?kGr ?eG0 ?eG1 ?eG2 ?eG3 ?eG4 ?dga ?drd ?dfc ?h0_3 ?h0_4 ?h0_5 ?h0_6 ?h0_7 ?h1_3 ?h1_4 ?h1_5 ?h1_6 ?h1_7 ?h2_3 ?h2_4 ?h2_5 ?h2_6 ?h2_7 ?h3_3 ?h3_4 ?h3_5 ?h3_6 ?h3_7 ?h4_3 ?h4_4 ?h4_5 ?h4_6 ?h4_7 ?yCE ?xgt ?xtk ?yE0 ?ec0 ?ea0 ?en0 ?el0 ?eb0 ?eo0 ?xm0 ?ek0 ?xo0 ?yE1 ?ec1 ?ea1 ?en1 ?el1 ?eb1 ?eo1 ?xm1 ?ek1 ?xo1 ?yE2 ?ec2 ?ea2 ?en2 ?el2 ?eb2 ?eo2 ?xm2 ?ek2 ?es2 ?et2 ?xt2 ?ef2 ?eq2 ?yE3 ?ec3 ?ea3 ?en3 ?el3 ?eb3 ?eo3 ?xm3 ?ek3 ?es3 ?et3 ?xt3 ?ef3 ?eq3 ?em1_1 ?em2_1 ?em2_2 ?em0_1 ?em0_2 ?em0_0 ?em3_1 ?em3_2 ?em3_0 ?em3_3
    (case yCE => k_is)
    (case yE0 => k_is)
    (case yE1 => k_is)
    (case yE2 => k_is)
    (case yE3 => k_is)
    (case aD => k_is)
    (case pgD => k_is)
    (case hdD => k_is)
    (case poD => k_is)
    (case saD => k_is)
    (case mkD => k_is)
    (case kcD => k_is)
    (case aC0 => k_is)
    (case pgC0 => k_is)
    (case hdC0 => k_is)
    (case poC0 => k_is)
    (case saC0 => k_is)
    (case mkC0 => k_is)
    (case kcC0 => k_is)
    (case nC0_word => k_is)
    (case nC0_name => k_is)
    (case nC0_may_lack => k_is)
    (case aC1 => k_is)
    (case pgC1 => k_is)
    (case hdC1 => k_is)
    (case poC1 => k_is)
    (case saC1 => k_is)
    (case mkC1 => k_is)
    (case kcC1 => k_is)
    (case nC1_word => k_is)
    (case nC1_name => k_is)
    (case nC1_may_lack => k_is)
    (case aC2 => k_is)
    (case pgC2 => k_is)
    (case hdC2 => k_is)
    (case poC2 => k_is)
    (case saC2 => k_is)
    (case mkC2 => k_is)
    (case kcC2 => k_is)
    (case nC2_word => k_is)
    (case nC2_name => k_is)
    (case nC2_may_lack => k_is)
    (case aC3 => k_is)
    (case pgC3 => k_is)
    (case hdC3 => k_is)
    (case poC3 => k_is)
    (case saC3 => k_is)
    (case mkC3 => k_is)
    (case kcC3 => k_is)
    (case nC3_word => k_is)
    (case nC3_name => k_is)
    (case nC3_may_lack => k_is)
    (case aC4 => k_is)
    (case pgC4 => k_is)
    (case hdC4 => k_is)
    (case poC4 => k_is)
    (case saC4 => k_is)
    (case mkC4 => k_is)
    (case kcC4 => k_is)
    (case nC4_word => k_is)
    (case nC4_name => k_is)
    (case nC4_may_lack => k_is)
    (case aFM => k_is)
    (case pgFM => k_is)
    (case hdFM => k_is)
    (case poFM => k_is)
    (case saFM => k_is)
    (case mkFM => k_is)
    (case kcFM => k_is)
    (case nFM_row => k_is)
    (case nFM_bar_names => k_is)
    (case nFM_place_count => k_is)
    (case nFM_tail_number => k_is)
    (case nFM_bag_number => k_is)
    (case nFM_doors => k_is)
    (case a1 => k_is)
    (case l1 => k_is)
    (case c1 => k_is)
    (case k1 => k_is)
    (case a2 => k_is)
    (case i2 => k_is)
    (case l2 => k_is)
    (case c2 => k_is)
    (case k2 => k_is)
    (case a3 => k_is)
    (case i3 => k_is)
    (case l3 => k_is)
    (case c3 => k_is)
    (case k3 => k_is)
    (case a4 => k_is)
    (case i4 => k_is)
    (case l4 => k_is)
    (case c4 => k_is)
    (case k4 => k_is)
    (case a5 => k_is)
    (case i5 => k_is)
    (case l5 => k_is)
    (case c5 => k_is)
    (case k5 => k_is)
    (case a6 => k_is)
    (case i6 => k_is)
    (case l6 => k_is)
    (case c6 => k_is)
    (case k6 => k_is)
    (case a7 => k_is)
    (case i7 => k_is)
    (case l7 => k_is)
    (case c7 => k_is)
    (case k7 => k_is)
    (case a8 => k_is)
    (case i8 => k_is)
    (case l8 => k_is)
    (case c8 => k_is)
    (case k8 => k_is)
    (case t8 => k_is)
    (case a9 => k_is)
    (case i9 => k_is)
    (case l9 => k_is)
    (case c9 => k_is)
    (case k9 => k_is)
    (case t9 => k_is)
    (case a10 => k_is)
    (case i10 => k_is)
    (case l10 => k_is)
    (case c10 => k_is)
    (case k10 => k_is)
    (case a11 => k_is)
    (case i11 => k_is)
    (case l11 => k_is)
    (case c11 => k_is)
    (case k11 => k_is)
    (case t11 => k_is)
    (case a12 => k_is)
    (case i12 => k_is)
    (case l12 => k_is)
    (case c12 => k_is)
    (case k12 => k_is)
    (case a13 => k_is)
    (case i13 => k_is)
    (case l13 => k_is)
    (case c13 => k_is)
    (case k13 => k_is)
    (case t13 => k_is)
    (case a14 => k_is)
    (case i14 => k_is)
    (case l14 => k_is)
    (case c14 => k_is)
    (case k14 => k_is)
    (case a15 => k_is)
    (case i15 => k_is)
    (case l15 => k_is)
    (case c15 => k_is)
    (case k15 => k_is)
    (case a16 => k_is)
    (case i16 => k_is)
    (case l16 => k_is)
    (case c16 => k_is)
    (case k16 => k_is)
    (case a17 => k_is)
    (case i17 => k_is)
    (case l17 => k_is)
    (case c17 => k_is)
    (case k17 => k_is)
    (case a18 => k_is)
    (case l18 => k_is)
    (case c18 => k_is)
    (case k18 => k_is)
    (case a19 => k_is)
    (case l19 => k_is)
    (case c19 => k_is)
    (case k19 => k_is)
    (case a20 => k_is)
    (case l20 => k_is)
    (case c20 => k_is)
    (case k20 => k_is)
    (case a21 => k_is)
    (case l21 => k_is)
    (case c21 => k_is)
    (case k21 => k_is)
    (case a22 => k_is)
    (case l22 => k_is)
    (case c22 => k_is)
    (case k22 => k_is)
    (case a23 => k_is)
    (case l23 => k_is)
    (case c23 => k_is)
    (case k23 => k_is)
    (case a24 => k_is)
    (case l24 => k_is)
    (case c24 => k_is)
    (case k24 => k_is)
    (case a25 => k_is)
    (case l25 => k_is)
    (case c25 => k_is)
    (case k25 => k_is)
    (case a26 => k_is)
    (case l26 => k_is)
    (case c26 => k_is)
    (case k26 => k_is)
    (case a27 => k_is)
    (case l27 => k_is)
    (case c27 => k_is)
    (case k27 => k_is)
    (case a28 => k_is)
    (case l28 => k_is)
    (case c28 => k_is)
    (case k28 => k_is)
    (case a29 => k_is)
    (case l29 => k_is)
    (case c29 => k_is)
    (case k29 => k_is)
    (case a30 => k_is)
    (case l30 => k_is)
    (case c30 => k_is)
    (case k30 => k_is)
    (case a31 => k_is)
    (case l31 => k_is)
    (case c31 => k_is)
    (case k31 => k_is)
    (case a32 => k_is)
    (case l32 => k_is)
    (case c32 => k_is)
    (case k32 => k_is)
    (case a33 => k_is)
    (case l33 => k_is)
    (case c33 => k_is)
    (case k33 => k_is)
    (case a34 => k_is)
    (case l34 => k_is)
    (case c34 => k_is)
    (case k34 => k_is)
    (case a35 => k_is)
    (case l35 => k_is)
    (case c35 => k_is)
    (case k35 => k_is)
    (case a36 => k_is)
    (case l36 => k_is)
    (case c36 => k_is)
    (case k36 => k_is)
    (case a37 => k_is)
    (case l37 => k_is)
    (case c37 => k_is)
    (case k37 => k_is)
    (case a38 => k_is)
    (case l38 => k_is)
    (case c38 => k_is)
    (case k38 => k_is)
    (case zisinstance => k_is)
    (case zstr => k_is)
    (case zbool => k_is)
    (case zlen => k_is)
    (case zall => k_is)
    (case zrange => k_is)
    (case zint => k_is)
    (case zlist => k_is)
    (case zenumerate => k_is)
    (case zset => k_is)
    (case zabs => k_is)
    (case zmax => k_is)
    (case zmin => k_is)
    (case gL => k_is)
    (case gN => k_is)
    (case gMP => k_is)
    (case gMB => k_is)
    (case ytP => k_is)
    (case utP => k_is)
    (case ytB => k_is)
    (case utB => k_is)
    (case ytO => k_is)
    (case utO => k_is)
    (case ysg => k_is)
    (case usg => k_is)
    (case yGr => k_is)
    (case lGr => k_is)
    (case kGr => k_keys)
    (case eG0 => k_is)
    (case eG1 => k_is)
    (case eG2 => k_is)
    (case eG3 => k_is)
    (case eG4 => k_is)
    (case dga => k_is)
    (case drd => k_is)
    (case dfc => k_is)
    (case h0_3 => k_is)
    (case h0_4 => k_is)
    (case h0_5 => k_is)
    (case h0_6 => k_is)
    (case h0_7 => k_is)
    (case h1_3 => k_is)
    (case h1_4 => k_is)
    (case h1_5 => k_is)
    (case h1_6 => k_is)
    (case h1_7 => k_is)
    (case h2_3 => k_is)
    (case h2_4 => k_is)
    (case h2_5 => k_is)
    (case h2_6 => k_is)
    (case h2_7 => k_is)
    (case h3_3 => k_is)
    (case h3_4 => k_is)
    (case h3_5 => k_is)
    (case h3_6 => k_is)
    (case h3_7 => k_is)
    (case h4_3 => k_is)
    (case h4_4 => k_is)
    (case h4_5 => k_is)
    (case h4_6 => k_is)
    (case h4_7 => k_is)
    (case xgt => k_is)
    (case xtk => k_is)
    (case ec0 => first | kernel_rfl | exact rfl)
    (case ea0 => k_is)
    (case en0 => k_is)
    (case el0 => k_is)
    (case eb0 => k_is)
    (case eo0 => k_is)
    (case xm0 => first | kernel_rfl | exact rfl)
    (case ek0 => k_is)
    (case xo0 => k_exc)
    (case ec1 => first | kernel_rfl | exact rfl)
    (case ea1 => k_is)
    (case en1 => k_is)
    (case el1 => k_is)
    (case eb1 => k_is)
    (case eo1 => k_is)
    (case xm1 => first | kernel_rfl | exact rfl)
    (case ek1 => k_is)
    (case xo1 => k_exc)
    (case ec2 => first | kernel_rfl | exact rfl)
    (case ea2 => k_is)
    (case en2 => k_is)
    (case el2 => k_is)
    (case eb2 => k_is)
    (case eo2 => k_is)
    (case xm2 => first | kernel_rfl | exact rfl)
    (case ek2 => k_is)
    (case es2 => k_is)
    (case et2 => k_is)
    (case xt2 => first | kernel_rfl | exact rfl)
    (case ef2 => k_is)
    (case eq2 => k_is)
    (case ec3 => first | kernel_rfl | exact rfl)
    (case ea3 => k_is)
    (case en3 => k_is)
    (case el3 => k_is)
    (case eb3 => k_is)
    (case eo3 => k_is)
    (case xm3 => first | kernel_rfl | exact rfl)
    (case ek3 => k_is)
    (case es3 => k_is)
    (case et3 => k_is)
    (case xt3 => first | kernel_rfl | exact rfl)
    (case ef3 => k_is)
    (case eq3 => k_is)
    (case em1_1 => kts_exm)
    (case em2_1 => kts_exm)
    (case em2_2 => kts_exm)
    (case em0_1 => kts_exm)
    (case em0_2 => kts_exm)
    (case em0_0 => kts_exm)
    (case em3_1 => kts_exm)
    (case em3_2 => kts_exm)
    (case em3_0 => kts_exm)
    (case em3_3 => kts_exm)
#print axioms PySem.Challenge.cw_callbinds_k16_whole_forms_one_step_besid_holds
