import PyProof.Rows.All
import Wide.All
import OpenK.AllK
import Wide.FinOn
import Lean
import PyProof.EqAt
import PyProof.EqKinds
import PyProof.TupleCall
import KE.KTryMore
import PyProof.ExcAttrAll.ValueError
import KE.KRevIter
import PyProof.SetNew
import PyProof.SetRoads
import PyProof.Rows.SetObj
import PyProof.DictCompW
import PyProof.DictItems
import PyProof.Rows.SetFrom
import PyProof.ListRange
import KE.RegKIsAll
import KE.RegKTryMore
import PySem.Challenge.RW_callbinds_k15_refusals
set_option Elab.async false
set_option linter.all false
set_option maxRecDepth 100000
/-! THE HAND LAYER, for ints, bools, texts, own classes, LISTS and tuples (index, slices, in, append, pop ..), calls, loops. Paste it whole ahead of your own text; what your proof does not reach may be deleted. -/
namespace L2
open PySem PySem.Spec PyProof.Rows

/-- a key: an int or a str -/
abbrev Key := Sum Int Str
def keyIs : Key → Value → Bool
  | .inl k, v => Value.isInt k v
  | .inr x, v => Value.isStrOf x v
def keyH (w : World) : Key → Int
  | .inl k => hashInt k
  | .inr x => hashStr w x
theorem keyIs_shape : ∀ {k : Key} {v : Value}, keyIs k v = true → (∃ i t, k = Sum.inl i ∧ v = Value.int i t) ∨ (∃ x t, k = Sum.inr x ∧ v = Value.str x t)
  | .inl i, v, h => by
    obtain ⟨t, e⟩ := Value.isInt_shape (k := i) (v := v) h
    exact .inl ⟨i, t, rfl, e⟩
  | .inr x, v, h => by
    obtain ⟨t, e⟩ := Value.isStrOf_shape (x := x) (v := v) h
    exact .inr ⟨x, t, rfl, e⟩
theorem key_ll (a b : Int) : decide ((Sum.inl a : Key) = Sum.inl b) = (a == b) := by
  by_cases e : a = b
  · subst e; simp
  · have h : ¬ (Sum.inl a : Key) = Sum.inl b := fun q => e (Sum.inl.inj q)
    rw [decide_eq_false h]
    exact (beq_eq_false_iff_ne.mpr e).symm
theorem key_rr (a b : Str) : decide ((Sum.inr a : Key) = Sum.inr b) = decide (a = b) := by
  by_cases e : a = b
  · subst e; simp
  · have h : ¬ (Sum.inr a : Key) = Sum.inr b := fun q => e (Sum.inr.inj q)
    rw [decide_eq_false h, decide_eq_false e]
theorem key_lr (a : Int) (b : Str) : decide ((Sum.inl a : Key) = Sum.inr b) = false := decide_eq_false (fun q => nomatch q)
theorem key_rl (a : Str) (b : Int) : decide ((Sum.inr a : Key) = Sum.inl b) = false := decide_eq_false (fun q => nomatch q)

def mixKind (prog : Program) (w : World) : PySem.KeyKind prog w Key where
  is := keyIs
  hash := keyH w
  inj := fun v a b ha hb => by
    rcases keyIs_shape ha with ⟨i, t, rfl, rfl⟩ | ⟨x, t, rfl, rfl⟩
    · rcases keyIs_shape hb with ⟨j, u, rfl, e⟩ | ⟨y, u, rfl, e⟩
      · injection e with e1 _; rw [e1]
      · exact nomatch e
    · rcases keyIs_shape hb with ⟨j, u, rfl, e⟩ | ⟨y, u, rfl, e⟩
      · exact nomatch e
      · injection e with e1 _; rw [e1]
  byValue := fun k v h => by
    rcases keyIs_shape h with ⟨i, t, rfl, rfl⟩ | ⟨x, t, rfl, rfl⟩ <;> rfl
  pyHash := fun hv h => by
    rcases keyIs_shape hv with ⟨i, t, rfl, rfl⟩ | ⟨x, t, rfl, rfl⟩
    · exact wpAny_pyHash_int h
    · exact wpAny_pyHash_str h
  eqBool := fun hu hv h => by
    rcases keyIs_shape hu with ⟨i, t, rfl, rfl⟩ | ⟨x, t, rfl, rfl⟩
    · rcases keyIs_shape hv with ⟨j, u, rfl, rfl⟩ | ⟨y, u, rfl, rfl⟩
      · rw [key_ll] at h; exact wpAny_eqBool_int h
      · rw [key_lr] at h; exact SeqAt.EqAt.int_str i t y u _ _ _ _ h
    · rcases keyIs_shape hv with ⟨j, u, rfl, rfl⟩ | ⟨y, u, rfl, rfl⟩
      · rw [key_rl] at h; exact SeqAt.EqAt.str_int x t j u _ _ _ _ h
      · rw [key_rr] at h; exact wpAny_eqBool_str h
  «strs» := fun k x t v h => by
    rcases keyIs_shape h with ⟨i, u, rfl, e⟩ | ⟨y, u, rfl, e⟩
    · exact nomatch e
    · injection e with e1 _
      subst e1
      cases v <;> rfl

end L2

namespace L2
open PySem PySem.Spec PyProof.Rows

/-- a value, without the heap -/
inductive V where
  | non | bl (b : Bool) | int (i : Int) | str (x : Str) | byt (b : Array UInt8) | flt (b : UInt64) | ref (a : Addr) | ty (n : String)
  deriving DecidableEq

def RelV : V → Value → Prop
  | .non, u => u = Value.none
  | .bl b, u => u = Value.bool b
  | .int i, u => ∃ t, u = Value.int i t
  | .str x, u => ∃ t, u = Value.str x t
  | .byt b, u => ∃ t, u = Value.bytes b t
  | .flt b, u => ∃ t, u = Value.float b t
  | .ref a, u => u = Value.ref a
  | .ty n, u => u = Value.type n

abbrev Vals : List V → List Value → Prop := Paired RelV
theorem Vals.length {xs : List V} {us : List Value} (r : Vals xs us) : xs.length = us.length := Paired.length r
theorem Vals.get : ∀ {xs : List V} {us : List Value} {i : Nat} {x : V}, Vals xs us → xs[i]? = some x → ∃ u, us[i]? = some u ∧ RelV x u
  | _, _, _, _, .nil, e => by simp at e
  | _, _, 0, _, .cons r _, e => by simp at e; subst e; exact ⟨_, rfl, r⟩
  | _, _, i + 1, x, .cons _ t, e => by
    obtain ⟨u, h1, h2⟩ := Vals.get (i := i) (x := x) t (by simpa using e)
    exact ⟨u, by simpa using h1, h2⟩
theorem Vals.append : ∀ {xs ys : List V} {us ws : List Value}, Vals xs us → Vals ys ws → Vals (xs ++ ys) (us ++ ws)
  | _, _, _, _, .nil, s => s
  | _, _, _, _, .cons r t, s => .cons r (Vals.append t s)
def RelO : Option V → Option Value → Prop
  | some v, some u => RelV v u
  | none, none => True
  | _, _ => False
def KV {κ : Type} : List (κ × V) → List (κ × Value) → Prop := Paired fun (p : κ × V) (q : κ × Value) => p.1 = q.1 ∧ RelV p.2 q.2

/-- a key of a dict (00_mix): an int or a text -/
def kV : Key → V
  | .inl i => .int i
  | .inr x => .str x

/-- what stands at a tracked address -/
inductive HO where
  /-- a list -/
  | lst (xs : List V)
  /-- a tuple (never changes) -/
  | tup (xs : List V)
  /-- a dict whose keys are ints and texts; one whose keys are tuples of ints and texts (the empty one is both) -/
  | dK (kvs : List (Key × V)) | dT (kvs : List (List Key × V))
  /-- a set of ints: its members, its size -/
  | set (S : Int → Bool) (n : Nat)
  /-- an instance of the class at C, its dict at dx, its attributes -/
  | ins (C dx : Addr) (fs : List (Str × V))
  /-- the dict of the instance at x -/
  | own (x : Addr)
  /-- the dict of an exception -/
  | xd (fs : List (Str × V))
  /-- a bound method, f of x -/
  | met (f x : Addr)
  /-- a range object lo, lo + 1, .. below hi -/
  | rng (lo hi : Int)
  /-- a thing that is known to the object (the script; a dict while a loop walks it): read, never written while it is so -/
  | frz (o : Obj) (u : HO)
  /-- a code object's table -/
  | tbl (ps : Array Value)
  /-- any other thing, by what is true of its one object (a def of one's own: SetO a S n := HO.ext fun h => ..) -/
  | ext (φ : Heap → Prop)

abbrev Hp := Addr → Option HO
def upd (H : Hp) (a : Addr) (o : HO) : Hp := fun b => if b = a then some o else H b
theorem upd_same {H : Hp} {a : Addr} {o : HO} : upd H a o a = some o := by unfold upd; rw [if_pos rfl]
theorem upd_ne {H : Hp} {a b : Addr} {o : HO} (h : b ≠ a) : upd H a o b = H b := by unfold upd; rw [if_neg h]
theorem upd_upd {H : Hp} {a : Addr} {o u : HO} : upd (upd H a o) a u = upd H a u := by
  funext b; unfold upd; split <;> rfl
theorem ne_of_none {H : Hp} {a b : Addr} {o : HO} (h : H a = some o) (h' : H b = none) : a ≠ b := by
  intro e; subst e; rw [h] at h'; cases h'

section
variable (P : Program) (w : World)
def ObjOk (H : Hp) (h : Heap) (a : Addr) : HO → Prop
  | .lst xs => xs.length ≤ sizeLine ∧ ∃ (its : List Value) (n : Nat), Vals xs its ∧ h.get? a = some { cls := .type "list", data := .seq its.toArray n }
  | .tup xs => xs.length ≤ sizeLine ∧ ∃ its : List Value, Vals xs its ∧ IsTup h a its.toArray
  | .dK kvs => kvs.length ≤ sizeLine ∧ (a == sysModules) = false ∧ ∃ vs, KV kvs vs ∧ h.DictOf (mixKind P w) a vs
  | .dT kvs => kvs.length ≤ sizeLine ∧ (a == sysModules) = false ∧ ∃ xs : List (List Key × Addr × Value),
      Paired (fun (p : List Key × V) (q : List Key × Addr × Value) => p.1 = q.1 ∧ H q.2.1 = some (.tup (p.1.map kV)) ∧ RelV p.2 q.2.2) kvs xs ∧
      ∃ o es ep, h.get? a = some o ∧ o.ExactDict ∧ o.data = .dict es ep ∧ es.toList = xs.map (entryOfKey (tupleKind (mixKind P w))) ∧ (xs.map (·.1)).Nodup
  | .set S n => h.SetOf (intKind P w) a S n
  | .ins C dx fs => H dx = some (.own a) ∧ fs.length ≤ 1000 ∧ dx ≠ a ∧ h.get? a = some (PySem.W.instObj C dx) ∧
      ∃ mA, h.Ns1 dx mA ∧ (∀ f, RelO (fs.lookup f) (mA f)) ∧ PySem.Within mA (fs.map (·.1))
  | .own _ => ∃ o, h.get? a = some o
  | .xd fs => ∃ mA, h.Ns1 a mA ∧ ∀ f, RelO (fs.lookup f) (mA f)
  | .rng lo hi => ∃ t u v, h.get? a = some { cls := .type "range", data := .fields #[.int lo t, .int hi u, .int 1 v] }
  | .frz o u => h.get? a = some o ∧ ObjOk H h a u
  | .tbl ps => h.get? a = some { cls := .none, data := .fields ps }
  | .met f x => h.get? a = some (PySem.W.methodObj (.ref f) (.ref x))
  | .ext φ => φ h ∧ (∃ o, h.get? a = some o) ∧ ∀ h1 h2 : Heap, φ h1 → (∀ o, h1.get? a = some o → h2.get? a = some o) → φ h2
/-- the abstract heap is held -/
def HOk (H : Hp) (h : Heap) : Prop := ∀ a o, H a = some o → ObjOk P w H h a o
end

section
variable {P : Program} {w : World} {H H' : Hp} {h h' : Heap} {a : Addr} {o : HO}
theorem ObjOk.lt (x : ObjOk P w H h a o) : a < h.objs.size := by
  cases o with
  | lst xs => obtain ⟨_, _, _, _, e⟩ := x; exact Heap.lt_size e
  | tup xs => obtain ⟨_, _, _, p⟩ := x; exact p.lt
  | dK kvs => obtain ⟨_, _, _, _, o, _, _, e, _⟩ := x; exact Heap.lt_size e
  | dT kvs => obtain ⟨_, _, _, _, o, _, _, e, _⟩ := x; exact Heap.lt_size e
  | set S n => obtain ⟨o, _, _, _, e, _⟩ := x; exact Heap.lt_size e
  | ins C dx fs => obtain ⟨_, _, _, e, _⟩ := x; exact Heap.lt_size e
  | own y => obtain ⟨_, e⟩ := x; exact Heap.lt_size e
  | xd fs => obtain ⟨_, ⟨_, _, _, e, _⟩, _⟩ := x; exact Heap.lt_size e
  | rng lo hi => obtain ⟨_, _, _, e⟩ := x; exact Heap.lt_size e
  | frz ob u => obtain ⟨e, _⟩ := x; exact Heap.lt_size e
  | tbl ps => exact Heap.lt_size (show h.get? a = some _ from x)
  | met f y => exact Heap.lt_size (show h.get? a = some _ from x)
  | ext φ => obtain ⟨_, ⟨_, e⟩, _⟩ := x; exact Heap.lt_size e
theorem Paired.mapP {α β : Type} {F G : α → β → Prop} : ∀ {l₁ : List α} {l₂ : List β}, Paired F l₁ l₂ → (∀ a b, F a b → G a b) → Paired G l₁ l₂
  | _, _, .nil, _ => .nil
  | _, _, .cons r t, f => .cons (f _ _ r) (Paired.mapP t f)
theorem Paired.imp' {α β : Type} {F G : α → β → Prop} (f : ∀ a b, F a b → G a b) {l₁ : List α} {l₂ : List β} (r : Paired F l₁ l₂) : Paired G l₁ l₂ := Paired.mapP r f
/-- what an object's description leans on: its own object, its own dict, the tuples -/
theorem ObjOk.stay (x : ObjOk P w H h a o) (k : ∀ b u, (b = a ∨ H b = some (.own a)) → h.get? b = some u → h'.get? b = some u)
    (ho : ∀ b, H b = some (.own a) → H' b = some (.own a)) (ht : ∀ b xs, H b = some (.tup xs) → H' b = some (.tup xs)) : ObjOk P w H' h' a o := by
  induction o with
  | lst xs => obtain ⟨z, its, n, r, e⟩ := x; exact ⟨z, its, n, r, k _ _ (.inl rfl) e⟩
  | tup xs => obtain ⟨z, its, r, ob, e, c⟩ := x; exact ⟨z, its, r, ob, k _ _ (.inl rfl) e, c⟩
  | dK kvs => obtain ⟨z, y, vs, r, ob, es, ep, e, c⟩ := x; exact ⟨z, y, vs, r, ob, es, ep, k _ _ (.inl rfl) e, c⟩
  | dT kvs =>
    obtain ⟨z, y, xs, r, ob, es, ep, e, c⟩ := x
    exact ⟨z, y, xs, Paired.mapP r fun p q z => ⟨z.1, ht _ _ z.2.1, z.2.2⟩, ob, es, ep, k _ _ (.inl rfl) e, c⟩
  | set S n => obtain ⟨ob, es, ep, t, e, c⟩ := x; exact ⟨ob, es, ep, t, k _ _ (.inl rfl) e, c⟩
  | ins C dx fs =>
    obtain ⟨d, z, ne, e, mA, ⟨od, es, ep, e2, c⟩, r⟩ := x
    exact ⟨ho _ d, z, ne, k _ _ (.inl rfl) e, mA, ⟨od, es, ep, k _ _ (.inr d) e2, c⟩, r⟩
  | own y => obtain ⟨ob, e⟩ := x; exact ⟨ob, k _ _ (.inl rfl) e⟩
  | xd fs => obtain ⟨mA, ⟨od, es, ep, e, c⟩, r⟩ := x; exact ⟨mA, ⟨od, es, ep, k _ _ (.inl rfl) e, c⟩, r⟩
  | rng lo hi => obtain ⟨t, u, v, e⟩ := x; exact ⟨t, u, v, k _ _ (.inl rfl) e⟩
  | frz ob u ih => obtain ⟨e, q⟩ := x; exact ⟨k _ _ (.inl rfl) e, ih q⟩
  | tbl ps =>
    have e : h.get? a = some { cls := .none, data := .fields ps } := x
    show h'.get? a = some { cls := .none, data := .fields ps }
    exact k a _ (.inl rfl) e
  | met f y =>
    have e : h.get? a = some (PySem.W.methodObj (.ref f) (.ref y)) := x
    show h'.get? a = some (PySem.W.methodObj (.ref f) (.ref y))
    exact k a _ (.inl rfl) e
  | ext φ => obtain ⟨p, ⟨o, e⟩, st⟩ := x; exact ⟨st _ _ p fun o q => k _ _ (.inl rfl) q, ⟨o, k _ _ (.inl rfl) e⟩, st⟩
theorem HOk.lt (x : HOk P w H h) (e : H a = some o) : a < h.objs.size := (x a o e).lt
theorem HOk.fresh (x : HOk P w H h) (e : h.objs.size ≤ a) : H a = none := by
  cases q : H a with
  | none => rfl
  | some u => exact absurd (Nat.lt_of_lt_of_le (x.lt q) e) (Nat.lt_irrefl _)
/-- every object of the heap is kept -/
theorem HOk.kept (x : HOk P w H h) (k : ∀ b u, h.get? b = some u → h'.get? b = some u) : HOk P w H h' := fun a o e =>
  (x a o e).stay (fun b u _ q => k b u q) (fun _ q => q) fun _ _ q => q
/-- a new object is laid and tracked -/
theorem HOk.laid (x : HOk P w H h) (k : ∀ b u, h.get? b = some u → h'.get? b = some u) (hp : h.objs.size ≤ a) (new : ObjOk P w (upd H a o) h' a o) : HOk P w (upd H a o) h' := fun b u e => by
  have hn := x.fresh hp
  by_cases hb : b = a
  · subst hb; rw [upd_same] at e; cases e; exact new
  · rw [upd_ne hb] at e
    exact (x b u e).stay (fun c v _ q => k c v q) (fun c q => by rw [upd_ne (ne_of_none q hn)]; exact q) fun c xs q => by rw [upd_ne (ne_of_none q hn)]; exact q
end

/-- what may be read as u: it is u, or a known u -/
def Rd (H : Hp) (a : Addr) (u : HO) : Prop := H a = some u ∨ ∃ o, H a = some (.frz o u)
theorem Rd.ok {P : Program} {w : World} {H : Hp} {h : Heap} {a : Addr} {u : HO} (r : Rd H a u) (x : HOk P w H h) : ObjOk P w H h a u := by
  rcases r with r | ⟨o, r⟩
  · exact x a u r
  · obtain ⟨_, q⟩ := x a _ r
    exact q
/-- what may be written -/
def Mut : Option HO → Prop
  | some (.lst _) => True
  | some (.dK _) => True
  | some (.dT _) => True
  | some (.set _ _) => True
  | some (.ins _ _ _) => True
  | some (.ext _) => True
  | _ => False
section
variable {P : Program} {w : World} {H : Hp} {h h' : Heap} {x e : Addr} {o' : HO}
/-- the object at e is changed: x itself, or the dict of the instance x -/
theorem HOk.write (ok : HOk P w H h) (mu : Mut (H x)) (he : e = x ∨ H e = some (.own x)) (k : ∀ b u, b ≠ e → h.get? b = some u → h'.get? b = some u) (heo : ∃ u, h'.get? e = some u)
    (new : ObjOk P w (upd H x o') h' x o') : HOk P w (upd H x o') h' := fun b u q => by
  have nown : ∀ c y, H c = some (.own y) → c ≠ x := fun c y r z => by subst z; rw [r] at mu; exact mu
  have ntup : ∀ c xs, H c = some (.tup xs) → c ≠ x := fun c xs r z => by subst z; rw [r] at mu; exact mu
  by_cases hb : b = x
  · subst hb; rw [upd_same] at q; cases q; exact new
  · rw [upd_ne hb] at q
    by_cases hbe : b = e
    · have q' : H b = some (.own x) := by
        rcases he with z | z
        · exact absurd (hbe.trans z) hb
        · rw [hbe]; exact z
      rw [q] at q'; cases q'
      obtain ⟨v, hv⟩ := heo
      exact ⟨v, by rw [hbe]; exact hv⟩
    · refine (ok b u q).stay (fun c v hc r => k c v ?_ r) (fun c r => by rw [upd_ne (nown c b r)]; exact r) fun c xs r => by rw [upd_ne (ntup c xs r)]; exact r
      rcases hc with rfl | hc
      · exact hbe
      · rintro rfl
        rcases he with z | z
        · exact nown c b hc z
        · rw [hc] at z; cases z; exact hb rfl
end

/-! ### kept unless tracked; of the frames at fs (the callers') the slots may change (an exception that passes writes there); of the records at ex (iterators) nothing is said -/
structure Un (fs ex : List Addr) (H H' : Hp) (h h' : Heap) : Prop where
  keep : ∀ b o, h.get? b = some o → H b = none → b ∉ fs → b ∉ ex → h'.get? b = some o
  slot : ∀ b o, h.get? b = some o → H b = none → b ∈ fs → b ∉ ex → ∃ sl, h'.get? b = some { o with slots := sl }
  free : ∀ b o, h.get? b = some o → H b = none → b ∉ ex → H' b = none
  there : ∀ b o, h.get? b = some o → b ∉ ex → ∃ o', h'.get? b = some o'
  tups : ∀ b xs, H b = some (.tup xs) → H' b = some (.tup xs)
  frzs : ∀ b o u, H b = some (.frz o u) → H' b = some (.frz o u)
  tbls : ∀ b ps, H b = some (.tbl ps) → ∃ more, H' b = some (.tbl (ps ++ more))
section
variable {fs fs' ex ex' : List Addr} {H H1 H2 : Hp} {h h1 h2 h' : Heap} {a x e : Addr} {o : HO}
theorem Un.any (u : Un fs ex H H1 h h1) {b : Addr} {ob : Obj} (q : h.get? b = some ob) (n : H b = none) (hx : b ∉ ex) : ∃ sl, h1.get? b = some { ob with slots := sl } := by
  by_cases hb : b ∈ fs
  · exact u.slot b ob q n hb hx
  · exact ⟨ob.slots, u.keep b ob q n hb hx⟩
theorem Un.kept (k : ∀ b u, h.get? b = some u → h'.get? b = some u) : Un fs ex H H h h' :=
  ⟨fun b ob q _ _ _ => k b ob q, fun b ob q _ _ _ => ⟨ob.slots, k b ob q⟩, fun _ _ _ n _ => n, fun b ob q _ => ⟨ob, k b ob q⟩, fun _ _ q => q, fun _ _ _ q => q, fun _ ps q => ⟨#[], by rw [q]; simp⟩⟩
theorem Un.refl : Un fs ex H H h h := Un.kept fun _ _ q => q
theorem Un.laid (k : ∀ b u, h.get? b = some u → h'.get? b = some u) (hp : h.objs.size ≤ a) (hn : H a = none) : Un fs ex H (upd H a o) h h' where
  keep := fun b u q _ _ _ => k b u q
  slot := fun b u q _ _ _ => ⟨u.slots, k b u q⟩
  free := fun b u q n _ => by rw [upd_ne (Nat.ne_of_lt (Nat.lt_of_lt_of_le (Heap.lt_size q) hp))]; exact n
  there := fun b u q _ => ⟨u, k b u q⟩
  tups := fun b xs q => by rw [upd_ne (ne_of_none q hn)]; exact q
  frzs := fun b u xs q => by rw [upd_ne (ne_of_none q hn)]; exact q
  tbls := fun b ps q => ⟨#[], by rw [upd_ne (ne_of_none q hn), q]; simp⟩
theorem Un.write (mu : Mut (H x)) (he : e = x ∨ H e = some (.own x)) (k : ∀ b u, b ≠ e → h.get? b = some u → h'.get? b = some u) (heo : ∃ u, h'.get? e = some u) : Un fs ex H (upd H x o) h h' := by
  have hx : ∀ b, H b = none → b ≠ x := fun b n z => by subst z; rw [n] at mu; exact mu
  have hb : ∀ b, H b = none → b ≠ e := fun b n z => by
    subst z
    rcases he with r | r
    · exact hx b n r
    · rw [n] at r; cases r
  have hm : ∀ b u, H b = some u → ¬ Mut (some u) → b ≠ x := fun b u q nm z => by subst z; rw [q] at mu; exact nm mu
  refine ⟨fun b u q n _ _ => k b u (hb b n) q, fun b u q n _ _ => ⟨u.slots, k b u (hb b n) q⟩, fun b u q n _ => by rw [upd_ne (hx b n)]; exact n, fun b u q _ => ?_,
    fun b xs q => by rw [upd_ne (hm b _ q fun z => z)]; exact q, fun b u xs q => by rw [upd_ne (hm b _ q fun z => z)]; exact q, fun b ps q => ⟨#[], by rw [upd_ne (hm b _ q fun z => z), q]; simp⟩⟩
  by_cases hbe : b = e
  · subst hbe; exact heo
  · exact ⟨u, k b u hbe q⟩
end

/-! ### the heap without what is tracked -/
def trk (h : Heap) (H : Hp) : List Addr := (List.range h.objs.size).filter fun a => (H a).isSome
def hidT (h : Heap) (H : Hp) : Heap := PySem.W.hideAll h (trk h H)
theorem hidT_size (h : Heap) (H : Hp) : (hidT h H).objs.size = h.objs.size := PySem.W.hideAll_size _ _
theorem hidT_get {h : Heap} {H : Hp} {b : Addr} {o : Obj} (e : h.get? b = some o) (n : H b = none) : (hidT h H).get? b = some o :=
  PySem.W.hideAll_get _ e fun hm => by
    have q : (H b).isSome = true := (List.mem_filter.mp hm).2
    rw [n] at q; simp at q
theorem of_hidT {h : Heap} {H : Hp} {b : Addr} {o : Obj} (e : (hidT h H).get? b = some o) : h.get? b = some o ∧ H b = none := by
  have e' : h.get? b = some o := PySem.W.of_hideAll (trk h H) e
  refine ⟨e', ?_⟩
  cases q : H b with
  | none => rfl
  | some x =>
    have hm : b ∈ trk h H := List.mem_filter.mpr ⟨List.mem_range.mpr (Heap.lt_size e'), by simp [q]⟩
    have z : (hidT h H).get? b = none := PySem.W.hideAll_none (trk h H) hm
    rw [z] at e; cases e

/-! ### OpenK's ledger, filled with every new object but one -/
def allNews (g h : Heap) (L : Addr) : List (Addr × Obj) := (List.range h.objs.size).filterMap fun a => if a = L ∨ (g.get? a).isSome = true then none else (h.get? a).map fun o => (a, o)
def rest (g h : Heap) (L d : Addr) : List (Addr × Obj) := (allNews g h L).filter fun p => decide (p.1 ≠ d)
end L2

namespace L2
open PySem PySem.Spec PyProof.Rows

/-- the module's facts, over the base: the heap at the law's entry without what is tracked there -/
structure Mod (K : PySem.W.Frag) (mg : Str → Option Value) (base : Heap) : Prop where
  kin : K.In base
  glob : base.Ns mainGlobals mg
  blt : ∃ mb, base.Ns builtinsNs mb ∧ ∀ x : Str, x ≠ "__name__" → mb x = bootBuiltins x
  nolimit : base.NoLimit

/-- the context: a def's body (or a comprehension's block) running. base: fixed through the whole law; s₀, H₀: the entry; outer: the frames whose slots others may change (a def's callers); stack: all frames that run;
   ex: iterators that were made ahead of the entry and are walked here (a comprehension's); fn: the names whose cells were made at the entry (a def: all; a comprehension's block: its own); calm: not within an except suite; pn: pins that every state bears; xe: what is wanted of an exception that leaves the code -/
structure Cx where
  prog : Program
  w : World
  K : PySem.W.Frag
  mg : Str → Option Value
  base : Heap
  A : Around
  N : List Str
  s₀ : Shared
  H₀ : Hp
  env : Env
  outer : List Env
  stack : List Env
  ex : List Addr
  fn : Str → Bool
  calm : Bool
  pn : List (Addr × Obj)
  xe : Value → Shared → Prop
/-- the callers' frames -/
def frs (l : List Env) : List Addr := l.filterMap (·.frame)
abbrev Cx.fs (X : Cx) : List Addr := frs X.outer

def Vis (sc : Scope) (x : Str) : Prop := sc.names.lookup x = some .local ∨ sc.names.lookup x = some .cell ∨ sc.names.lookup x = some .free
def Loc (sc : Scope) (x : Str) : Prop := sc.names.lookup x = some .local ∨ sc.names.lookup x = some .cell
def Look (env : Env) (h : Heap) (m : Str → Option Value) (x : Str) (u : Value) : Prop :=
  (env.kindOf x = some .local ∧ m x = some u) ∨ ((env.kindOf x = some .cell ∨ env.kindOf x = some .free) ∧ ∃ c, env.cells.lookup x = some c ∧ h.IsCell c (some u))

structure Cx.Ok (X : Cx) : Prop where
  mod : Mod X.K X.mg X.base
  kind : X.env.scope.kind = .function
  glob : X.env.globals = mainGlobals
  blt : X.env.builtins = builtinsNs
  above : X.s₀.heap.objs.size ≤ X.env.locals
  inj : ∀ x y c, X.env.cells.lookup x = some c → X.env.cells.lookup y = some c → x = y
  has : ∀ x, (X.env.kindOf x = some .cell ∨ X.env.kindOf x = some .free) → ∃ c, X.env.cells.lookup x = some c
  cab : ∀ x c, X.fn x = true → X.env.cells.lookup x = some c → X.s₀.heap.objs.size ≤ c
  hd : X.calm = true → X.A.handled = none
  frames : X.A.frames = some X.stack
  stk : X.stack = X.outer ∨ (X.stack = X.env :: X.outer ∧ X.env.frame = some X.env.locals)
  exf : ∀ b ∈ X.ex, b ≠ X.env.locals ∧ ∀ x c, X.env.cells.lookup x = some c → c ≠ b
  bs : ∀ b o, X.base.get? b = some o → X.s₀.heap.get? b = some o ∧ X.H₀ b = none
  bsz : X.base.objs.size ≤ X.s₀.heap.objs.size
  noex : ∀ b o, X.base.get? b = some o → b ∉ X.ex
  exfs : ∀ b ∈ X.ex, b ∉ X.fs
  funs : X.s₀.heap.FunFrames X.base X.outer
  frf : ∀ b ∈ X.fs, X.H₀ b = none

structure Inv (X : Cx) (pins : List (Addr × Obj)) (σ : List (Option V)) (H : Hp) (s : Shared) : Prop where
  ok : X.Ok
  os : s.os = X.s₀.os
  bare : AllBare s.gens
  base : Un X.fs X.ex X.H₀ H X.s₀.heap s.heap
  loc : ∃ m, s.heap.Ns X.env.locals m ∧ ∀ (i : Nat) (x : Str) (v : V), X.N[i]? = some x → σ[i]? = some (some v) → Vis X.env.scope x → ∃ u, RelV v u ∧ Look X.env s.heap m x u
  cell : ∀ x c, X.env.cells.lookup x = some c → ∃ v, s.heap.IsCell c v
  free : H X.env.locals = none
  freeC : ∀ x c, X.env.cells.lookup x = some c → H c = none
  pin : ∀ p ∈ X.pn ++ pins, s.heap.get? p.1 = some p.2 ∧ H p.1 = none ∧ p.1 ≠ X.env.locals ∧ p.1 ∉ X.fs ∧ ∀ v, p.2.data ≠ .cell v
  hok : HOk X.prog X.w H s.heap
  len : σ.length = X.N.length

section
variable {X : Cx} {pins : List (Addr × Obj)} {σ : List (Option V)} {H H' : Hp} {s : Shared} {h' : Heap}

theorem Cx.Ok.nofr (ok : X.Ok) {b : Addr} {o : Obj} (e : X.base.get? b = some o) : b ∉ X.fs := fun hb => by
  have := (ok.funs.mem hb).1
  rw [e] at this; cases this
theorem Inv.bs (I : Inv X pins σ H s) : ∀ b o, X.base.get? b = some o → s.heap.get? b = some o ∧ H b = none := fun b o e =>
  ⟨I.base.keep b o (I.ok.bs b o e).1 (I.ok.bs b o e).2 (I.ok.nofr e) (I.ok.noex b o e), I.base.free b o (I.ok.bs b o e).1 (I.ok.bs b o e).2 (I.ok.noex b o e)⟩
theorem Inv.bk (I : Inv X pins σ H s) : ∀ b o, X.base.get? b = some o → s.heap.get? b = some o := fun b o e => (I.bs b o e).1
theorem Inv.mod (I : Inv X pins σ H s) : Mod X.K X.mg X.base := I.ok.mod
theorem Inv.kIn (I : Inv X pins σ H s) : X.K.In s.heap := I.ok.mod.kin.keeps I.bk
/-- the frame over the base: for OpenK's rules (K.In X.base is I.mod.kin) -/
theorem Inv.fr (I : Inv X pins σ H s) : ∃ m, Fr X.base X.env.locals s.heap m :=
  let ⟨m, hn, _⟩ := I.loc
  ⟨m, hn, I.bk, Nat.le_trans I.ok.bsz I.ok.above⟩
theorem Inv.lt (I : Inv X pins σ H s) : X.env.locals < s.heap.objs.size := let ⟨_, hn, _⟩ := I.loc; hn.lt
theorem Inv.sz (I : Inv X pins σ H s) : X.s₀.heap.objs.size ≤ s.heap.objs.size := Nat.le_trans I.ok.above (Nat.le_of_lt I.lt)
theorem Inv.nofs (I : Inv X pins σ H s) {a : Addr} (h : s.heap.objs.size ≤ a) : a ∉ X.fs := fun hb => by
  obtain ⟨_, o, ho, _⟩ := I.ok.funs.mem hb
  exact absurd (Nat.lt_of_lt_of_le (Heap.lt_size ho) (Nat.le_trans I.sz h)) (Nat.lt_irrefl _)
theorem Inv.cne (I : Inv X pins σ H s) : ∀ x c, X.env.cells.lookup x = some c → c ≠ X.env.locals := fun x c e z => by
  obtain ⟨v, o, ho, hd⟩ := I.cell x c e
  obtain ⟨m, ⟨o', es, ep, ho', hd', _⟩, _⟩ := I.loc
  rw [z, ho'] at ho; cases ho; rw [hd'] at hd; cases hd
theorem Inv.funs (I : Inv X pins σ H s) : s.heap.FunFrames X.base X.outer := by
  have all : ∀ (l : List Env), (∀ b ∈ frs l, b ∈ X.fs) → X.s₀.heap.FunFrames X.base l → s.heap.FunFrames X.base l := by
    intro l
    induction l with
    | nil => intro _ _; trivial
    | cons env r ih =>
      intro hs hl
      obtain ⟨hk, ⟨L, o, hf, hn, ho, hd⟩, hr⟩ := hl
      have hL : L ∈ X.fs := hs L (by unfold frs; rw [List.filterMap_cons, hf]; exact List.mem_cons_self)
      obtain ⟨sl, e⟩ := I.base.slot L o ho (I.ok.frf L hL) hL fun z => I.ok.exfs L z hL
      exact ⟨hk, ⟨L, _, hf, hn, e, hd⟩, ih (fun b hb => hs b (by unfold frs; rw [List.filterMap_cons, hf]; exact List.mem_cons_of_mem _ hb)) hr⟩
  exact all X.outer (fun _ hb => hb) I.ok.funs

/-- the frames that run, for a call -/
theorem Inv.stack (I : Inv X pins σ H s) : s.heap.FunFrames X.base X.stack := by
  rcases I.ok.stk with e | ⟨e, hf⟩
  · rw [e]; exact I.funs
  · rw [e]
    obtain ⟨m, hn, _⟩ := I.loc
    refine .cons (by rw [I.ok.kind]; decide) hf hn ?_ I.funs
    exact Heap.get?_none_of_le (Nat.le_trans I.ok.bsz I.ok.above)
theorem Inv.stkSub (I : Inv X pins σ H s) : ∀ b ∈ frs X.stack, b ∈ X.env.locals :: X.fs := fun b hb => by
  rcases I.ok.stk with e | ⟨e, hf⟩
  · rw [e] at hb; exact List.mem_cons_of_mem _ hb
  · rw [e] at hb
    unfold frs at hb
    rw [List.filterMap_cons, hf] at hb
    exact hb
theorem Inv.stkFree (I : Inv X pins σ H s) : ∀ b ∈ frs X.stack, H b = none := fun b hb => by
  rcases List.mem_cons.mp (I.stkSub b hb) with e | hb
  · rw [e]; exact I.free
  · obtain ⟨_, o, ho, _⟩ := I.ok.funs.mem hb
    exact I.base.free b o ho (I.ok.frf b hb) fun z => I.ok.exfs b z hb

/-- THE STEP: the untracked objects but the frame and the records at ch are kept (the callers' frames up to slots), the frame's map is kept, the new abstract heap is held -/
theorem Inv.step {g' : Array GenState} {t' : Nat} {d' : Drawn} {ch : List Addr} (I : Inv X pins σ H s)
    (hch : ∀ b ∈ ch, (b ∈ X.ex ∨ X.s₀.heap.objs.size ≤ b) ∧ b ≠ X.env.locals ∧ (∀ x c, X.env.cells.lookup x = some c → c ≠ b) ∧ ∀ p ∈ X.pn ++ pins, p.1 ≠ b)
    (keep : ∀ b o, b ≠ X.env.locals → b ∉ X.fs → b ∉ ch → s.heap.get? b = some o → H b = none → h'.get? b = some o)
    (slot : ∀ b o, b ≠ X.env.locals → b ∈ X.fs → b ∉ ch → s.heap.get? b = some o → H b = none → ∃ sl, h'.get? b = some { o with slots := sl }) (free : ∀ b o, b ∉ ch → s.heap.get? b = some o → H b = none → H' b = none)
    (there : ∀ b o, b ∉ ch → s.heap.get? b = some o → ∃ o', h'.get? b = some o')
    (tups : ∀ b xs, H b = some (.tup xs) → H' b = some (.tup xs)) (frzs : ∀ b o u, H b = some (.frz o u) → H' b = some (.frz o u)) (tbls : ∀ b ps, H b = some (.tbl ps) → ∃ more, H' b = some (.tbl (ps ++ more)))
    (ns : ∀ m, s.heap.Ns X.env.locals m → h'.Ns X.env.locals m) (hok : HOk X.prog X.w H' h') (hg : AllBare g') :
    Inv X pins σ H' { s with heap := h', gens := g', drawn := d', toks := t' } := by
  have neL : ∀ b o, X.s₀.heap.get? b = some o → b ≠ X.env.locals := fun b o e => Nat.ne_of_lt (Nat.lt_of_lt_of_le (Heap.lt_size e) I.ok.above)
  have neC : ∀ b o, X.s₀.heap.get? b = some o → b ∉ X.ex → b ∉ ch := fun b o e hx hb => by
    rcases (hch b hb).1 with z | z
    · exact hx z
    · exact absurd (Nat.lt_of_lt_of_le (Heap.lt_size e) z) (Nat.lt_irrefl _)
  have cellK : ∀ x c, X.env.cells.lookup x = some c → ∀ v, s.heap.IsCell c v → h'.IsCell c v := fun x c e v ⟨o, ho, hd⟩ => by
    have nch : c ∉ ch := fun z => (hch c z).2.2.1 x c e rfl
    by_cases hc : c ∈ X.fs
    · obtain ⟨sl, q⟩ := slot c o (I.cne x c e) hc nch ho (I.freeC x c e)
      exact ⟨_, q, hd⟩
    · exact ⟨o, keep c o (I.cne x c e) hc nch ho (I.freeC x c e), hd⟩
  refine ⟨I.ok, I.os, hg, ⟨fun b o e n hb hx => ?_, fun b o e n hb hx => ?_, fun b o e n hx => ?_, fun b o e hx => ?_, fun b xs e => tups b xs (I.base.tups b xs e), fun b o xs e => frzs b o xs (I.base.frzs b o xs e), fun b ps e => ?_⟩, ?_, fun x c e => ?_, ?_, fun x c e => ?_, fun p hp => ?_, hok, I.len⟩
  · exact keep b o (neL b o e) hb (neC b o e hx) (I.base.keep b o e n hb hx) (I.base.free b o e n hx)
  · obtain ⟨sl, e1⟩ := I.base.slot b o e n hb hx
    obtain ⟨sl', e2⟩ := slot b _ (neL b o e) hb (neC b o e hx) e1 (I.base.free b o e n hx)
    exact ⟨sl', e2⟩
  · obtain ⟨o', e1⟩ := I.base.there b o e hx
    exact free b o' (neC b o e hx) e1 (I.base.free b o e n hx)
  · obtain ⟨o', e1⟩ := I.base.there b o e hx
    exact there b o' (neC b o e hx) e1
  · obtain ⟨m1, e1⟩ := I.base.tbls b ps e
    obtain ⟨m2, e2⟩ := tbls b _ e1
    exact ⟨m1 ++ m2, by rw [e2, Array.append_assoc]⟩
  · obtain ⟨m, hn, hl⟩ := I.loc
    refine ⟨m, ns m hn, fun i x v e1 e2 e3 => ?_⟩
    obtain ⟨u, r, l⟩ := hl i x v e1 e2 e3
    refine ⟨u, r, ?_⟩
    rcases l with l | ⟨k, c, e, z⟩
    · exact .inl l
    · exact .inr ⟨k, c, e, cellK x c e _ z⟩
  · obtain ⟨v, z⟩ := I.cell x c e
    exact ⟨v, cellK x c e v z⟩
  · obtain ⟨m, ⟨o, _, _, ho, _⟩, _⟩ := I.loc
    exact free _ o (fun z => (hch _ z).2.1 rfl) ho I.free
  · obtain ⟨v, o, ho, hd⟩ := I.cell x c e
    exact free c o (fun z => (hch c z).2.2.1 x c e rfl) ho (I.freeC x c e)
  · obtain ⟨e, n, ne, nf, d⟩ := I.pin p hp
    have nch : p.1 ∉ ch := fun z => (hch p.1 z).2.2.2 p hp rfl
    exact ⟨keep p.1 p.2 ne nf nch e n, free p.1 p.2 nch e n, ne, nf, d⟩
/-- .. where the frame's own object is kept too -/
theorem Inv.un {t' : Nat} (I : Inv X pins σ H s) (u : Un X.fs [] H H' s.heap h') (hok : HOk X.prog X.w H' h') : Inv X pins σ H' { s with heap := h', toks := t' } := by
  obtain ⟨m, ⟨o, es, ep, ho, r⟩, _⟩ := id I.loc
  obtain ⟨sl, hL⟩ := u.any ho I.free (by simp)
  exact I.step (g' := s.gens) (d' := s.drawn) (ch := []) (fun _ z => nomatch z) (fun b o _ hb _ e n => u.keep b o e n hb (by simp)) (fun b o _ hb _ e n => u.slot b o e n hb (by simp)) (fun b o _ e n => u.free b o e n (by simp)) (fun b o _ e => u.there b o e (by simp)) u.tups u.frzs u.tbls (fun m' hm => by
    obtain ⟨o', es', ep', ho', r'⟩ := hm
    rw [ho] at ho'; cases ho'
    exact ⟨_, es', ep', hL, r'⟩) hok I.bare
/-- behind a call (or a comprehension's block): the slots of this frame may have changed too, the records at ch may have turned -/
theorem Inv.call {g' : Array GenState} {t' : Nat} {d' : Drawn} {ch : List Addr} (I : Inv X pins σ H s) (u : Un (frs X.stack) ch H H' s.heap h') (hok : HOk X.prog X.w H' h') (hg : AllBare g')
    (hch : ∀ b ∈ ch, (b ∈ X.ex ∨ X.s₀.heap.objs.size ≤ b) ∧ b ≠ X.env.locals ∧ (∀ x c, X.env.cells.lookup x = some c → c ≠ b) ∧ ∀ p ∈ X.pn ++ pins, p.1 ≠ b) :
    Inv X pins σ H' { s with heap := h', gens := g', drawn := d', toks := t' } := by
  obtain ⟨m, ⟨o, es, ep, ho, r⟩, _⟩ := id I.loc
  obtain ⟨sl, hL⟩ := u.any ho I.free fun z => (hch _ z).2.1 rfl
  exact I.step (ch := ch) hch (fun b o hL hb hc e n => u.keep b o e n (fun z => (List.mem_cons.mp (I.stkSub b z)).elim hL hb) hc) (fun b o _ _ hc e n => u.any e n hc) (fun b o hc e n => u.free b o e n hc) (fun b o hc e => u.there b o e hc) u.tups u.frzs u.tbls (fun m' hm => by
    obtain ⟨o', es', ep', ho', r'⟩ := hm
    rw [ho] at ho'; cases ho'
    exact ⟨_, es', ep', hL, r'⟩) hok hg
/-- an untracked record of ours (an iterator) has turned -/
theorem Inv.turned {t' : Nat} {it : Addr} (I : Inv X pins σ H s) (k : ∀ b o, b ≠ it → s.heap.get? b = some o → h'.get? b = some o) (hn : H it = none) (hL : it ≠ X.env.locals)
    (h1 : it ∈ X.ex ∨ X.s₀.heap.objs.size ≤ it) (h2 : ∀ x c, X.env.cells.lookup x = some c → c ≠ it) (h3 : ∀ p ∈ X.pn ++ pins, p.1 ≠ it) : Inv X pins σ H { s with heap := h', toks := t' } := by
  have nit : ∀ b u, H b = some u → b ≠ it := fun b u e z => by rw [z, hn] at e; cases e
  refine I.step (g' := s.gens) (d' := s.drawn) (ch := [it]) (fun b hb => ?_) (fun b o _ _ hc e _ => k b o (fun z => hc (by simp [z])) e) (fun b o _ _ hc e _ => ⟨o.slots, k b o (fun z => hc (by simp [z])) e⟩) (fun _ _ _ _ n => n)
    (fun b o hc e => ⟨o, k b o (fun z => hc (by simp [z])) e⟩) (fun _ _ e => e) (fun _ _ _ e => e) (fun b ps e => ⟨#[], by rw [e]; simp⟩) (fun m hm => ?_) (fun b u e => ?_) I.bare
  · have e : b = it := by simpa using hb
    subst e
    exact ⟨h1, hL, h2, h3⟩
  · obtain ⟨o, es, ep, ho, r⟩ := hm
    exact ⟨o, es, ep, k _ o (Ne.symm hL) ho, r⟩
  · refine (I.hok b u e).stay (fun c v hc q => k c v ?_ q) (fun _ q => q) fun _ _ q => q
    rcases hc with z | z
    · rw [z]; exact nit b u e
    · exact nit c _ z
theorem Inv.tok (I : Inv X pins σ H s) (t : Nat) : Inv X pins σ H { s with toks := t } := I.un (h' := s.heap) (t' := t) Un.refl I.hok
/-- all objects kept -/
theorem Inv.kept {t' : Nat} (I : Inv X pins σ H s) (k : ∀ b u, s.heap.get? b = some u → h'.get? b = some u) : Inv X pins σ H { s with heap := h', toks := t' } := I.un (Un.kept k) (I.hok.kept k)
/-- a new object laid and tracked -/
theorem Inv.laid {a : Addr} {o : HO} {t' : Nat} (I : Inv X pins σ H s) (k : ∀ b u, s.heap.get? b = some u → h'.get? b = some u) (hp : s.heap.objs.size ≤ a) (new : ObjOk X.prog X.w (upd H a o) h' a o) :
    Inv X pins σ (upd H a o) { s with heap := h', toks := t' } := I.un (Un.laid k hp (I.hok.fresh hp)) (I.hok.laid k hp new)
/-- an object written -/
theorem Inv.write {x e : Addr} {o : HO} {t' : Nat} (I : Inv X pins σ H s) (mu : Mut (H x)) (he : e = x ∨ H e = some (.own x)) (k : ∀ b u, b ≠ e → s.heap.get? b = some u → h'.get? b = some u) (heo : ∃ u, h'.get? e = some u)
    (new : ObjOk X.prog X.w (upd H x o) h' x o) : Inv X pins σ (upd H x o) { s with heap := h', toks := t' } := I.un (Un.write mu he k heo) (I.hok.write mu he k heo new)
/-- forgetting slots, pins -/
theorem Inv.weak {σ' : List (Option V)} (I : Inv X pins σ H s) (hl : σ'.length = σ.length) (w : ∀ (i : Nat) v, σ'[i]? = some (some v) → σ[i]? = some (some v)) : Inv X pins σ' H s :=
  ⟨I.ok, I.os, I.bare, I.base, let ⟨m, hn, hl'⟩ := I.loc; ⟨m, hn, fun i x v e1 e2 e3 => hl' i x v e1 (w i v e2) e3⟩, I.cell, I.free, I.freeC, I.pin, I.hok, hl.trans I.len⟩
theorem Inv.pins_of {pins' : List (Addr × Obj)} (I : Inv X pins σ H s) (h : ∀ p ∈ pins', s.heap.get? p.1 = some p.2 ∧ H p.1 = none ∧ p.1 ≠ X.env.locals ∧ p.1 ∉ X.fs ∧ ∀ v, p.2.data ≠ .cell v) : Inv X pins' σ H s :=
  ⟨I.ok, I.os, I.bare, I.base, I.loc, I.cell, I.free, I.freeC, fun p hp => (List.mem_append.mp hp).elim (fun z => I.pin p (List.mem_append_left _ z)) (h p), I.hok, I.len⟩

theorem nodup_ix {N : List Str} (hN : N.Nodup) {i j : Nat} {x : Str} (a : N[i]? = some x) (b : N[j]? = some x) : i = j := by
  obtain ⟨h1, e1⟩ := List.getElem?_eq_some_iff.mp a
  obtain ⟨h2, e2⟩ := List.getElem?_eq_some_iff.mp b
  exact (List.getElem_inj hN).mp (e1.trans e2.symm)

/-- a name is stored; what changed -/
theorem store_ok2 {M : Model} {A : Around} {E : Value → Shared → Prop} {i : Nat} {x : Str} {v : V} {u : Value} {Q : Unit → Shared → Prop} (I : Inv X pins σ H s) (hN : X.N.Nodup) (hi : X.N[i]? = some x) (hx : Loc X.env.scope x) (r : RelV v u)
    (h : ∀ s', Inv X pins (σ.set i (some v)) H s' → (∃ a, Heap.SameBut a s.heap s'.heap ∧ (a = X.env.locals ∨ X.env.cells.lookup x = some a)) → Q () s') (hf : X.fn x = true ∨ X.env.scope.names.lookup x = some .local := by first | exact .inl rfl | exact .inr rfl | assumption) : wpAny M A (storeName X.env x u) Q E s := by
  obtain ⟨m, hn, hl⟩ := id I.loc
  have hcls : (X.env.scope.kind == .class || (X.env.scope.kind == .module && X.env.locals != X.env.globals)) = false := by rw [I.ok.kind]; rfl
  have hiσ : i < σ.length := by rw [I.len]; exact (List.getElem?_eq_some_iff.mp hi).1
  have cne := I.cne
  have tracked : ∀ {a : Addr} {h' : Heap}, (∃ o, s.heap.get? a = some o ∧ H a = none) → Heap.SameBut a s.heap h' → HOk X.prog X.w H h' := fun {a h'} ha hs b ob e => by
    obtain ⟨_, _, hfree⟩ := ha
    refine (I.hok b ob e).stay (fun c w' hc q => (hs.2 c ?_).trans q) (fun _ q => q) fun _ _ q => q
    rintro rfl
    rcases hc with rfl | hc
    · rw [hfree] at e; cases e
    · rw [hfree] at hc; cases hc
  rcases hx with hk | hk
  · refine wpAny_storeName_local hk hn (fun h' hn' hs => ?_) hcls
    obtain ⟨oL, _, _, hoL, _⟩ := id hn
    refine h _ ⟨I.ok, I.os, I.bare, ⟨fun b o e n hb hx => ?_, fun b o e n hb hx => ?_, I.base.free, fun b o e hx => ?_, I.base.tups, I.base.frzs, I.base.tbls⟩, ⟨_, hn', fun j y v' e1 e2 e3 => ?_⟩, fun y c e => ?_, I.free, I.freeC, fun p hp => ?_, tracked ⟨oL, hoL, I.free⟩ hs, by simpa using I.len⟩ ⟨_, hs, .inl rfl⟩
    · exact (hs.2 b (Nat.ne_of_lt (Nat.lt_of_lt_of_le (Heap.lt_size e) I.ok.above))).trans (I.base.keep b o e n hb hx)
    · obtain ⟨sl, e1⟩ := I.base.slot b o e n hb hx
      exact ⟨sl, (hs.2 b (Nat.ne_of_lt (Nat.lt_of_lt_of_le (Heap.lt_size e) I.ok.above))).trans e1⟩
    · obtain ⟨o', e1⟩ := I.base.there b o e hx
      exact ⟨o', (hs.2 b (Nat.ne_of_lt (Nat.lt_of_lt_of_le (Heap.lt_size e) I.ok.above))).trans e1⟩
    · by_cases hj : j = i
      · subst hj
        rw [hi] at e1; cases e1
        rw [List.getElem?_set_self hiσ] at e2
        cases e2
        exact ⟨u, r, .inl ⟨hk, by simp⟩⟩
      · rw [List.getElem?_set_ne (Ne.symm hj)] at e2
        obtain ⟨u', r', q⟩ := hl j y v' e1 e2 e3
        refine ⟨u', r', ?_⟩
        rcases q with ⟨k, e⟩ | ⟨k, c, e, z⟩
        · refine .inl ⟨k, ?_⟩
          have : y ≠ x := fun e => hj (nodup_ix hN e1 (e ▸ hi))
          simp [this, e]
        · exact .inr ⟨k, c, e, z.sameBut hs (cne y c e)⟩
    · obtain ⟨w', z⟩ := I.cell y c e
      exact ⟨w', z.sameBut hs (cne y c e)⟩
    · obtain ⟨e, n, ne, nf, d⟩ := I.pin p hp
      exact ⟨(hs.2 p.1 ne).trans e, n, ne, nf, d⟩
  · have hfn : X.fn x = true := by
      rcases hf with z | z
      · exact z
      · rw [z] at hk; cases hk
    obtain ⟨c, hc⟩ := I.ok.has x (.inl hk)
    obtain ⟨w', z⟩ := I.cell x c hc
    refine wpAny_storeName_cell I.ok.kind hk hc z (fun h' hc' hs => ?_)
    obtain ⟨oc, hoc, hocd⟩ := id z
    refine h { s with heap := h' } ⟨I.ok, I.os, I.bare, ⟨fun b o e n hb hx => ?_, fun b o e n hb hx => ?_, I.base.free, fun b o e hx => ?_, I.base.tups, I.base.frzs, I.base.tbls⟩, ⟨m, hn.sameBut hs (Ne.symm (cne x c hc)), fun j y v' e1 e2 e3 => ?_⟩, fun y c' e => ?_, I.free, I.freeC, fun p hp => ?_, tracked ⟨oc, hoc, I.freeC x c hc⟩ hs, by simpa using I.len⟩ ⟨c, hs, .inr hc⟩
    · exact (hs.2 b (Nat.ne_of_lt (Nat.lt_of_lt_of_le (Heap.lt_size e) (I.ok.cab x c hfn hc)))).trans (I.base.keep b o e n hb hx)
    · obtain ⟨sl, e1⟩ := I.base.slot b o e n hb hx
      exact ⟨sl, (hs.2 b (Nat.ne_of_lt (Nat.lt_of_lt_of_le (Heap.lt_size e) (I.ok.cab x c hfn hc)))).trans e1⟩
    · obtain ⟨o', e1⟩ := I.base.there b o e hx
      exact ⟨o', (hs.2 b (Nat.ne_of_lt (Nat.lt_of_lt_of_le (Heap.lt_size e) (I.ok.cab x c hfn hc)))).trans e1⟩
    · by_cases hj : j = i
      · subst hj
        rw [hi] at e1; cases e1
        rw [List.getElem?_set_self hiσ] at e2
        cases e2
        exact ⟨u, r, .inr ⟨.inl hk, c, hc, hc'⟩⟩
      · rw [List.getElem?_set_ne (Ne.symm hj)] at e2
        obtain ⟨u', r', q⟩ := hl j y v' e1 e2 e3
        refine ⟨u', r', ?_⟩
        rcases q with q | ⟨k, c', e, z'⟩
        · exact .inl q
        · refine .inr ⟨k, c', e, z'.sameBut hs ?_⟩
          rintro rfl
          exact hj (nodup_ix hN e1 (I.ok.inj _ _ _ e hc ▸ hi))
    · by_cases hcc : c' = c
      · subst hcc; exact ⟨_, hc'⟩
      · obtain ⟨w2, z2⟩ := I.cell y c' e
        exact ⟨w2, z2.sameBut hs hcc⟩
    · obtain ⟨e, n, ne, nf, d⟩ := I.pin p hp
      refine ⟨(hs.2 p.1 ?_).trans e, n, ne, nf, d⟩
      intro q
      rw [q, hoc] at e
      have q' : oc = p.2 := Option.some.inj e
      exact d w' (by rw [← q']; exact hocd)
theorem store_ok {M : Model} {A : Around} {E : Value → Shared → Prop} {i : Nat} {x : Str} {v : V} {u : Value} {Q : Unit → Shared → Prop} (I : Inv X pins σ H s) (hN : X.N.Nodup) (hi : X.N[i]? = some x) (hx : Loc X.env.scope x) (r : RelV v u)
    (h : ∀ s', Inv X pins (σ.set i (some v)) H s' → Q () s') (hf : X.fn x = true ∨ X.env.scope.names.lookup x = some .local := by first | exact .inl rfl | exact .inr rfl | assumption) : wpAny M A (storeName X.env x u) Q E s :=
  store_ok2 I hN hi hx r (fun s' I' _ => h s' I') hf
/-- behind a call or a block, the state as it is -/
theorem Inv.call' {s' : Shared} {ch : List Addr} (I : Inv X pins σ H s) (ho : s'.os = s.os) (u : Un (frs X.stack) ch H H' s.heap s'.heap) (hok : HOk X.prog X.w H' s'.heap) (hg : AllBare s'.gens)
    (hch : ∀ b ∈ ch, (b ∈ X.ex ∨ X.s₀.heap.objs.size ≤ b) ∧ b ≠ X.env.locals ∧ (∀ x c, X.env.cells.lookup x = some c → c ≠ b) ∧ ∀ p ∈ X.pn ++ pins, p.1 ≠ b) : Inv X pins σ H' s' := by
  obtain ⟨h', g', d', t', o'⟩ := s'
  have e : o' = s.os := ho
  subst e
  exact I.call (g' := g') (t' := t') (d' := d') u hok hg hch
end

/-! ### the judgements -/
/-- an exception: its class, its own dict's address (where it has one), the abstract heap behind it -/
abbrev XK := Value → Option Addr → Hp → Prop
abbrev St := List (Option V)
abbrev VK := V → Hp → Prop
/-- an expression's reading; a test's; an argument list's -/
abbrev TE := St → Hp → VK → Prop
abbrev TT := St → Hp → (Bool → Hp → Prop) → Prop
abbrev TA := St → Hp → (List V → Hp → Prop) → Prop
/-- what is wanted behind a statement -/
structure Ends where
  nx : St → Hp → Prop
  rt : VK
  bk : St → Hp → Prop := fun _ _ => False
  ct : St → Hp → Prop := fun _ _ => False
abbrev TS := Ends → St → Hp → Prop

def EP (X : Cx) (pins : List (Addr × Obj)) (σ : St) (Q : VK) (u : Value) (s' : Shared) : Prop := ∃ v H', Inv X pins σ H' s' ∧ RelV v u ∧ Q v H'
def TP (X : Cx) (pins : List (Addr × Obj)) (σ : St) (Q : Bool → Hp → Prop) (b : Bool) (s' : Shared) : Prop := ∃ H', Inv X pins σ H' s' ∧ Q b H'
def AP (X : Cx) (pins : List (Addr × Obj)) (σ : St) (Q : List V → Hp → Prop) (us : List Value) (s' : Shared) : Prop := ∃ vs H', Inv X pins σ H' s' ∧ Vals vs us ∧ Q vs H'
def SP (X : Cx) (pins : List (Addr × Obj)) (D : Ends) (f : Flow) (s' : Shared) : Prop :=
  match f with
  | .next => ∃ σ' H', Inv X pins σ' H' s' ∧ D.nx σ' H'
  | .brk => ∃ σ' H', Inv X pins σ' H' s' ∧ D.bk σ' H'
  | .cont => ∃ σ' H', Inv X pins σ' H' s' ∧ D.ct σ' H'
  | .ret u => ∃ v σ' H', Inv X pins σ' H' s' ∧ RelV v u ∧ D.rt v H'

structure PE (X : Cx) (e : Expr) (t : TE) : Prop where
  run : ∀ (pins : List (Addr × Obj)) (s : Shared) (σ : St) (H : Hp) (Q : VK), Inv X pins σ H s → t σ H Q → wpAny (model X.prog X.w) X.A (eval e X.env) (EP X pins σ Q) X.xe s
instance {X : Cx} {e : Expr} {t : TE} : CoeFun (PE X e t) (fun _ => ∀ (pins : List (Addr × Obj)) (s : Shared) (σ : St) (H : Hp) (Q : VK), Inv X pins σ H s → t σ H Q → wpAny (model X.prog X.w) X.A (eval e X.env) (EP X pins σ Q) X.xe s) := ⟨PE.run⟩

structure PT (X : Cx) (e : Expr) (t : TT) : Prop where
  run : ∀ (pins : List (Addr × Obj)) (s : Shared) (σ : St) (H : Hp) (Q : Bool → Hp → Prop), Inv X pins σ H s → t σ H Q → wpAny (model X.prog X.w) X.A (isTrue e X.env (eval e X.env)) (TP X pins σ Q) X.xe s
instance {X : Cx} {e : Expr} {t : TT} : CoeFun (PT X e t) (fun _ => ∀ (pins : List (Addr × Obj)) (s : Shared) (σ : St) (H : Hp) (Q : Bool → Hp → Prop), Inv X pins σ H s → t σ H Q → wpAny (model X.prog X.w) X.A (isTrue e X.env (eval e X.env)) (TP X pins σ Q) X.xe s) := ⟨PT.run⟩

/-- a test whatever its 'whole' is (and, or) -/
structure PW (X : Cx) (e : Expr) (t : TT) : Prop where
  run : ∀ (whole : Sem Value) (pins : List (Addr × Obj)) (s : Shared) (σ : St) (H : Hp) (Q : Bool → Hp → Prop), Inv X pins σ H s → t σ H Q → wpAny (model X.prog X.w) X.A (isTrue e X.env whole) (TP X pins σ Q) X.xe s
instance {X : Cx} {e : Expr} {t : TT} : CoeFun (PW X e t) (fun _ => ∀ (whole : Sem Value) (pins : List (Addr × Obj)) (s : Shared) (σ : St) (H : Hp) (Q : Bool → Hp → Prop), Inv X pins σ H s → t σ H Q → wpAny (model X.prog X.w) X.A (isTrue e X.env whole) (TP X pins σ Q) X.xe s) := ⟨PW.run⟩

theorem PW.pt {X : Cx} {e : Expr} {t : TT} (h : PW X e t) : PT X e t := ⟨h _⟩
/-- an argument list (no star), from the left -/
structure PA (X : Cx) (es : List Expr) (t : TA) : Prop where
  run : ∀ (pos : Pos) (pins : List (Addr × Obj)) (s : Shared) (σ : St) (H : Hp) (Q : List V → Hp → Prop), Inv X pins σ H s → t σ H Q → wpAny (model X.prog X.w) X.A (spliced (backTo pos (starEach es X.env))) (AP X pins σ Q) X.xe s
instance {X : Cx} {es : List Expr} {t : TA} : CoeFun (PA X es t) (fun _ => ∀ (pos : Pos) (pins : List (Addr × Obj)) (s : Shared) (σ : St) (H : Hp) (Q : List V → Hp → Prop), Inv X pins σ H s → t σ H Q → wpAny (model X.prog X.w) X.A (spliced (backTo pos (starEach es X.env))) (AP X pins σ Q) X.xe s) := ⟨PA.run⟩

structure PS (X : Cx) (st : Stmt) (t : TS) : Prop where
  run : ∀ (pins : List (Addr × Obj)) (s : Shared) (σ : St) (H : Hp) (D : Ends), Inv X pins σ H s → t D σ H → wpAny (model X.prog X.w) X.A (exec st X.env) (SP X pins D) X.xe s
instance {X : Cx} {st : Stmt} {t : TS} : CoeFun (PS X st t) (fun _ => ∀ (pins : List (Addr × Obj)) (s : Shared) (σ : St) (H : Hp) (D : Ends), Inv X pins σ H s → t D σ H → wpAny (model X.prog X.w) X.A (exec st X.env) (SP X pins D) X.xe s) := ⟨PS.run⟩

structure PSs (X : Cx) (st : List Stmt) (t : TS) : Prop where
  run : ∀ (pins : List (Addr × Obj)) (s : Shared) (σ : St) (H : Hp) (D : Ends), Inv X pins σ H s → t D σ H → wpAny (model X.prog X.w) X.A (execs st X.env) (SP X pins D) X.xe s
instance {X : Cx} {st : List Stmt} {t : TS} : CoeFun (PSs X st t) (fun _ => ∀ (pins : List (Addr × Obj)) (s : Shared) (σ : St) (H : Hp) (D : Ends), Inv X pins σ H s → t D σ H → wpAny (model X.prog X.w) X.A (execs st X.env) (SP X pins D) X.xe s) := ⟨PSs.run⟩

/-- weaken the end -/
theorem thn {α : Type} {t : Sem α} {Q Q' : α → Shared → Prop} {M : Model} {A : Around} {E : Value → Shared → Prop} {s : Shared} (h : wpAny M A t Q E s) (hQ : ∀ a s, Q a s → Q' a s) : wpAny M A t Q' E s := wpAny_mono h hQ fun _ _ x => x
end L2

namespace L2
open PySem PySem.Spec PyProof.Rows
section
variable {X : Cx}

/-- two expressions in a row -/
theorem bin {a b : Expr} {ta tb : TE} (ha : PE X a ta) (hb : PE X b tb) {pins : List (Addr × Obj)} {s : Shared} {σ : St} {H : Hp} {R : V → V → Hp → Prop} (I : Inv X pins σ H s) (h : ta σ H fun x H1 => tb σ H1 fun y H2 => R x y H2)
    {α : Type} {Q : α → Shared → Prop} {f : Value → Value → Sem α}
    (hf : ∀ v u s2 x y H2, Inv X pins σ H2 s2 → RelV x v → RelV y u → R x y H2 → wpAny (model X.prog X.w) X.A (f v u) Q X.xe s2) :
    wpAny (model X.prog X.w) X.A (eval a X.env) (fun v s₁ => wpAny (model X.prog X.w) X.A (eval b X.env) (fun u s₂ => wpAny (model X.prog X.w) X.A (f v u) Q X.xe s₂) X.xe s₁) X.xe s := by
  refine thn (ha pins s σ H _ I h) fun v s1 ⟨x, H1, I1, r1, q1⟩ => ?_
  refine thn (hb pins s1 σ H1 _ I1 q1) fun u s2 ⟨y, H2, I2, r2, q2⟩ => ?_
  exact hf v u s2 x y H2 I2 r1 r2 q2

/-! ### names and constants -/
def tVar (i : Nat) : TE := fun σ H Q => ∃ v, σ[i]? = some (some v) ∧ Q v H
def tC (v : V) : TE := fun _ H Q => Q v H
theorem pe_var {i : Nat} {x : Str} {pos : Pos} (hN : X.N[i]? = some x) (hv : Vis X.env.scope x) (hd : (x == ("__debug__" : Str)) = false := by decide) (hcd : (x == ("__classdict__" : Str)) = false := by decide) : PE X (.Name x pos) (tVar i) := by
  refine ⟨?_⟩
  intro pins s σ H Q I h
  obtain ⟨v, e, h⟩ := h
  obtain ⟨m, hn, hl⟩ := I.loc
  obtain ⟨u, r, l⟩ := hl i x v hN e hv
  have fin : EP X pins σ Q u s := ⟨v, H, I, r, h⟩
  rcases l with ⟨hk, hm⟩ | ⟨hk, c, hc, hcell⟩
  · exact wpAny_Name (wpAny_loadName_local I.ok.kind hk hn hm fin) hd
  · rcases hk with hk | hk
    · exact wpAny_Name (wpAny_loadName_cell I.ok.kind hk hc hcell fin) hd
    · exact wpAny_Name (wpAny_loadName_free I.ok.kind hk hc hcell fin hcd) hd
theorem pe_int {i j pos} : PE X (.Constant (.int i) j pos) (tC (.int i)) := ⟨fun _ _ _ H _ I h => wpAny_Constant_int ⟨.int i, H, I.tok _, ⟨_, rfl⟩, h⟩⟩
theorem pe_bl {b j pos} : PE X (.Constant (.bool b) j pos) (tC (.bl b)) := ⟨fun _ _ _ H _ I h => Constant_bool ⟨.bl b, H, I, rfl, h⟩⟩
theorem pe_str {x j pos} : PE X (.Constant (.str x) j pos) (tC (.str x)) := ⟨fun _ _ _ H _ I h => Calls.Constant_str ⟨.str x, H, I.tok _, ⟨_, rfl⟩, h⟩⟩

/-- a global name of the def -/
def Gl (X : Cx) (x : Str) : Prop := X.env.kindOf x = some .globalImplicit
theorem ld_glob {E : Value → Shared → Prop} {pins : List (Addr × Obj)} {s : Shared} {σ : St} {H : Hp} {x : Str} {u : Value} {pos : Pos} {Q : Value → Shared → Prop} (I : Inv X pins σ H s) (hg : Gl X x) (hm : X.mg x = some u) (h : Q u s)
    (hd : (x == ("__debug__" : Str)) = false := by decide) : wpAny (model X.prog X.w) X.A (eval (.Name x pos) X.env) Q E s :=
  Calls.Name_function_global I.ok.kind hg (Calls.loadGlobal_global (by rw [I.ok.glob]; exact I.mod.glob.keeps I.bk) hm h) hd
theorem ld_blt {E : Value → Shared → Prop} {pins : List (Addr × Obj)} {s : Shared} {σ : St} {H : Hp} {x : Str} {u : Value} {pos : Pos} {Q : Value → Shared → Prop} (I : Inv X pins σ H s) (hg : Gl X x) (hm : X.mg x = none) (hv : bootBuiltins x = some u) (h : Q u s)
    (hn : x ≠ "__name__" := by decide) (hd : (x == ("__debug__" : Str)) = false := by decide) : wpAny (model X.prog X.w) X.A (eval (.Name x pos) X.env) Q E s := by
  obtain ⟨mb, h1, h2⟩ := I.mod.blt
  exact Calls.Name_function_global I.ok.kind hg (Calls.loadGlobal_builtin (by rw [I.ok.glob]; exact I.mod.glob.keeps I.bk) hm (by rw [I.ok.blt]; exact h1.keeps I.bk) ((h2 x hn).trans hv) h) hd
/-- a module's constant, a class, a function, as a value -/
theorem pe_glob {x : Str} {v : V} {u : Value} {pos : Pos} (hg : Gl X x) (hm : X.mg x = some u) (r : RelV v u) (hd : (x == ("__debug__" : Str)) = false := by decide) : PE X (.Name x pos) (tC v) := ⟨fun _ _ _ H _ I h => ld_glob I hg hm ⟨v, H, I, r, h⟩ hd⟩
theorem pe_bltn {x : Str} {v : V} {u : Value} {pos : Pos} (hg : Gl X x) (hm : X.mg x = none) (hv : bootBuiltins x = some u) (r : RelV v u) (hn : x ≠ "__name__" := by decide) (hd : (x == ("__debug__" : Str)) = false := by decide) : PE X (.Name x pos) (tC v) := ⟨fun _ _ _ H _ I h => ld_blt I hg hm hv ⟨v, H, I, r, h⟩ hn hd⟩

/-! ### arithmetic -/
variable {a b : Expr} {ta tb : TE} {pos : Pos}
/-! ### comparisons -/
structure PC (X : Cx) (op : CmpOp) (a b : Expr) (t : TE) : Prop where
  run : ∀ (pins : List (Addr × Obj)) (s : Shared) (σ : St) (H : Hp) (Q : VK), Inv X pins σ H s → t σ H Q →
    wpAny (model X.prog X.w) X.A (eval a X.env) (fun v s₁ => wpAny (model X.prog X.w) X.A (eval b X.env) (fun u s₂ => wpAny (model X.prog X.w) X.A (compareOp op v u) (EP X pins σ Q) X.xe s₂) X.xe s₁) X.xe s
instance {X : Cx} {op : CmpOp} {a b : Expr} {t : TE} : CoeFun (PC X op a b t) (fun _ => ∀ (pins : List (Addr × Obj)) (s : Shared) (σ : St) (H : Hp) (Q : VK), Inv X pins σ H s → t σ H Q →
    wpAny (model X.prog X.w) X.A (eval a X.env) (fun v s₁ => wpAny (model X.prog X.w) X.A (eval b X.env) (fun u s₂ => wpAny (model X.prog X.w) X.A (compareOp op v u) (EP X pins σ Q) X.xe s₂) X.xe s₁) X.xe s) := ⟨PC.run⟩

theorem nobehind (b : Expr) {op : CmpOp} (h : op ≠ .In) (h2 : op ≠ .NotIn) : behindInMarks op b = false := by
  have e1 : (op == CmpOp.In) = false := by cases op <;> first | rfl | exact absurd rfl h
  have e2 : (op == CmpOp.NotIn) = false := by cases op <;> first | rfl | exact absurd rfl h2
  cases b <;> simp [behindInMarks, e1, e2]
/-- is None -/
def tIsN (ta : TE) : TE := fun σ H Q => ta σ H fun x H1 => Q (.bl (decide (x = .non))) H1
theorem RelV.none_iff {x : V} {v : Value} (r : RelV x v) : (v == Value.none) = decide (x = .non) := by
  cases x with
  | non => cases r; rfl
  | bl _ => cases r; rfl
  | int _ => obtain ⟨t, rfl⟩ := r; rfl
  | str _ => obtain ⟨t, rfl⟩ := r; rfl
  | byt _ => obtain ⟨t, rfl⟩ := r; rfl
  | flt _ => obtain ⟨t, rfl⟩ := r; rfl
  | ref _ => cases r; rfl
  | ty _ => cases r; rfl
theorem pc_isN {j pos'} (ha : PE X a ta) : PC X .Is a (.Constant .none j pos') (tIsN ta) := by
  refine ⟨?_⟩
  intro pins s σ H Q I h
  refine thn (ha pins s σ H _ I h) fun v s1 ⟨x, H1, I1, r1, q1⟩ => ?_
  exact Constant_none (is_none_gen ⟨.bl _, H1, I1, by rw [r1.none_iff]; rfl, q1⟩)
/-- a comparison as a value, as a test -/
def tB (t : TE) : TT := fun σ H Q => t σ H fun x H1 => ∃ c, x = .bl c ∧ Q c H1
theorem pt_cmp {op : CmpOp} {t : TE} (h : PC X op a b t) (h1 : behindInMarks op b = false := by first | exact nobehind _ (by decide) (by decide) | rfl) : PT X (.Compare a [op] [b] pos) (tB t) := by
  refine ⟨?_⟩
  intro pins s σ H Q I hw
  refine wpAny_isTrue_Compare1 (thn (h pins s σ H _ I hw) fun v s1 h1 => thn h1 fun u s2 h2 => thn h2 fun c s3 ⟨x, H1, I1, r1, q1⟩ => ?_) h1
  obtain ⟨d, rfl, q⟩ := q1
  cases r1
  exact wpAny_truthy_bool ⟨H1, I1, q⟩
/-- an expression whose value is a bool, as a test -/
theorem pt_val {e : Expr} {t : TE} (h : PE X e t) (he : ∀ whole, isTrue e X.env whole = (do let v ← whole; standAt e.pos; holding [v] (truthy v)) := by intro _; rfl) : PT X e (tB t) := by
  refine ⟨?_⟩
  intro pins s σ H Q I hw
  refine isTrue_plain (thn (h pins s σ H _ I hw) fun v s1 ⟨x, H1, I1, r1, q1⟩ => ?_) (he _)
  obtain ⟨d, rfl, q⟩ := q1
  cases r1
  exact wpAny_truthy_bool ⟨H1, I1, q⟩

/-! ### and, or, not -/
variable {tA tB' : TT} {rest : List Expr}
def tAnd (t u : TT) : TT := fun σ H Q => t σ H fun c H1 => if c = true then u σ H1 Q else Q false H1
def tOr (t u : TT) : TT := fun σ H Q => t σ H fun c H1 => if c = true then Q true H1 else u σ H1 Q
def tNot (t : TT) : TT := fun σ H Q => t σ H fun c H1 => Q (!c) H1
theorem pw_and1 (ha : PT X a tA) : PW X (.BoolOp .And [a] pos) tA := by
  refine ⟨?_⟩
  intro wh pins s σ H Q I h
  refine isTrue_and (thn (ha pins s σ H Q I h) fun c s1 e => ?_)
  cases c with
  | true => exact isTrue_and_nil e
  | false => exact e
theorem pw_or1 (ha : PT X a tA) : PW X (.BoolOp .Or [a] pos) tA := by
  refine ⟨?_⟩
  intro wh pins s σ H Q I h
  refine isTrue_or (thn (ha pins s σ H Q I h) fun c s1 e => ?_)
  cases c with
  | false => exact isTrue_or_nil e
  | true => exact e
theorem pw_and (ha : PT X a tA) (hb : PW X (.BoolOp .And (b :: rest) pos) tB') : PW X (.BoolOp .And (a :: b :: rest) pos) (tAnd tA tB') := by
  refine ⟨?_⟩
  intro wh pins s σ H Q I h
  refine isTrue_and (thn (ha pins s σ H _ I h) fun c s1 ⟨H1, I1, q1⟩ => ?_)
  cases c with
  | true => exact hb wh pins s1 σ H1 Q I1 q1
  | false => exact ⟨H1, I1, q1⟩
theorem pw_or (ha : PT X a tA) (hb : PW X (.BoolOp .Or (b :: rest) pos) tB') : PW X (.BoolOp .Or (a :: b :: rest) pos) (tOr tA tB') := by
  refine ⟨?_⟩
  intro wh pins s σ H Q I h
  refine isTrue_or (thn (ha pins s σ H _ I h) fun c s1 ⟨H1, I1, q1⟩ => ?_)
  cases c with
  | true => exact ⟨H1, I1, q1⟩
  | false => exact hb wh pins s1 σ H1 Q I1 q1
theorem pt_not (ha : PT X a tA) : PT X (.UnaryOp .Not a pos) (tNot tA) := by
  refine ⟨?_⟩
  intro pins s σ H Q I h
  exact isTrue_not (ha pins s σ H (fun c H1 => Q (!c) H1) I h)
/-- .. as values (bools) -/
def tAndV (ta tb : TE) : TE := fun σ H Q => ta σ H fun x H1 => ∃ c, x = .bl c ∧ if c = true then tb σ H1 Q else Q (.bl false) H1
theorem pe_one {op} {t : TE} (h : PE X a t) : PE X (.BoolOp op [a] pos) t := ⟨fun pins s σ H Q I hw => BoolOp_one (h pins s σ H Q I hw)⟩
theorem pe_and (ha : PE X a ta) (hb : PE X (.BoolOp .And (b :: rest) pos) tb) : PE X (.BoolOp .And (a :: b :: rest) pos) (tAndV ta tb) := by
  refine ⟨?_⟩
  intro pins s σ H Q I h
  refine BoolOp_and (thn (ha pins s σ H _ I h) fun v s1 ⟨x, H1, I1, r1, q1⟩ => ?_)
  obtain ⟨c, rfl, q1⟩ := q1
  cases r1
  refine wpAny_truthy_bool ?_
  cases c with
  | true => exact hb pins s1 σ H1 Q I1 q1
  | false => exact ⟨.bl false, H1, I1, rfl, q1⟩
/-- a if t else b -/
def tIf (t : TT) (ta tb : TE) : TE := fun σ H Q => t σ H fun c H1 => if c = true then ta σ H1 Q else tb σ H1 Q
theorem pe_ifExp {c : Expr} (hc : PT X c tA) (ha : PE X a ta) (hb : PE X b tb) : PE X (.IfExp c a b pos) (tIf tA ta tb) := by
  refine ⟨?_⟩
  intro pins s σ H Q I h
  refine wpAny_IfExp (thn (hc pins s σ H _ I h) fun d s1 ⟨H1, I1, q1⟩ => ?_)
  cases d with
  | true => exact ha pins s1 σ H1 Q I1 q1
  | false => exact hb pins s1 σ H1 Q I1 q1
end
end L2

namespace L2
open PySem PySem.Spec PyProof.Rows

/-! ### a list, a tuple that is read: tracked, frozen, or an object of the module -/
def SqL (K : PySem.W.Frag) (H : Hp) (a : Addr) (xs : List V) : Prop :=
  Rd H a (.lst xs) ∨
    ∃ (o : Obj) (its : Array Value) (n : Nat), K.lookup a = some o ∧ o.cls = .type "list" ∧ o.dict = none ∧ o.data = .seq its n ∧ its.size ≤ sizeLine ∧ Vals xs its.toList
def SqT (K : PySem.W.Frag) (H : Hp) (a : Addr) (xs : List V) : Prop :=
  Rd H a (.tup xs) ∨
    ∃ (o : Obj) (its : Array Value) (n : Nat), K.lookup a = some o ∧ o.cls = .type "tuple" ∧ o.data = .seq its n ∧ its.size ≤ sizeLine ∧ Vals xs its.toList
def absV : Value → Option V
  | .none => some .non
  | .bool b => some (.bl b)
  | .int i _ => some (.int i)
  | .str x _ => some (.str x)
  | .bytes b _ => some (.byt b)
  | .float b _ => some (.flt b)
  | .ref a => some (.ref a)
  | .type n => some (.ty n)
  | _ => none
theorem RelV.abs {x : V} {u : Value} (r : RelV x u) : absV u = some x := by
  cases x with
  | non => cases r; rfl
  | bl _ => cases r; rfl
  | int _ => obtain ⟨t, rfl⟩ := r; rfl
  | str _ => obtain ⟨t, rfl⟩ := r; rfl
  | byt _ => obtain ⟨t, rfl⟩ := r; rfl
  | flt _ => obtain ⟨t, rfl⟩ := r; rfl
  | ref _ => cases r; rfl
  | ty _ => cases r; rfl
theorem RelV.inj {x y : V} {u : Value} (r : RelV x u) (q : RelV y u) : x = y := Option.some.inj (r.abs.symm.trans q.abs)
theorem Vals.inj : ∀ {xs ys : List V} {us : List Value}, Vals xs us → Vals ys us → xs = ys
  | _, _, _, .nil, .nil => rfl
  | _, _, _, .cons r t, .cons r' t' => by rw [r.inj r', Vals.inj t t']
section
variable {X : Cx} {pins : List (Addr × Obj)} {σ : St} {H : Hp} {s : Shared} {a : Addr} {xs ys : List V}
theorem SqL.of {K : PySem.W.Frag} (h : H a = some (.lst xs)) : SqL K H a xs := .inl (.inl h)
theorem SqT.of {K : PySem.W.Frag} (h : H a = some (.tup xs)) : SqT K H a xs := .inl (.inl h)
theorem Inv.list (I : Inv X pins σ H s) (h : SqL X.K H a xs) : ∃ its : List Value, Vals xs its ∧ PlainL s.heap a its.toArray ∧ xs.length ≤ sizeLine := by
  rcases h with h | ⟨o, its, n, hk, hc, hd, hs, hz, r⟩
  · obtain ⟨z, its, n, r, e⟩ := h.ok I.hok
    exact ⟨its, r, ⟨_, n, e, rfl, rfl, rfl⟩, z⟩
  · refine ⟨its.toList, r, ⟨o, n, I.kIn a o hk, hc, hd, by simpa using hs⟩, ?_⟩
    have e := r.length
    simp only [Array.length_toList] at e
    omega
theorem Inv.tuple (I : Inv X pins σ H s) (h : SqT X.K H a xs) : ∃ its : List Value, Vals xs its ∧ IsTup s.heap a its.toArray ∧ xs.length ≤ sizeLine := by
  rcases h with h | ⟨o, its, n, hk, hc, hs, hz, r⟩
  · obtain ⟨z, its, r, p⟩ := h.ok I.hok
    exact ⟨its, r, p, z⟩
  · refine ⟨its.toList, r, ⟨o, I.kIn a o hk, hc, n, by simpa using hs⟩, ?_⟩
    have e := r.length
    simp only [Array.length_toList] at e
    omega
theorem Inv.list_inj (I : Inv X pins σ H s) (h : SqL X.K H a xs) (h' : SqL X.K H a ys) : xs = ys := by
  obtain ⟨its, r, ⟨o, n, e, _, _, d⟩, _⟩ := I.list h
  obtain ⟨its', r', ⟨o', n', e', _, _, d'⟩, _⟩ := I.list h'
  rw [e] at e'; cases e'
  rw [d] at d'
  injection d' with d1 _
  have : its = its' := by simpa using congrArg Array.toList d1
  subst this
  exact r.inj r'
end

/-! ### another wish about exceptions -/
abbrev Cx.wish (X : Cx) (E : Value → Shared → Prop) : Cx := { X with xe := E }
/-- no exception leaves -/
abbrev Cx.nox (X : Cx) : Cx := X.wish fun _ _ => False
theorem Cx.Ok.wish {X : Cx} (ok : X.Ok) (E : Value → Shared → Prop) : (X.wish E).Ok :=
  ⟨ok.mod, ok.kind, ok.glob, ok.blt, ok.above, ok.inj, ok.has, ok.cab, ok.hd, ok.frames, ok.stk, ok.exf, ok.bs, ok.bsz, ok.noex, ok.exfs, ok.funs, ok.frf⟩
theorem Cx.Ok.unwish {X : Cx} {E : Value → Shared → Prop} (ok : (X.wish E).Ok) : X.Ok :=
  ⟨ok.mod, ok.kind, ok.glob, ok.blt, ok.above, ok.inj, ok.has, ok.cab, ok.hd, ok.frames, ok.stk, ok.exf, ok.bs, ok.bsz, ok.noex, ok.exfs, ok.funs, ok.frf⟩
section
variable {X : Cx} {pins : List (Addr × Obj)} {σ : St} {H : Hp} {s : Shared} {E : Value → Shared → Prop}
theorem Inv.wish (I : Inv X pins σ H s) (E : Value → Shared → Prop) : Inv (X.wish E) pins σ H s := ⟨I.ok.wish E, I.os, I.bare, I.base, I.loc, I.cell, I.free, I.freeC, I.pin, I.hok, I.len⟩
theorem Inv.unwish (I : Inv (X.wish E) pins σ H s) : Inv X pins σ H s := ⟨I.ok.unwish, I.os, I.bare, I.base, I.loc, I.cell, I.free, I.freeC, I.pin, I.hok, I.len⟩
theorem SP.unwish {D : Ends} {f : Flow} {s' : Shared} (h : SP (X.wish E) pins D f s') : SP X pins D f s' := by
  cases f with
  | next => obtain ⟨σ', H', I, q⟩ := h; exact ⟨σ', H', I.unwish, q⟩
  | brk => obtain ⟨σ', H', I, q⟩ := h; exact ⟨σ', H', I.unwish, q⟩
  | cont => obtain ⟨σ', H', I, q⟩ := h; exact ⟨σ', H', I.unwish, q⟩
  | ret u => obtain ⟨v, σ', H', I, r, q⟩ := h; exact ⟨v, σ', H', I.unwish, r, q⟩
theorem PSs.nox {st : List Stmt} {t : TS} (h : PSs X.nox st t) : PSs X st t := ⟨fun pins s σ H D I hw =>
  wpAny_mono (h pins s σ H D (I.wish _) hw) (fun _ _ q => q.unwish) fun _ _ z => False.elim z⟩
end

/-! ### blocks and small statements -/
section
variable {X : Cx} {st : Stmt} {rest : List Stmt} {t u : TS} {e : Expr} {te : TE} {pos : Pos}
def tNext : TS := fun D σ H => D.nx σ H
def tSeq (t u : TS) : TS := fun D σ H => t { D with nx := u D } σ H
theorem pss_nil : PSs X [] tNext := ⟨fun _ _ σ H _ I h => wpAny_execs_nil ⟨σ, H, I, h⟩⟩
theorem pss_cons (h1 : PS X st t) (h2 : PSs X rest u) : PSs X (st :: rest) (tSeq t u) := by
  refine ⟨?_⟩
  intro pins s σ H D I h
  refine wpAny_execs_cons (thn (h1 pins s σ H { D with nx := u D } I h) fun f s1 q => ?_)
  cases f with
  | next =>
    obtain ⟨σ', H', I', q⟩ := q
    exact h2 pins s1 σ' H' D I' q
  | ret v => exact q
  | brk => exact q
  | cont => exact q
theorem pss_one (h1 : PS X st t) : PSs X [st] t := by
  refine ⟨?_⟩
  intro pins s σ H D I h
  refine wpAny_execs_cons (thn (h1 pins s σ H D I h) fun f s1 q => ?_)
  cases f with
  | next => exact wpAny_execs_nil q
  | ret v => exact q
  | brk => exact q
  | cont => exact q
/-- in a def's body nothing is shown -/
theorem Inv.quiet {pins : List (Addr × Obj)} {σ : St} {H : Hp} {s : Shared} (I : Inv X pins σ H s) : interactive X.env = false := by simp [interactive, I.ok.kind]
/-- an expression whose value is dropped -/
def tDrop (te : TE) : TS := fun D σ H => te σ H fun _ H1 => D.nx σ H1
theorem ps_expr (he : PE X e te) (hs : swapsWith e none pos.line X.env = pure false := by rfl) : PS X (.Expr e pos) (tDrop te) := by
  refine ⟨?_⟩
  intro pins s σ H D I h
  exact wpAny_Expr_any (thn (he pins s σ H _ I h) fun v s1 ⟨x, H1, I1, r1, q1⟩ => ⟨σ, H1, I1, q1⟩) I.quiet hs
def tRet (te : TE) : TS := fun D σ H => te σ H D.rt
theorem ps_ret (he : PE X e te) : PS X (.Return (some e) pos) (tRet te) := by
  refine ⟨?_⟩
  intro pins s σ H D I h
  exact wpAny_Return_some (thn (he pins s σ H _ I h) fun v s1 ⟨x, H1, I1, r1, q1⟩ => ⟨x, σ, H1, I1, r1, q1⟩)
def tIfS (c : TT) (t u : TS) : TS := fun D σ H => c σ H fun b H1 => if b = true then t D σ H1 else u D σ H1
theorem ps_if {c : Expr} {a b : List Stmt} {tc : TT} (hc : PT X c tc) (ha : PSs X a t) (hb : PSs X b u) : PS X (.If c a b pos) (tIfS tc t u) := by
  refine ⟨?_⟩
  intro pins s σ H D I h
  refine wpAny_If (thn (hc pins s σ H _ I h) fun d s1 ⟨H1, I1, q1⟩ => ?_)
  cases d with
  | true => exact ha pins s1 σ H1 D I1 q1
  | false => exact hb pins s1 σ H1 D I1 q1
end

/-! ### targets -/
abbrev TG := V → St → Hp → (St → Hp → Prop) → Prop
abbrev TGs := List V → St → Hp → (St → Hp → Prop) → Prop
structure PG (X : Cx) (target : Expr) (t : TG) : Prop where
  run : ∀ (pins : List (Addr × Obj)) (s : Shared) (σ : St) (H : Hp) (v : V) (u : Value) (Q : St → Hp → Prop), Inv X pins σ H s → RelV v u → t v σ H Q →
    wpAny (model X.prog X.w) X.A (assign target X.env u) (fun _ s' => ∃ σ' H', Inv X pins σ' H' s' ∧ Q σ' H') X.xe s
instance {X : Cx} {target : Expr} {t : TG} : CoeFun (PG X target t) (fun _ => ∀ (pins : List (Addr × Obj)) (s : Shared) (σ : St) (H : Hp) (v : V) (u : Value) (Q : St → Hp → Prop), Inv X pins σ H s → RelV v u → t v σ H Q →
    wpAny (model X.prog X.w) X.A (assign target X.env u) (fun _ s' => ∃ σ' H', Inv X pins σ' H' s' ∧ Q σ' H') X.xe s) := ⟨PG.run⟩

/-- several targets, one after another -/
structure PGs (X : Cx) (ts : List Expr) (t : TGs) : Prop where
  run : ∀ (pins : List (Addr × Obj)) (s : Shared) (σ : St) (H : Hp) (vs : List V) (us : List Value) (Q : St → Hp → Prop), Inv X pins σ H s → Vals vs us → t vs σ H Q →
    wpAny (model X.prog X.w) X.A (assignInOrder ((assignEach ts X.env).map (·.2)) us) (fun _ s' => ∃ σ' H', Inv X pins σ' H' s' ∧ Q σ' H') X.xe s
instance {X : Cx} {ts : List Expr} {t : TGs} : CoeFun (PGs X ts t) (fun _ => ∀ (pins : List (Addr × Obj)) (s : Shared) (σ : St) (H : Hp) (vs : List V) (us : List Value) (Q : St → Hp → Prop), Inv X pins σ H s → Vals vs us → t vs σ H Q →
    wpAny (model X.prog X.w) X.A (assignInOrder ((assignEach ts X.env).map (·.2)) us) (fun _ s' => ∃ σ' H', Inv X pins σ' H' s' ∧ Q σ' H') X.xe s) := ⟨PGs.run⟩

section
variable {X : Cx} {pos : Pos}
def gName (i : Nat) : TG := fun v σ H Q => Q (σ.set i (some v)) H
theorem pg_name {i : Nat} {x : Str} (hN : X.N.Nodup) (hi : X.N[i]? = some x) (hx : Loc X.env.scope x) (hf : X.fn x = true ∨ X.env.scope.names.lookup x = some .local := by first | exact .inl rfl | exact .inr rfl | assumption) : PG X (.Name x pos) (gName i) := by
  refine ⟨?_⟩
  intro pins s σ H v u Q I r h
  exact wpAny_assign_Name (store_ok I hN hi hx r (fun s' I' => ⟨_, H, I', h⟩) hf)
def gNil : TGs := fun vs σ H Q => vs = [] ∧ Q σ H
def gCons (t : TG) (u : TGs) : TGs := fun vs σ H Q => ∃ v r, vs = v :: r ∧ t v σ H fun σ' H' => u r σ' H' Q
theorem pgs_nil : PGs X [] gNil := by
  refine ⟨?_⟩
  intro pins s σ H vs us Q I r h
  obtain ⟨e, h⟩ := h
  subst e
  cases r
  exact assignInOrder_nil ⟨σ, H, I, h⟩
theorem pgs_cons {e : Expr} {es : List Expr} {t : TG} {u : TGs} (h1 : PG X e t) (h2 : PGs X es u)
    (hs : (assignEach (e :: es) X.env).map (·.2) = assign e X.env :: (assignEach es X.env).map (·.2) := by rfl) : PGs X (e :: es) (gCons t u) := by
  refine ⟨?_⟩
  intro pins s σ H vs us Q I r h
  obtain ⟨v, vr, e1, h⟩ := h
  subst e1
  cases r with
  | cons r rr =>
    rw [hs]
    refine assignInOrder_cons (thn (h1 pins s σ H _ _ _ I r h) fun _ s1 ⟨σ1, H1, I1, q1⟩ => ?_)
    exact h2 pins s1 σ1 H1 _ _ Q I1 rr q1
/-- (a, b, ..) = a tuple of that length -/
def gTup (K : PySem.W.Frag) (n : Nat) (t : TGs) : TG := fun v σ H Q => ∃ a xs, v = .ref a ∧ SqT K H a xs ∧ xs.length = n ∧ t xs σ H Q
theorem pg_tup {es : List Expr} {k : Nat} {t : TGs} {n : Nat} (hc : X.calm = true) (h : PGs X es t)
    (hn : (assignEach es X.env).length = n := by rfl) (hst : (assignEach es X.env).findIdx? (·.1) = none := by rfl) : PG X (.Tuple es k pos) (gTup X.K n t) := by
  refine ⟨?_⟩
  intro pins s σ H v u Q I r hw
  obtain ⟨a, xs, e1, hq, hl, hw⟩ := hw
  subst e1
  cases r
  obtain ⟨its, rv, ht, hz⟩ := I.tuple hq
  refine assign_Tuple_tuple (I.ok.hd hc) ht (by simp [hn, ← hl, rv.length]) hst fun h' hx => ?_
  have I1 : Inv X pins σ H { s with heap := h' } := I.kept (t' := s.toks) fun b o e => hx b o (Nat.ne_of_lt (Heap.lt_size e)) e
  exact h pins _ σ H xs _ Q I1 (by simpa using rv) hw
/-- target = value -/
def tAsg (te : TE) (g : TG) : TS := fun D σ H => te σ H fun x H1 => g x σ H1 D.nx
/-- name = value -/
theorem ps_set {i : Nat} {x : Str} {e : Expr} {te : TE} {pos' : Pos} (hN : X.N.Nodup) (hi : X.N[i]? = some x) (hx : Loc X.env.scope x) (he : PE X e te) (hs : swapsWith e (some (.Name x pos')) pos.line X.env = pure false := by rfl) (hf : X.fn x = true ∨ X.env.scope.names.lookup x = some .local := by first | exact .inl rfl | exact .inr rfl | assumption) :
    PS X (.Assign [.Name x pos'] e pos) (tAsg te (gName i)) := by
  refine ⟨?_⟩
  intro pins s σ H D I h
  refine wpAny_Assign_Name (thn (he pins s σ H _ I h) fun v s1 ⟨y, H1, I1, r1, q1⟩ => ?_) hs
  exact store_ok I1 hN hi hx r1 (fun s2 I2 => ⟨_, H1, I2, q1⟩) hf
end

/-! ### while -/
section
variable {X : Cx} {pos : Pos}
end

/-! ### what a loop or a comprehension walks -/
/-- at turn i: it yields x (the heap may grow), or it stops -/
structure It where
  go : Nat → Hp → Prop
  yld : Nat → Hp → V → Hp → Prop
  stop : Nat → Hp → Prop
/-- the iterator's own objects may turn: they are not the frame's, not pinned, younger than the entry (or a comprehension's own) -/
def FpOk (X : Cx) (pins : List (Addr × Obj)) (H : Hp) (b : Addr) : Prop :=
  H b = none ∧ b ≠ X.env.locals ∧ b ∉ X.fs ∧ (b ∈ X.ex ∨ X.s₀.heap.objs.size ≤ b) ∧ (∀ x c, X.env.cells.lookup x = some c → c ≠ b) ∧ ∀ p ∈ X.pn ++ pins, p.1 ≠ b
theorem Inv.fpOk {X : Cx} {pins : List (Addr × Obj)} {σ : St} {H H' : Hp} {s : Shared} {b : Addr} (I : Inv X pins σ H s) (hb : s.heap.objs.size ≤ b) (hn : H' b = none) : FpOk X pins H' b := by
  refine ⟨hn, Nat.ne_of_gt (Nat.lt_of_lt_of_le I.lt hb), I.nofs hb, .inr (Nat.le_trans I.sz hb), fun x c e z => ?_, fun p hp z => ?_⟩
  · obtain ⟨v, q⟩ := I.cell x c e
    exact absurd (Nat.lt_of_lt_of_le q.lt (by rw [z]; exact hb)) (Nat.lt_irrefl _)
  · exact absurd (Nat.lt_of_lt_of_le (Heap.lt_size (I.pin p hp).1) (by rw [z]; exact hb)) (Nat.lt_irrefl _)
structure Turn (P : Program) (w : World) (K : PySem.W.Frag) (tg : Expr) (J : It) (fp : List Addr) (it : Addr) (tn : Nat → Heap → Prop) : Prop where
  mem : it ∈ fp
  obj : ∀ i h, tn i h → ∀ b ∈ fp, ∃ o, h.get? b = some o ∧ ∀ v, o.data ≠ .cell v
  keep : ∀ i h h', tn i h → (∀ b ∈ fp, ∀ o, h.get? b = some o → h'.get? b = some o) → tn i h'
  item : ∀ (X : Cx), X.prog = P → X.w = w → X.K = K → X.calm = true → ∀ (i : Nat) (pins : List (Addr × Obj)) (s : Shared) (σ : St) (H : Hp) (E : Value → Shared → Prop), Inv X pins σ H s → (∀ b ∈ fp, FpOk X pins H b) → tn i s.heap → J.go i H →
    wpAny (model P w) X.A (pyNext (.ref it)) (fun r s1 => ∃ u, r = some u ∧
      wpAny (model P w) X.A (letOwnedTupleGo tg (.ref it) u) (fun _ s2 => ∃ x H', Inv X pins σ H' s2 ∧ RelV x u ∧ J.yld i H x H' ∧ tn (i + 1) s2.heap ∧ ∀ b ∈ fp, H' b = none) E s1) E s
  done : ∀ (X : Cx), X.prog = P → X.w = w → X.K = K → X.calm = true → ∀ (i : Nat) (pins : List (Addr × Obj)) (s : Shared) (σ : St) (H : Hp) (E : Value → Shared → Prop), Inv X pins σ H s → (∀ b ∈ fp, FpOk X pins H b) → tn i s.heap → J.stop i H →
    wpAny (model P w) X.A (pyNext (.ref it)) (fun r s1 => r = none ∧ Inv X pins σ H s1) E s
  self : ∀ (A : Around) (i : Nat) (s : Shared) (Q : Value → Shared → Prop) (E : Value → Shared → Prop), tn i s.heap → Q (.ref it) s → wpAny (model P w) A (pyIter (.ref it)) Q E s
abbrev TI := St → Hp → (It → Hp → Prop) → Prop
/-- an iterator has come -/
def PIE (X : Cx) (pins : List (Addr × Obj)) (σ : St) (tg : Expr) (R : It → Hp → Prop) (itv : Value) (s2 : Shared) : Prop :=
  ∃ (it : Addr) (fp : List Addr) (tn : Nat → Heap → Prop) (J : It) (H' : Hp), itv = .ref it ∧ Inv X pins σ H' s2 ∧ Turn X.prog X.w X.K tg J fp it tn ∧ tn 0 s2.heap ∧ (∀ b ∈ fp, FpOk X pins H' b) ∧ R J H'
structure PI (X : Cx) (tg iter : Expr) (wi : TI) : Prop where
  run : ∀ (pins : List (Addr × Obj)) (s : Shared) (σ : St) (H : Hp) (R : It → Hp → Prop), Inv X pins σ H s → wi σ H R →
    wpAny (model X.prog X.w) X.A (eval iter X.env) (fun v s1 => wpAny (model X.prog X.w) X.A (pyIter v) (PIE X pins σ tg R) X.xe s1) X.xe s
instance {X : Cx} {tg iter : Expr} {wi : TI} : CoeFun (PI X tg iter wi) (fun _ => ∀ (pins : List (Addr × Obj)) (s : Shared) (σ : St) (H : Hp) (R : It → Hp → Prop), Inv X pins σ H s → wi σ H R →
    wpAny (model X.prog X.w) X.A (eval iter X.env) (fun v s1 => wpAny (model X.prog X.w) X.A (pyIter v) (PIE X pins σ tg R) X.xe s1) X.xe s) := ⟨PI.run⟩

/-- the step ahead of the store is nothing for an iterator that keeps no tuple -/
theorem go_of {M : Model} {A : Around} {E : Value → Shared → Prop} {s : Shared} {tg : Expr} {it : Addr} {u : Value} {o : Obj} {n : String} {vs : Array Value} {Q : Unit → Shared → Prop} (ho : s.heap.get? it = some o) (hc : o.cls = .type n) (hd : o.data = .fields vs)
    (hn : ["enumerate", "zip", "dict_itemiterator", "dict_reverseitemiterator", "odict_iterator", "itertools.zip_longest", "itertools.pairwise"].contains n = false) (hQ : Q () s) : wpAny M A (letOwnedTupleGo tg (.ref it) u) Q E s := by
  unfold letOwnedTupleGo
  cases tg <;> first
    | exact wpAny_pure hQ
    | (cases u <;> first
        | exact wpAny_pure hQ
        | (refine wpAny_bind (wpAny_load ho ?_)
           rw [hc, hd]
           show wpAny M A (if (["enumerate", "zip", "dict_itemiterator", "dict_reverseitemiterator", "odict_iterator", "itertools.zip_longest", "itertools.pairwise"].contains n && vs[0]? == some (rawInt _)) = true then _ else _) Q E s
           rw [if_neg (by intro h; rw [hn, Bool.false_and] at h; cases h)]
           exact wpAny_pure hQ))

/-- the list at a, as it stands at each turn (a loop may append to it) -/
def Itl (K : PySem.W.Frag) (a : Addr) : It :=
  ⟨fun i H => ∃ xs x, SqL K H a xs ∧ xs[i]? = some x, fun i H x H' => H' = H ∧ ∀ xs, SqL K H a xs → xs[i]? = some x, fun i H => ∃ xs, SqL K H a xs ∧ xs.length ≤ i⟩
/-- lo, lo + 1, .. (n of them) -/
def Itr (lo : Int) (n : Nat) : It := ⟨fun i _ => i < n, fun i H x H' => H' = H ∧ x = .int (lo + i), fun i _ => n ≤ i⟩
theorem turn_list {P : Program} {w : World} {K : PySem.W.Frag} {tg : Expr} (a it : Addr) : Turn P w K tg (Itl K a) [it] it (fun i h => h.IsListIter it a i) where
  mem := by simp
  obj := fun i h st b hb => by
    have e : b = it := by simpa using hb
    subst e
    obtain ⟨o, e, c, d⟩ := st
    exact ⟨o, e, fun v z => by rw [d] at z; cases z⟩
  keep := fun i h h' st k => st.at fun o e => k it (by simp) o e
  item := by
    intro X hP hw hK hc i pins s σ H E I hf st hg
    subst hP hw hK
    obtain ⟨xs, x, hq, hx⟩ := hg
    obtain ⟨its, rv, p, hz⟩ := I.list hq
    obtain ⟨u, hu, ru⟩ := rv.get hx
    obtain ⟨f0, f1, f2, f3, f4, f5⟩ := hf it (by simp)
    refine wpAny_pyNext_list_item st p.isList (x := u) (by simpa using hu) fun h' st' sb => ?_
    have I1 : Inv X pins σ H { s with heap := h' } := I.turned (t' := s.toks) (fun b o hb e => (sb.2 b hb).trans e) f0 f1 f3 f4 f5
    obtain ⟨o, e, c, d⟩ := id st'
    exact ⟨u, rfl, go_of (s := { s with heap := h' }) e c d (by decide) ⟨x, H, I1, ru, ⟨rfl, fun ys hy => by rw [I.list_inj hy hq]; exact hx⟩, st', fun b hb => (hf b hb).1⟩⟩
  done := by
    intro X hP hw hK hc i pins s σ H E I hf st hg
    subst hP hw hK
    obtain ⟨xs, hq, hx⟩ := hg
    obtain ⟨its, rv, p, hz⟩ := I.list hq
    obtain ⟨f0, f1, f2, f3, f4, f5⟩ := hf it (by simp)
    have hl := rv.length
    exact wpAny_pyNext_list_end (I.ok.hd hc) st p.isList (by simp; omega) fun h' eb => ⟨rfl, I.turned (t' := s.toks) (fun b o hb e => eb b o hb e) f0 f1 f3 f4 f5⟩
  self := fun _ _ _ _ _ st h => wpAny_pyIter_listiter st h
theorem turn_range {P : Program} {w : World} {K : PySem.W.Frag} {tg : Expr} (it : Addr) (lo : Int) (n : Nat) : Turn P w K tg (Itr lo n) [it] it (fun i h => IsRangeIter h it (lo + (i : Nat) * 1) ((n : Int) - (i : Nat)) 1) where
  mem := by simp
  obj := fun i h st b hb => by
    have e : b = it := by simpa using hb
    subst e
    exact ⟨_, st, fun v z => by
      have z' : Data.fields _ = Data.cell v := z
      cases z'⟩
  keep := fun i h h' st k => k it (by simp) _ st
  item := by
    intro X hP hw hK hc i pins s σ H E I hf st hg
    subst hP hw hK
    obtain ⟨f0, f1, f2, f3, f4, f5⟩ := hf it (by simp)
    have W := Walks.range (prog := X.prog) (w := X.w) (I.ok.hd hc) it lo 1 n
    refine W.item i s _ _ hg st fun v h' tk hv st' kk => ?_
    obtain ⟨t, rfl⟩ := hv
    have I1 : Inv X pins σ H { s with heap := h', toks := tk } := I.turned (fun b o hb e => kk b o (by simpa using hb) e) f0 f1 f3 f4 f5
    refine ⟨_, rfl, go_of (s := { s with heap := h', toks := tk }) (n := "range_iterator") st' rfl rfl (by decide) ⟨.int (lo + i), H, I1, ⟨t, ?_⟩, ⟨rfl, rfl⟩, st', fun b hb => (hf b hb).1⟩⟩
    rw [Int.mul_one]
  done := by
    intro X hP hw hK hc i pins s σ H E I hf st hg
    subst hP hw hK
    obtain ⟨f0, f1, f2, f3, f4, f5⟩ := hf it (by simp)
    exact wpAny_pyNext_range_end (I.ok.hd hc) st (by have : n ≤ i := hg; omega) fun h' eb => ⟨rfl, I.turned (t' := s.toks) (fun b o hb e => eb b o hb e) f0 f1 f3 f4 f5⟩
  self := fun _ _ _ _ _ st h => wpAny_pyIter_rangeiter st h
end L2

namespace L2
open PySem PySem.Spec PyProof.Rows
section
variable {X : Cx} {tg : Expr}
def iList (K : PySem.W.Frag) (tl : TE) : TI := fun σ H R => tl σ H fun x H1 => ∃ a, x = .ref a ∧ (∃ xs, SqL K H1 a xs) ∧ R (Itl K a) H1
theorem pi_list {l : Expr} {tl : TE} (hl : PE X l tl) : PI X tg l (iList X.K tl) := by
  refine ⟨?_⟩
  intro pins s σ H R I h
  refine thn (hl pins s σ H _ I h) fun v s1 ⟨x, H1, I1, r1, q1⟩ => ?_
  obtain ⟨a, e, ⟨xs, hq⟩, q⟩ := q1
  subst e
  cases r1
  obtain ⟨its, rv, p, hz⟩ := I1.list hq
  refine wpAny_pyIter_list p.isList ?_
  refine ⟨s1.heap.objs.size, [s1.heap.objs.size], _, _, H1, rfl, I1.kept (t' := s1.toks) fun b o e => Heap.get?_push_of_some _ e, turn_list a _, ⟨_, Heap.get?_push_size _ rfl, rfl, rfl⟩, fun b hb => ?_, q⟩
  have e : b = s1.heap.objs.size := by simpa using hb
  subst e
  exact I1.fpOk (Nat.le_refl _) (I1.hok.fresh (Nat.le_refl _))
/-- a range object just made, walked -/
theorem range_it {pins : List (Addr × Obj)} {σ : St} {H : Hp} {s : Shared} {R : It → Hp → Prop} {E : Value → Shared → Prop} {lo hi : Int} {t u v : Tok} {tk : Nat} (I : Inv X pins σ H s) (h1 : -(2 ^ 62) ≤ lo) (h2 : lo < 2 ^ 62) (h3 : -(2 ^ 62) ≤ hi) (h4 : hi < 2 ^ 62)
    (q : R (Itr lo (hi - lo).toNat) H) : wpAny (model X.prog X.w) X.A (pyIter (.ref s.heap.objs.size)) (PIE X pins σ tg R) E { s with heap := s.heap.push { cls := .type "range", data := .fields #[.int lo t, .int hi u, .int 1 v] }, toks := tk } := by
  refine wpAny_pyIter_range (IsRange.new ..) (small_one h1 h2 h3 h4) ?_
  have I1 : Inv X pins σ H { s with heap := s.heap.push { cls := .type "range", data := .fields #[.int lo t, .int hi u, .int 1 v] }, toks := tk } := I.kept fun b o e => Heap.get?_push_of_some _ e
  refine ⟨(s.heap.push { cls := .type "range", data := .fields #[.int lo t, .int hi u, .int 1 v] }).objs.size, [(s.heap.push { cls := .type "range", data := .fields #[.int lo t, .int hi u, .int 1 v] }).objs.size], _, _, H, rfl,
    I1.kept (t' := tk) fun b o e => Heap.get?_push_of_some _ e, turn_range _ lo (hi - lo).toNat, ?_, fun b hb => ?_, q⟩
  · have e1 : lo + ((0 : Nat) : Int) * 1 = lo := by simp
    have e2 : (((hi - lo).toNat : Nat) : Int) - ((0 : Nat) : Int) = Builtin.Range.rangeSize lo hi 1 := by rw [rangeSize_one]; split <;> omega
    show IsRangeIter _ _ (lo + ((0 : Nat) : Int) * 1) ((((hi - lo).toNat : Nat) : Int) - ((0 : Nat) : Int)) 1
    rw [e1, e2]
    exact Heap.get?_push_size _ rfl
  · have e : b = (s.heap.push { cls := .type "range", data := .fields #[.int lo t, .int hi u, .int 1 v] }).objs.size := by simpa using hb
    subst e
    exact I1.fpOk (Nat.le_refl _) (I1.hok.fresh (Nat.le_refl _))
def iRng1 (ta : TA) : TI := fun σ H R => ta σ H fun vs H1 => ∃ j : Int, vs = [.int j] ∧ -(2 ^ 62) ≤ j ∧ j < 2 ^ 62 ∧ R (Itr 0 j.toNat) H1
theorem pi_range1 {a : Expr} {ta : TA} {p pos : Pos} (hg : Gl X "range") (hm : X.mg "range" = none) (ha : PA X [a] ta) (hs : starEach [a] X.env = [(false, eval a X.env)] := by rfl) : PI X tg (.Call (.Name "range" p) [a] [] pos) (iRng1 ta) := by
  refine ⟨?_⟩
  intro pins s σ H R I h
  refine Call_ (ld_blt I hg hm boot_range (PyProof.Rows.callWith_type1 (thn (ha pos pins s σ H _ I h) fun us s1 ⟨vs, H1, I1, r1, q1⟩ => ?_) hs rfl))
  obtain ⟨j, e, q1, q2, q⟩ := q1
  subst e
  cases r1 with
  | cons r rr =>
    cases rr
    obtain ⟨t, rfl⟩ := r
    exact call_range_1 (range_it I1 (by omega) (by omega) q1 q2 (by simpa using q))
/-! ### for -/
/-- W: the invariant by the turn and a measure; N: what the body is to reach -/
def tFor (wi : TI) (g : TG) (tb : TS) : TS := fun D σ H => wi σ H fun J H1 => ∃ W : Nat → Nat → St → Hp → Prop, (∃ m, W 0 m σ H1) ∧ ∀ i m σ H, W i m σ H →
  (J.stop i H ∧ D.nx σ H) ∨ (J.go i H ∧ ∃ N : St → Hp → Prop, (∀ σ' H', N σ' H' → ∃ m', m' < m ∧ W (i + 1) m' σ' H') ∧ ∀ x H', J.yld i H x H' → g x σ H' fun σ2 H2 => tb { D with nx := N, ct := N, bk := D.nx } σ2 H2)
/-- the records at fp as they stand -/
def pinsAt (fp : List Addr) (h : Heap) : List (Addr × Obj) := fp.filterMap fun b => (h.get? b).map fun o => (b, o)
theorem mem_pinsAt {fp : List Addr} {h : Heap} {b : Addr} {o : Obj} (hb : b ∈ fp) (e : h.get? b = some o) : (b, o) ∈ pinsAt fp h := List.mem_filterMap.mpr ⟨b, hb, by rw [e]; rfl⟩
theorem of_pinsAt {fp : List Addr} {h : Heap} {p : Addr × Obj} (hp : p ∈ pinsAt fp h) : p.1 ∈ fp ∧ h.get? p.1 = some p.2 := by
  obtain ⟨b, hb, e⟩ := List.mem_filterMap.mp hp
  cases q : h.get? b with
  | none => rw [q] at e; cases e
  | some o =>
    rw [q] at e
    have e' : (b, o) = p := Option.some.inj e
    subst e'
    exact ⟨hb, q⟩
theorem Inv.pinned {pins : List (Addr × Obj)} {σ : St} {H : Hp} {s : Shared} {fp : List Addr} (I : Inv X pins σ H s) (hf : ∀ b ∈ fp, FpOk X pins H b) (ho : ∀ b ∈ fp, ∃ o, s.heap.get? b = some o ∧ ∀ v, o.data ≠ .cell v) : Inv X (pins ++ pinsAt fp s.heap) σ H s :=
  I.pins_of fun p hp => (List.mem_append.mp hp).elim (fun z => I.pin p (List.mem_append_right _ z)) fun z => by
    obtain ⟨hb, e⟩ := of_pinsAt z
    obtain ⟨f0, f1, f2, _⟩ := hf p.1 hb
    obtain ⟨o, e', d⟩ := ho p.1 hb
    rw [e] at e'; cases e'
    exact ⟨e, f0, f1, f2, d⟩
theorem Inv.unpinned {pins pl : List (Addr × Obj)} {σ : St} {H : Hp} {s : Shared} (I : Inv X (pins ++ pl) σ H s) : Inv X pins σ H s := I.pins_of fun p hp => I.pin p (List.mem_append_right _ (List.mem_append_left _ hp))
theorem ps_for {iter : Expr} {body : List Stmt} {wi : TI} {g : TG} {tb : TS} {pos : Pos} (hp : PassesOwn (model X.prog X.w) X.A X.env X.xe) (hc : X.calm = true) (hi : PI X tg iter wi) (hg : PG X tg g) (hb : PSs X body tb)
    (hs : ∀ x, foldedSetIterable iter X.env x = pure x := by intro _; rfl) : PS X (.For tg iter body [] pos) (tFor wi g tb) := by
  refine ⟨?_⟩
  intro pins s σ H D I h
  refine wpAny_For (thn (hi pins s σ H _ I h) fun v s1 h1 => thn h1 fun itv s2 h2 => ?_) hs
  obtain ⟨it, fp, tn, J, H2, e, I2, T, st2, f2, W, ⟨m0, w0⟩, turn⟩ := h2
  subst e
  -- what stays true of the iterator's objects through the loop
  have stat : ∀ {H' : Hp}, (∀ b ∈ fp, H' b = none) → ∀ b ∈ fp, FpOk X pins H' b := fun hn b hb => ⟨hn b hb, (f2 b hb).2⟩
  refine codeAny_forLoop_any (fun n s' => ∃ i σ' H', Inv X pins σ' H' s' ∧ tn i s'.heap ∧ (∀ b ∈ fp, H' b = none) ∧ W i n σ' H') ?_ m0 ⟨0, σ, H2, I2, st2, fun b hb => (f2 b hb).1, w0⟩
  rintro n s3 ⟨i, σ3, H3, I3, st3, fr3, w3⟩
  rcases turn i n σ3 H3 w3 with ⟨stop, qn⟩ | ⟨go, N, hN, step⟩
  · refine wpAny_passesOwn hp (thn (T.done X rfl rfl rfl hc i pins s3 σ3 H3 X.xe I3 (stat fr3) st3 stop) fun r s4 ⟨hr, I4⟩ => ?_)
    subst hr
    exact wpAny_execs_nil ⟨σ3, H3, I4, qn⟩
  · refine wpAny_passesOwn hp (thn (T.item X rfl rfl rfl hc i pins s3 σ3 H3 X.xe I3 (stat fr3) st3 go) fun r s4 ⟨u, hr, h4⟩ => ?_)
    subst hr
    refine wpAny_passesOwn hp (thn h4 fun _ s5 ⟨x, H5, I5, r5, y5, st5, fr5⟩ => ?_)
    have I5' := I5.pinned (stat fr5) (T.obj _ _ st5)
    refine wpAny_passesOwn hp (thn (hg _ s5 σ3 H5 x u _ I5' r5 (step x H5 y5)) fun _ s6 ⟨σ6, H6, I6, q6⟩ => ?_)
    refine wpAny_passesOwn hp (thn (hb _ s6 σ6 H6 _ I6 q6) fun f s7 q7 => ?_)
    have again : ∀ {σ7 : St} {H7 : Hp}, Inv X (pins ++ pinsAt fp s5.heap) σ7 H7 s7 → N σ7 H7 → ∃ m, m < n ∧ ∃ i σ' H', Inv X pins σ' H' s7 ∧ tn i s7.heap ∧ (∀ b ∈ fp, H' b = none) ∧ W i m σ' H' := fun {σ7 H7} I7 n7 => by
      obtain ⟨m', hm, w7⟩ := hN σ7 H7 n7
      refine ⟨m', hm, i + 1, σ7, H7, I7.unpinned, T.keep _ _ _ st5 fun b hb o e => (I7.pin (b, o) (List.mem_append_right _ (List.mem_append_right _ (mem_pinsAt hb e)))).1, fun b hb => ?_, w7⟩
      obtain ⟨o, e, d⟩ := T.obj _ _ st5 b hb
      exact (I7.pin (b, o) (List.mem_append_right _ (List.mem_append_right _ (mem_pinsAt hb e)))).2.1
    cases f with
    | next => obtain ⟨σ7, H7, I7, n7⟩ := q7; exact again I7 n7
    | cont => obtain ⟨σ7, H7, I7, n7⟩ := q7; exact again I7 n7
    | brk => obtain ⟨σ7, H7, I7, q7⟩ := q7; exact ⟨σ7, H7, I7.unpinned, q7⟩
    | ret v => obtain ⟨x7, σ7, H7, I7, r7, q7⟩ := q7; exact ⟨x7, σ7, H7, I7.unpinned, r7, q7⟩
end

/-! ### the forms one uses -/
/-- over a list that the body leaves as it is -/
theorem for_list {K : PySem.W.Frag} {a : Addr} {xs : List V} {g : TG} {tb : TS} {D : Ends} {σ : St} {H : Hp} (Pv : Nat → St → Hp → Prop) (h0 : Pv 0 σ H) (hl : ∀ i σ H, i ≤ xs.length → Pv i σ H → SqL K H a xs)
    (hs : ∀ i x σ H, xs[i]? = some x → Pv i σ H → g x σ H fun σ2 H2 => tb { D with nx := Pv (i + 1), ct := Pv (i + 1), bk := D.nx } σ2 H2) (hd : ∀ σ H, Pv xs.length σ H → D.nx σ H) :
    ∃ W : Nat → Nat → St → Hp → Prop, (∃ m, W 0 m σ H) ∧ ∀ i m σ H, W i m σ H →
      ((Itl K a).stop i H ∧ D.nx σ H) ∨ ((Itl K a).go i H ∧ ∃ N : St → Hp → Prop, (∀ σ' H', N σ' H' → ∃ m', m' < m ∧ W (i + 1) m' σ' H') ∧ ∀ x H', (Itl K a).yld i H x H' → g x σ H' fun σ2 H2 => tb { D with nx := N, ct := N, bk := D.nx } σ2 H2) := by
  refine ⟨fun i m σ H => m = xs.length - i ∧ i ≤ xs.length ∧ Pv i σ H, ⟨xs.length, by simp, Nat.zero_le _, h0⟩, ?_⟩
  rintro i m σ H ⟨rfl, hi, p⟩
  have q := hl i σ H hi p
  by_cases hlt : i < xs.length
  · refine .inr ⟨⟨xs, xs[i], q, by simp [hlt]⟩, Pv (i + 1), fun σ' H' p' => ⟨xs.length - (i + 1), by omega, rfl, hlt, p'⟩, fun x H' y => ?_⟩
    obtain ⟨e, y⟩ := y
    subst e
    exact hs i x σ _ (y xs q) p
  · have e : i = xs.length := by omega
    subst e
    exact .inl ⟨⟨xs, q, Nat.le_refl _⟩, hd σ H p⟩
theorem for_range {lo : Int} {n : Nat} {g : TG} {tb : TS} {D : Ends} {σ : St} {H : Hp} (Pv : Nat → St → Hp → Prop) (h0 : Pv 0 σ H)
    (hs : ∀ i σ H, i < n → Pv i σ H → g (.int (lo + i)) σ H fun σ2 H2 => tb { D with nx := Pv (i + 1), ct := Pv (i + 1), bk := D.nx } σ2 H2) (hd : ∀ σ H, Pv n σ H → D.nx σ H) :
    ∃ W : Nat → Nat → St → Hp → Prop, (∃ m, W 0 m σ H) ∧ ∀ i m σ H, W i m σ H →
      ((Itr lo n).stop i H ∧ D.nx σ H) ∨ ((Itr lo n).go i H ∧ ∃ N : St → Hp → Prop, (∀ σ' H', N σ' H' → ∃ m', m' < m ∧ W (i + 1) m' σ' H') ∧ ∀ x H', (Itr lo n).yld i H x H' → g x σ H' fun σ2 H2 => tb { D with nx := N, ct := N, bk := D.nx } σ2 H2) := by
  refine ⟨fun i m σ H => m = n - i ∧ i ≤ n ∧ Pv i σ H, ⟨n, by simp, Nat.zero_le _, h0⟩, ?_⟩
  rintro i m σ H ⟨rfl, hi, p⟩
  by_cases hlt : i < n
  · refine .inr ⟨hlt, Pv (i + 1), fun σ' H' p' => ⟨n - (i + 1), by omega, rfl, hlt, p'⟩, fun x H' y => ?_⟩
    obtain ⟨e, y⟩ := y
    subst e y
    exact hs i σ _ hlt p
  · have e : i = n := by omega
    subst e
    exact .inl ⟨Nat.le_refl _, hd σ H p⟩
end L2

namespace L2
open PySem PySem.Spec PyProof.Rows

abbrev R2 := V → V → Hp → VK → Prop
/-- a two-place operation on values: f is binaryOp op, inplaceOp op or compareOp op -/
def OpR (X : Cx) (f : Value → Value → Sem Value) (r : R2) : Prop :=
  ∀ (pins : List (Addr × Obj)) (s : Shared) (σ : St) (H : Hp) (x y : V) (v u : Value) (Q : VK), Inv X pins σ H s → RelV x v → RelV y u → r x y H Q →
    wpAny (model X.prog X.w) X.A (f v u) (EP X pins σ Q) X.xe s
/-- a one-place operation -/
def UnR (X : Cx) (f : Value → Sem Value) (r : V → Hp → VK → Prop) : Prop :=
  ∀ (pins : List (Addr × Obj)) (s : Shared) (σ : St) (H : Hp) (x : V) (v : Value) (Q : VK), Inv X pins σ H s → RelV x v → r x H Q →
    wpAny (model X.prog X.w) X.A (f v) (EP X pins σ Q) X.xe s
/-- a call of a value that is known (a builtin, a type) with values -/
def CallR (X : Cx) (f : Value) (r : List V → Hp → VK → Prop) : Prop :=
  ∀ (pins : List (Addr × Obj)) (s : Shared) (σ : St) (H : Hp) (xs : List V) (us : List Value) (Q : VK), Inv X pins σ H s → Vals xs us → r xs H Q →
    wpAny (model X.prog X.w) X.A (call f us) (EP X pins σ Q) X.xe s
def tOp (r : R2) (ta tb : TE) : TE := fun σ H Q => ta σ H fun x H1 => tb σ H1 fun y H2 => r x y H2 Q
def tUn (r : V → Hp → VK → Prop) (ta : TE) : TE := fun σ H Q => ta σ H fun x H1 => r x H1 Q
/-- ints in, under C, and a value out -/
def rI (C : Int → Int → Prop) (g : Int → Int → V) : R2 := fun x y H Q => ∃ i j, x = .int i ∧ y = .int j ∧ C i j ∧ Q (g i j) H
def rI0 (g : Int → Int → V) : R2 := fun x y H Q => ∃ i j, x = .int i ∧ y = .int j ∧ Q (g i j) H
def rU (g : Int → V) : V → Hp → VK → Prop := fun x H Q => ∃ i, x = .int i ∧ Q (g i) H

section
variable {X : Cx} {a b c : Expr} {ta tb tc : TE} {pos : Pos}

theorem binT (ha : PE X a ta) (hb : PE X b tb) {pins : List (Addr × Obj)} {s : Shared} {σ : St} {H : Hp} {R : V → V → Hp → Prop} (I : Inv X pins σ H s)
    (h : ta σ H fun x H1 => tb σ H1 fun y H2 => R x y H2) {Q : Value → Shared → Prop} {f : Value → Value → Sem Value}
    (hf : ∀ v u s2 x y H2, Inv X pins σ H2 s2 → RelV x v → RelV y u → R x y H2 → wpAny (model X.prog X.w) X.A (f v u) Q X.xe s2) :
    wpAny (model X.prog X.w) X.A (eval a X.env) (fun v s₁ => wpAny (model X.prog X.w) X.A (eval b X.env) (fun u s₂ => wpAny (model X.prog X.w) X.A (f v u) Q X.xe s₂) X.xe s₁) X.xe s := by
  refine thn (ha pins s σ H _ I h) fun v s1 ⟨x, H1, I1, r1, q1⟩ => ?_
  refine thn (hb pins s1 σ H1 _ I1 q1) fun u s2 ⟨y, H2, I2, r2, q2⟩ => ?_
  exact hf v u s2 x y H2 I2 r1 r2 q2

theorem pe_op {op : Operator} {r : R2} (ho : OpR X (binaryOp op) r) (ha : PE X a ta) (hb : PE X b tb) : PE X (.BinOp a op b pos) (tOp r ta tb) := by
  refine ⟨?_⟩
  intro pins s σ H Q I h
  exact wpAny_BinOp (binT ha hb I h fun v u s2 x y H2 I2 rx ry q => ho pins s2 σ H2 x y v u Q I2 rx ry q)
theorem pe_un {op : UnaryOp} {r : V → Hp → VK → Prop} (ho : UnR X (unaryOp op) r) (ha : PE X a ta) : PE X (.UnaryOp op a pos) (tUn r ta) := by
  refine ⟨?_⟩
  intro pins s σ H Q I h
  exact UnaryOp_ (thn (ha pins s σ H _ I h) fun v s1 ⟨x, H1, I1, r1, q1⟩ => ho pins s1 σ H1 x v Q I1 r1 q1)
/-! ### ints -/
theorem opI {f : Value → Value → Sem Value} {C : Int → Int → Prop} {g : Int → Int → Int}
    (rule : ∀ (i j : Int) (t u : Tok) (s : Shared) (Q : Value → Shared → Prop) (E : Value → Shared → Prop), C i j → Q (.int (g i j) s.toks) { s with toks := s.toks + 1 } → wpAny (model X.prog X.w) X.A (f (.int i t) (.int j u)) Q E s) :
    OpR X f (rI C fun i j => .int (g i j)) := by
  intro pins s σ H x y v u Q I rx ry h
  obtain ⟨i, j, rfl, rfl, hc, q⟩ := h
  obtain ⟨t, rfl⟩ := rx
  obtain ⟨t', rfl⟩ := ry
  exact rule i j t t' s _ _ hc ⟨.int (g i j), H, I.tok _, ⟨_, rfl⟩, q⟩
theorem opI0 {f : Value → Value → Sem Value} {g : Int → Int → Int}
    (rule : ∀ (i j : Int) (t u : Tok) (s : Shared) (Q : Value → Shared → Prop) (E : Value → Shared → Prop), Q (.int (g i j) s.toks) { s with toks := s.toks + 1 } → wpAny (model X.prog X.w) X.A (f (.int i t) (.int j u)) Q E s) :
    OpR X f (rI0 fun i j => .int (g i j)) := by
  intro pins s σ H x y v u Q I rx ry h
  obtain ⟨i, j, rfl, rfl, q⟩ := h
  obtain ⟨t, rfl⟩ := rx
  obtain ⟨t', rfl⟩ := ry
  exact rule i j t t' s _ _ ⟨.int (g i j), H, I.tok _, ⟨_, rfl⟩, q⟩
theorem opB0 {f : Value → Value → Sem Value} {g : Int → Int → Bool}
    (rule : ∀ (i j : Int) (t u : Tok) (s : Shared) (Q : Value → Shared → Prop) (E : Value → Shared → Prop), Q (.bool (g i j)) s → wpAny (model X.prog X.w) X.A (f (.int i t) (.int j u)) Q E s) :
    OpR X f (rI0 fun i j => .bl (g i j)) := by
  intro pins s σ H x y v u Q I rx ry h
  obtain ⟨i, j, rfl, rfl, q⟩ := h
  obtain ⟨t, rfl⟩ := rx
  obtain ⟨t', rfl⟩ := ry
  exact rule i j t t' s _ _ ⟨.bl (g i j), H, I, rfl, q⟩

def CDiv (i j : Int) : Prop := 0 < j ∧ j < 1073741824
def CPow (i j : Int) : Prop := 0 ≤ j ∧ j ≤ 1000000 ∧ i.natAbs < 2 ^ 64
def CMul (i j : Int) : Prop := (-(2 ^ 64) < i ∧ i < 2 ^ 64) ∨ (-(2 ^ 64) < j ∧ j < 2 ^ 64)
theorem CMul.ok {i j : Int} (h : CMul i j) : IntMulOk i j := by
  rcases h with ⟨h1, h2⟩ | ⟨h1, h2⟩
  · exact .of_left (intBits_le_64 h1 h2)
  · exact .of_right (intBits_le_64 h1 h2)
theorem op_add : OpR X (binaryOp .Add) (rI0 fun i j => .int (i + j)) := opI0 fun _ _ _ _ _ _ _ q => add_int q
theorem op_sub : OpR X (binaryOp .Sub) (rI0 fun i j => .int (i - j)) := opI0 fun _ _ _ _ _ _ _ q => sub_int q
theorem op_mul : OpR X (binaryOp .Mult) (rI CMul fun i j => .int (i * j)) := opI fun _ _ _ _ _ _ _ hc q => mul_int q hc.ok
/-- // by a positive divisor -/
theorem op_fdiv : OpR X (binaryOp .FloorDiv) (rI CDiv fun i j => .int (i / j)) := opI fun i j _ _ _ _ _ hc q => by
  have h1 : (0 : Int) < j := hc.1
  have h2 : j < 1073741824 := hc.2
  exact floordiv_int (by omega) (by rw [Int.fdiv_eq_ediv_of_nonneg i (by omega)]; exact q) (.inl (PyProof.noPylong_small (by omega)))
/-- % by a positive divisor of any size -/
theorem op_mod : OpR X (binaryOp .Mod) (rI (fun _ j => 0 < j) fun i j => .int (i % j)) := opI fun i j _ _ _ _ _ hc q => by
  have h1 : (0 : Int) < j := hc
  exact mod_int' (by omega) (by rw [Int.fmod_eq_emod_of_nonneg i (by omega)]; exact q)
theorem op_pow : OpR X (binaryOp .Pow) (rI CPow fun i j => .int (i ^ j.toNat)) := opI fun _ _ _ _ _ _ _ hc q => pow_int_small hc.1 hc.2.1 hc.2.2 q
theorem unI {f : Value → Sem Value} {g : Int → Int}
    (rule : ∀ (i : Int) (t : Tok) (s : Shared) (Q : Value → Shared → Prop) (E : Value → Shared → Prop), Q (.int (g i) s.toks) { s with toks := s.toks + 1 } → wpAny (model X.prog X.w) X.A (f (.int i t)) Q E s) :
    UnR X f (rU fun i => .int (g i)) := by
  intro pins s σ H x v Q I rx h
  obtain ⟨i, rfl, q⟩ := h
  obtain ⟨t, rfl⟩ := rx
  exact rule i t s _ _ ⟨.int (g i), H, I.tok _, ⟨_, rfl⟩, q⟩
theorem un_neg : UnR X (unaryOp .USub) (rU fun i => .int (-i)) := unI fun _ _ _ _ _ q => neg_int q
/-! ### bools among ints: n += (a < b) -/
end

/-! ### comparisons -/
/-- the scalars that == tells apart as data does -/
def scal : V → V → Bool
  | .non, .non => true | .non, .int _ => true | .int _, .non => true | .non, .bl _ => true | .bl _, .non => true | .non, .str _ => true | .str _, .non => true
  | .int _, .int _ => true | .bl _, .bl _ => true | .str _, .str _ => true | .byt _, .byt _ => true
  | .int _, .str _ => true | .str _, .int _ => true | .bl _, .str _ => true | .str _, .bl _ => true
  | _, _ => false
def rEq : R2 := fun x y H Q => scal x y = true ∧ Q (.bl (decide (x = y))) H
def rNe : R2 := fun x y H Q => scal x y = true ∧ Q (.bl (!decide (x = y))) H

theorem dec_int {i j : Int} : decide (V.int i = V.int j) = (i == j) := by
  rw [Bool.eq_iff_iff]
  simp
theorem dec_bl {i j : Bool} : decide (V.bl i = V.bl j) = (i == j) := by
  rw [Bool.eq_iff_iff]
  simp
theorem dec_str {i j : Str} : decide (V.str i = V.str j) = (i == j) := by
  rw [Bool.eq_iff_iff]
  simp
theorem dec_byt {i j : Array UInt8} : decide (V.byt i = V.byt j) = (i.toList == j.toList) := by
  rw [Bool.eq_iff_iff]
  cases i
  cases j
  simp

section
variable {X : Cx} {a b c : Expr} {ta tb tc : TE} {pos : Pos}
theorem fin_bl {pins : List (Addr × Obj)} {σ : St} {H : Hp} {s : Shared} {Q : VK} {k k' : Bool} (I : Inv X pins σ H s) (q : Q (.bl k) H) (e : k = k') : EP X pins σ Q (.bool k') s := by
  subst e
  exact ⟨.bl k, H, I, rfl, q⟩
theorem op_eq : OpR X (compareOp .Eq) rEq := by
  intro pins s σ H x y v u Q I rx ry h
  obtain ⟨hs, q⟩ := h
  cases x with
  | non =>
    cases rx
    cases y with
    | non => cases ry; exact PySem.EqNone.eq_none_none (fin_bl I q (by simp))
    | bl j => cases ry; exact PySem.EqNone.eq_none_bool (fin_bl I q (by simp))
    | int j => obtain ⟨t', rfl⟩ := ry; exact PySem.EqNone.eq_none_int (fin_bl I q (by simp))
    | str j => obtain ⟨t', rfl⟩ := ry; exact PySem.EqNone.eq_none_str (fin_bl I q (by simp))
    | _ => exact absurd (show false = true from hs) Bool.false_ne_true
  | bl i =>
    cases rx
    cases y with
    | non => cases ry; exact PySem.EqNone.eq_bool_none (fin_bl I q (by simp))
    | bl j => cases ry; exact eq_bool (fin_bl I q dec_bl)
    | str j => obtain ⟨t', rfl⟩ := ry; exact PySem.EqMixed.eq_bool_str (fin_bl I q (by simp))
    | _ => exact absurd (show false = true from hs) Bool.false_ne_true
  | int i =>
    obtain ⟨t, rfl⟩ := rx
    cases y with
    | non => cases ry; exact PySem.EqNone.eq_int_none (fin_bl I q (by simp))
    | int j => obtain ⟨t', rfl⟩ := ry; exact eq_int (fin_bl I q dec_int)
    | str j => obtain ⟨t', rfl⟩ := ry; exact PySem.EqMixed.eq_int_str (fin_bl I q (by simp))
    | _ => exact absurd (show false = true from hs) Bool.false_ne_true
  | str i =>
    obtain ⟨t, rfl⟩ := rx
    cases y with
    | non => cases ry; exact PySem.EqNone.eq_str_none (fin_bl I q (by simp))
    | bl j => cases ry; exact PySem.EqMixed.eq_str_bool (fin_bl I q (by simp))
    | int j => obtain ⟨t', rfl⟩ := ry; exact PySem.EqMixed.eq_str_int (fin_bl I q (by simp))
    | str j => obtain ⟨t', rfl⟩ := ry; exact eq_str (fin_bl I q dec_str)
    | _ => exact absurd (show false = true from hs) Bool.false_ne_true
  | byt i =>
    obtain ⟨t, rfl⟩ := rx
    cases y with
    | byt j => obtain ⟨t', rfl⟩ := ry; exact PySem.W.eq_bytes (fin_bl I q dec_byt)
    | _ => exact absurd (show false = true from hs) Bool.false_ne_true
  | _ => cases y <;> exact absurd (show false = true from hs) Bool.false_ne_true
theorem op_ne : OpR X (compareOp .NotEq) rNe := by
  intro pins s σ H x y v u Q I rx ry h
  obtain ⟨hs, q⟩ := h
  cases x with
  | non =>
    cases rx
    cases y with
    | non => cases ry; exact PySem.EqNone.ne_none_none (fin_bl I q (by simp))
    | bl j => cases ry; exact PySem.EqNone.ne_none_bool (fin_bl I q (by simp))
    | int j => obtain ⟨t', rfl⟩ := ry; exact PySem.EqNone.ne_none_int (fin_bl I q (by simp))
    | str j => obtain ⟨t', rfl⟩ := ry; exact PySem.EqNone.ne_none_str (fin_bl I q (by simp))
    | _ => exact absurd (show false = true from hs) Bool.false_ne_true
  | bl i =>
    cases rx
    cases y with
    | non => cases ry; exact PySem.EqNone.ne_bool_none (fin_bl I q (by simp))
    | bl j => cases ry; exact ne_bool (fin_bl I q (congrArg not dec_bl))
    | str j => obtain ⟨t', rfl⟩ := ry; exact PySem.EqMixed.ne_bool_str (fin_bl I q (by simp))
    | _ => exact absurd (show false = true from hs) Bool.false_ne_true
  | int i =>
    obtain ⟨t, rfl⟩ := rx
    cases y with
    | non => cases ry; exact PySem.EqNone.ne_int_none (fin_bl I q (by simp))
    | int j => obtain ⟨t', rfl⟩ := ry; exact ne_int (fin_bl I q (congrArg not dec_int))
    | str j => obtain ⟨t', rfl⟩ := ry; exact PySem.EqMixed.ne_int_str (fin_bl I q (by simp))
    | _ => exact absurd (show false = true from hs) Bool.false_ne_true
  | str i =>
    obtain ⟨t, rfl⟩ := rx
    cases y with
    | non => cases ry; exact PySem.EqNone.ne_str_none (fin_bl I q (by simp))
    | bl j => cases ry; exact PySem.EqMixed.ne_str_bool (fin_bl I q (by simp))
    | int j => obtain ⟨t', rfl⟩ := ry; exact PySem.EqMixed.ne_str_int (fin_bl I q (by simp))
    | str j => obtain ⟨t', rfl⟩ := ry; exact ne_str (fin_bl I q (congrArg not dec_str))
    | _ => exact absurd (show false = true from hs) Bool.false_ne_true
  | byt i =>
    obtain ⟨t, rfl⟩ := rx
    cases y with
    | byt j => obtain ⟨t', rfl⟩ := ry; exact PySem.W.ne_bytes (fin_bl I q (congrArg not dec_byt))
    | _ => exact absurd (show false = true from hs) Bool.false_ne_true
  | _ => cases y <;> exact absurd (show false = true from hs) Bool.false_ne_true

theorem op_lt : OpR X (compareOp .Lt) (rI0 fun i j => .bl (decide (i < j))) := opB0 fun _ _ _ _ _ _ _ q => lt_int q
theorem op_le : OpR X (compareOp .LtE) (rI0 fun i j => .bl (decide (i ≤ j))) := opB0 fun _ _ _ _ _ _ _ q => le_int q
theorem op_gt : OpR X (compareOp .Gt) (rI0 fun i j => .bl (decide (j < i))) := opB0 fun _ _ _ _ _ _ _ q => gt_int q
/-- the one string within the other -/
theorem op_in_str : OpR X (compareOp .In) (fun x y H Q => ∃ i j, x = .str i ∧ y = .str j ∧ Q (.bl (!(Builtin.Str.occurrences j i 0 j.length 1).isEmpty)) H) := by
  intro pins s σ H x y v u Q I rx ry h
  obtain ⟨i, j, rfl, rfl, q⟩ := h
  obtain ⟨t, rfl⟩ := rx
  obtain ⟨t', rfl⟩ := ry
  exact in_str (fin_bl I q rfl)

theorem nomark (b : Expr) {op : CmpOp} (h : op ≠ .In := by decide) (h2 : op ≠ .NotIn := by decide) : behindInMarks op b = false := by
  have e1 : (op == CmpOp.In) = false := by cases op <;> first | rfl | exact absurd rfl h
  have e2 : (op == CmpOp.NotIn) = false := by cases op <;> first | rfl | exact absurd rfl h2
  cases b <;> simp [behindInMarks, e1, e2]
/-- a comparison as a value; hm: nomark b, or (for in, not in) by with_unfolding_all rfl -/
theorem pe_cmpR {op : CmpOp} {r : R2} (ho : OpR X (compareOp op) r) (ha : PE X a ta) (hb : PE X b tb) (hm : behindInMarks op b = false) : PE X (.Compare a [op] [b] pos) (tOp r ta tb) := by
  refine ⟨?_⟩
  intro pins s σ H Q I h
  exact wpAny_Compare1 (binT ha hb I h fun v u s2 x y H2 I2 rx ry q => ho pins s2 σ H2 x y v u Q I2 rx ry q) hm
/-- a reading of a value as a test -/
def tTest (t : TE) : TT := fun σ H Q => t σ H fun x H' => ∃ k, x = .bl k ∧ Q k H'
theorem pt_cmpR {op : CmpOp} {r : R2} (ho : OpR X (compareOp op) r) (ha : PE X a ta) (hb : PE X b tb) (hm : behindInMarks op b = false) : PT X (.Compare a [op] [b] pos) (tTest (tOp r ta tb)) := by
  refine ⟨?_⟩
  intro pins s σ H Q I h
  refine wpAny_isTrue_Compare1 (thn (ha pins s σ H _ I h) fun v s1 ⟨x, H1, I1, r1, q1⟩ => thn (hb pins s1 σ H1 _ I1 q1) fun u s2 ⟨y, H2, I2, r2, q2⟩ =>
    thn (ho pins s2 σ H2 x y v u _ I2 r1 r2 q2) fun c s3 ⟨z, H3, I3, r3, k, e, q3⟩ => ?_) hm
  subst e
  cases r3
  exact wpAny_truthy_bool ⟨H3, I3, q3⟩
/-- a op1 b op2 c -/
def tChain (r r' : R2) (ta tb tc : TE) : TE := fun σ H Q => ta σ H fun x H1 => tb σ H1 fun y H2 => r x y H2 fun z H3 => ∃ k, z = .bl k ∧
  (if k = true then tc σ H3 fun w' H4 => r' y w' H4 Q else Q (.bl false) H3)
theorem pt_chain {op op' : CmpOp} {r r' : R2} (ho : OpR X (compareOp op) r) (ho' : OpR X (compareOp op') r') (ha : PE X a ta) (hb : PE X b tb) (hc : PE X c tc)
    (hm : lastMarks [op, op'] [b, c] = false := by with_unfolding_all rfl) : PT X (.Compare a [op, op'] [b, c] pos) (tTest (tChain r r' ta tb tc)) := by
  refine ⟨?_⟩
  intro pins s σ H Q I h
  refine isTrue_chain (thn (ha pins s σ H _ I h) fun v s1 ⟨x, H1, I1, r1, q1⟩ => test_link (thn (hb pins s1 σ H1 _ I1 q1) fun u s2 ⟨y, H2, I2, r2, q2⟩ =>
    thn (ho pins s2 σ H2 x y v u _ I2 r1 r2 q2) fun d s3 ⟨z, H3, I3, r3, k, e, q3⟩ => ?_)) hm
  subst e
  cases r3
  refine wpAny_truthy_bool ?_
  cases k with
  | false =>
    obtain ⟨k', e', q'⟩ := q3
    cases e'
    exact ite_ff ⟨H3, I3, q'⟩
  | true =>
    refine ite_tt (test_last (thn (hc pins s3 σ H3 _ I3 q3) fun w' s4 ⟨z', H4, I4, r4, q4⟩ => thn (ho' pins s4 σ H4 y z' u w' _ I4 r2 r4 q4) fun d' s5 ⟨z2, H5, I5, r5, k2, e2, q5⟩ => ?_))
    subst e2
    cases r5
    exact wpAny_truthy_bool ⟨H5, I5, q5⟩

/-! ### truth -/
theorem line63 : (sizeLine : Nat) < 2 ^ 63 := by rw [sizeLine_eq]; decide
/-! ### strs and bytes -/
theorem op_add_str : OpR X (binaryOp .Add) (fun x y H Q => ∃ i j, x = .str i ∧ y = .str j ∧ i.length + j.length ≤ sizeLine ∧ Q (.str (i ++ j)) H) := by
  intro pins s σ H x y v u Q I rx ry h
  obtain ⟨i, j, rfl, rfl, hz, q⟩ := h
  obtain ⟨t, rfl⟩ := rx
  obtain ⟨t', rfl⟩ := ry
  exact add_str (fun t' tk => ⟨.str (i ++ j), H, I.tok _, ⟨_, rfl⟩, q⟩) hz
/-! ### scalar builtins, by CallR -/
theorem vals1 {x : V} {us : List Value} (r : Vals [x] us) : ∃ u, us = [u] ∧ RelV x u := by
  cases r with
  | cons r1 r2 => cases r2; exact ⟨_, rfl, r1⟩
theorem vals2 {x y : V} {us : List Value} (r : Vals [x, y] us) : ∃ u w', us = [u, w'] ∧ RelV x u ∧ RelV y w' := by
  cases r with
  | cons r1 r2 =>
    cases r2 with
    | cons r3 r4 => cases r4; exact ⟨_, _, rfl, r1, r3⟩
end
end L2

namespace L2
open PySem PySem.Spec PyProof.Rows

/-! ### an instance, its attributes a map -/
structure ObjM (h : Heap) (x dx C : Addr) (mA : Str → Option Value) : Prop where
  obj : h.get? x = some (PySem.W.instObj C dx)
  ns : h.Ns1 dx mA
  ne : dx ≠ x

theorem lookIn_ns {h : Heap} {dx : Addr} {mA : Str → Option Value} (n : h.Ns1 dx mA) : ∃ od, h.get? dx = some od ∧ ∀ name, PySem.W.lookIn name od = some (mA name) := by
  obtain ⟨o, es, ep, ho, hd, hk, _, hm⟩ := n
  refine ⟨o, ho, fun name => ?_⟩
  have e := hm name
  unfold nsFind findBy at e
  rw [← Array.find?_toList] at e
  unfold PySem.W.lookIn
  rw [hd]
  dsimp only
  split
  · rename_i y q
    rw [q] at e
    exact congrArg some e
  · rename_i q
    rw [q] at e
    have a : es.toList.any (·.refKey) = false := by
      rw [List.any_eq_false]
      intro y hy
      obtain ⟨z, t, hkey⟩ := hk y (Array.mem_toList_iff.mp hy)
      simp [DictEntry.refKey, hkey]
    have a' : ¬ es.toList.any (·.refKey) = true := by rw [a]; exact Bool.false_ne_true
    rw [if_neg a']
    exact congrArg some e

theorem ObjM.look {h : Heap} {x dx C : Addr} {mA : Str → Option Value} (I : ObjM h x dx C mA) : ∃ od, PySem.W.InstAt h x (PySem.W.instObj C dx) C (some od) ∧ ∀ name, PySem.W.lookIn name od = some (mA name) :=
  let ⟨od, ho, hl⟩ := lookIn_ns I.ns
  ⟨od, ⟨I.obj, rfl, rfl, ho⟩, hl⟩

section
variable {prog : Program} {w : World} {A : Around} {E : Value → Shared → Prop} {s : Shared} {K : PySem.W.Frag} {x dx C f : Addr} {mA : Str → Option Value} {name : Str} {v : Value}

theorem get_map {expr : Bool} {Q : Value → Shared → Prop} (X : K.In s.heap) (I : ObjM s.heap x dx C mA) (hg : PySem.W.plainGet K C name = true) (hh : PySem.W.hasDictIn K C = true)
    (ha : PySem.W.findIn K (.ref C) name = some none) (hv : mA name = some v) (hv' : PySem.W.handedIn v = true) (h : Q v { s with toks := s.toks + 1 }) :
    wpAny (model prog w) A (getAttr (.ref x) name expr) Q E s := by
  obtain ⟨od, J, hl⟩ := I.look
  exact PySem.W.get_value X J (PySem.W.plainGet_of hg).1 (PySem.W.findObj_own hh ha rfl (by rw [hl, hv])) hv' h

theorem get_meth {pl : Sem Bool} {Q : Value × List Value → Shared → Prop} (X : K.In s.heap) (I : ObjM s.heap x dx C mA) (hg : PySem.W.plainGet K C name = true)
    (hf : PySem.W.findIn K (.ref C) name = some (some (.ref f))) (ht : PySem.W.isFn K (.ref f) = true) (hv : mA name = none) (h : Q (.ref f, [.ref x]) s) :
    wpAny (model prog w) A (getMethod (.ref x) name pl) Q E s := by
  obtain ⟨od, J, hl⟩ := I.look
  exact PySem.W.method_fn X J (PySem.W.plainGet_of hg).1 (PySem.W.plainGet_of hg).2 hf (beq_iff_eq.mp ht) (by show (PySem.W.lookIn name od).map (·.isSome) = some false; rw [hl, hv]; rfl) h

theorem set_map {ns : List Str} {Q : Unit → Shared → Prop} (X : K.In s.heap) (I : ObjM s.heap x dx C mA)
    (hs : PySem.W.findIn K (.ref C) "__setattr__" = some (some (.builtin "object.__setattr__"))) (hp : PySem.W.plainOver K C = true) (ht : PySem.W.takerIn K C name = some none) (hh : PySem.W.hasDictIn K C = true)
    (hw : PySem.Within mA ns) (hsz : ns.length ≤ sizeLine)
    (h : ∀ h', ObjM h' x dx C (fun y => if y = name then some v else mA y) → Heap.SameBut dx s.heap h' → Q () { s with heap := h', toks := s.toks + 2 }) :
    wpAny (model prog w) A (setAttr (.ref x) name v) Q E s := by
  obtain ⟨od, J, hl⟩ := I.look
  refine PySem.W.set_plain X J hs (PySem.W.osa_open (s := { s with toks := s.toks + 1 }) (r := none) X J hp ht fun b => ?_)
  obtain ⟨cd, hc, hd'⟩ := PySem.W.any_some hh
  have hx : s.heap.get? x = some ⟨.ref C, some dx, .plain, #[]⟩ := I.obj
  refine wpAny_bind (wpAny_pure (wpAny_bind (wpAny_bind (wpAny_loadPart hx (wpAny_bind (PySem.W.Looks.here (s := { s with toks := s.toks + 1 }) (PySem.W.looks_clsIn X hc) ?_))))))
  rw [hd']
  refine wpAny_pure (a := some dx) (wpAny_bind (wpAny_pure (wpAny_bind ?_)))
  refine wpAny_nsSet1 (s := { s with toks := s.toks + 1 }) I.ns fun h' hn2 hs2 => ?_
  obtain ⟨oD, esD, epD, hoD, hdD, hcD⟩ := hn2.count (PySem.Within.cons name v hw)
  refine wpAny_bind (wpAny_lookBehind hoD (by rw [hdD]; exact pastItsLine_dict (Nat.le_trans hcD (by rw [List.length_cons]; omega))) ?_)
  exact wpAny_pure (h _ ⟨(hs2.2 _ (Ne.symm I.ne)).trans I.obj, hn2, I.ne⟩ hs2)

/-- C(..): the dict at the heap's end, the instance behind it; then its __init__ -/
theorem make_map {R : Result → Shared → Prop} {vs : List Value} {kw : List (Str × Value)} (X : K.In s.heap) (hm : PySem.W.makesIn K C = true)
    (hi : PySem.W.findIn K (.ref C) "__init__" = some (some (.ref f))) (hf : PySem.W.typeIn K (.ref f) = some (.type "function"))
    (h : codeAny (model prog w) (A.under (.builtin "type.__call__" ⟨.ref C :: vs, kw⟩)) (.call (.ref f) ⟨.ref (s.heap.objs.size + 1) :: vs, kw⟩) (PySem.W.InitBack (s.heap.objs.size + 1) R)
      { s with heap := (s.heap.push PySem.W.emptyDict).push (PySem.W.instObj C s.heap.objs.size) }) :
    codeAny (model prog w) A (.call (.ref C) ⟨vs, kw⟩) R s := by
  obtain ⟨hh, g, d, t, os⟩ := s
  exact PySem.W.make_core (PySem.W.makes_of X hm) (PySem.W.looks_findIn X hi) (fun self => PySem.W.bind_fn X self hf) (.inl rfl) h
end

/-! ### the attributes as a list of pairs -/
def putF (f : Str) (v : V) : List (Str × V) → List (Str × V)
  | [] => [(f, v)]
  | (g, x) :: r => if g = f then (g, v) :: r else (g, x) :: putF f v r
theorem lookup_putF (f g : Str) (v : V) : ∀ fs : List (Str × V), (putF f v fs).lookup g = if g = f then some v else fs.lookup g
  | [] => by
    show List.lookup g [(f, v)] = _
    by_cases h : g = f
    · have hb : (g == f) = true := beq_iff_eq.mpr h
      simp only [List.lookup, hb, if_pos h]
    · have hb : (g == f) = false := beq_eq_false_iff_ne.mpr h
      simp only [List.lookup, hb, if_neg h]
  | (k, x) :: r => by
    have ih := lookup_putF f g v r
    rw [show putF f v ((k, x) :: r) = (if k = f then (k, v) :: r else (k, x) :: putF f v r) from rfl]
    by_cases hk : k = f
    · rw [if_pos hk]
      by_cases h : g = k
      · have hb : (g == k) = true := beq_iff_eq.mpr h
        simp only [List.lookup, hb, if_pos (h.trans hk)]
      · have hb : (g == k) = false := beq_eq_false_iff_ne.mpr h
        simp only [List.lookup, hb, if_neg (fun e : g = f => h (e.trans hk.symm))]
    · rw [if_neg hk]
      by_cases h : g = k
      · have hb : (g == k) = true := beq_iff_eq.mpr h
        simp only [List.lookup, hb, if_neg (fun e : g = f => hk (h.symm.trans e))]
      · have hb : (g == k) = false := beq_eq_false_iff_ne.mpr h
        simp only [List.lookup, hb]
        exact ih
theorem keys_putF (f : Str) (v : V) : ∀ fs : List (Str × V), f ∈ (putF f v fs).map (·.1) ∧ ∀ g, g ∈ fs.map (·.1) → g ∈ (putF f v fs).map (·.1)
  | [] => ⟨by simp [putF], fun g h => by simp at h⟩
  | (k, x) :: r => by
    obtain ⟨i1, i2⟩ := keys_putF f v r
    rw [show putF f v ((k, x) :: r) = (if k = f then (k, v) :: r else (k, x) :: putF f v r) from rfl]
    by_cases hk : k = f
    · rw [if_pos hk]
      subst hk
      exact ⟨by simp, fun g h => by simpa using h⟩
    · rw [if_neg hk]
      refine ⟨?_, fun g h => ?_⟩
      · rw [List.map_cons]
        exact List.mem_cons_of_mem _ i1
      · rw [List.map_cons] at h ⊢
        rcases List.mem_cons.mp h with e | e
        · exact List.mem_cons.mpr (.inl e)
        · exact List.mem_cons_of_mem _ (i2 g e)
theorem length_putF (f : Str) (v : V) : ∀ fs : List (Str × V), (putF f v fs).length ≤ fs.length + 1
  | [] => by simp [putF]
  | (k, x) :: r => by
    have ih := length_putF f v r
    rw [show putF f v ((k, x) :: r) = (if k = f then (k, v) :: r else (k, x) :: putF f v r) from rfl]
    by_cases hk : k = f
    · rw [if_pos hk, List.length_cons, List.length_cons]; omega
    · rw [if_neg hk, List.length_cons, List.length_cons]; omega

theorem RelO.some_of {v : V} {o : Option Value} (r : RelO (some v) o) : ∃ u, o = some u ∧ RelV v u := by
  cases o with
  | none => exact (show False from r).elim
  | some u => exact ⟨u, rfl, r⟩
theorem RelO.none_of {o : Option Value} (r : RelO none o) : o = none := by
  cases o with
  | none => rfl
  | some u => exact (show False from r).elim
theorem handed_of {v : V} {u : Value} (r : RelV v u) : PySem.W.handedIn u = true := by
  cases v with
  | non => cases (show u = Value.none from r); rfl
  | bl b => cases (show u = Value.bool b from r); rfl
  | int i => obtain ⟨t, e⟩ := (show ∃ t, u = Value.int i t from r); cases e; rfl
  | str x => obtain ⟨t, e⟩ := (show ∃ t, u = Value.str x t from r); cases e; rfl
  | byt b => obtain ⟨t, e⟩ := (show ∃ t, u = Value.bytes b t from r); cases e; rfl
  | flt b => obtain ⟨t, e⟩ := (show ∃ t, u = Value.float b t from r); cases e; rfl
  | ref a => cases (show u = Value.ref a from r); rfl
  | ty n => cases (show u = Value.type n from r); rfl

section
variable {P : Program} {w : World} {H H' : Hp} {h h' : Heap} {a C dx : Addr} {fs fs' : List (Str × V)}
theorem ins_get (hok : HOk P w H h) (e : H a = some (.ins C dx fs)) : ∃ mA, ObjM h a dx C mA ∧ (∀ f, RelO (fs.lookup f) (mA f)) ∧ PySem.Within mA (fs.map (·.1)) ∧ fs.length ≤ 1000 ∧ H dx = some (.own a) := by
  obtain ⟨d, z, ne, ob, mA, n, r, q⟩ := (show ObjOk P w H h a (.ins C dx fs) from hok a _ e)
  exact ⟨mA, ⟨ob, n, ne⟩, r, q, z, d⟩
end

/-! ### what of the text a class must have -/
structure Cls (K : PySem.W.Frag) (C : Addr) : Prop where
  pg : PySem.W.plainGet K C Str.empty = true
  hd : PySem.W.hasDictIn K C = true
  po : PySem.W.plainOver K C = true
  sa : PySem.W.findIn K (.ref C) "__setattr__" = some (some (.builtin "object.__setattr__"))
theorem Cls.get {K : PySem.W.Frag} {C : Addr} (c : Cls K C) (f : Str) : PySem.W.plainGet K C f = true := c.pg
/-- no class of it has the name -/
def NoAttr (K : PySem.W.Frag) (C : Addr) (f : Str) : Prop := PySem.W.findIn K (.ref C) f = some none
theorem NoAttr.taker {K : PySem.W.Frag} {C : Addr} {f : Str} (n : NoAttr K C f) : PySem.W.takerIn K C f = some none := by
  unfold PySem.W.takerIn
  rw [show PySem.W.findIn K (.ref C) f = some none from n]
  rfl
/-- a method: a plain def of the class or of one above it -/
structure Meth (K : PySem.W.Frag) (C : Addr) (m : Str) (f : Addr) : Prop where
  at_ : PySem.W.findIn K (.ref C) m = some (some (.ref f))
  fn : PySem.W.isFn K (.ref f) = true
  kp : PySem.W.keepIn K (.ref f) = true

section
variable {X : Cx} {pins : List (Addr × Obj)} {σ : St} {H : Hp} {s : Shared} {a C dx : Addr} {fs : List (Str × V)} {f : Str} {v : V} {A : Around} {E : Value → Shared → Prop}

theorem getattr_ok {b : Bool} {Q : Value → Shared → Prop} (I : Inv X pins σ H s) (e : H a = some (.ins C dx fs)) (c : Cls X.K C) (n : NoAttr X.K C f) (l : fs.lookup f = some v)
    (h : ∀ u s', Inv X pins σ H s' → RelV v u → Q u s') : wpAny (model X.prog X.w) A (getAttr (.ref a) f b) Q E s := by
  obtain ⟨mA, O, r, _, _, _⟩ := ins_get I.hok e
  obtain ⟨u, hu, ru⟩ := RelO.some_of (v := v) (o := mA f) (by rw [← l]; exact r f)
  exact get_map I.kIn O (c.get f) c.hd n hu (handed_of ru) (h u _ (I.tok _) ru)

theorem getmeth_ok {m : Str} {g : Addr} {pl : Sem Bool} {Q : Value × List Value → Shared → Prop} (I : Inv X pins σ H s) (e : H a = some (.ins C dx fs)) (c : Cls X.K C) (k : Meth X.K C m g) (l : fs.lookup m = none)
    (h : Q (.ref g, [.ref a]) s) : wpAny (model X.prog X.w) A (getMethod (.ref a) m pl) Q E s := by
  obtain ⟨mA, O, r, _, _, _⟩ := ins_get I.hok e
  have hn : mA m = none := RelO.none_of (by rw [← l]; exact r m)
  exact get_meth I.kIn O (c.get m) k.at_ k.fn hn h

theorem setattr_ok {y : V} {u : Value} {Q : Unit → Shared → Prop} (I : Inv X pins σ H s) (e : H a = some (.ins C dx fs)) (c : Cls X.K C) (n : NoAttr X.K C f) (hl : fs.length < 1000) (ry : RelV y u)
    (h : ∀ s', Inv X pins σ (upd H a (.ins C dx (putF f y fs))) s' → Q () s') : wpAny (model X.prog X.w) A (setAttr (.ref a) f u) Q E s := by
  obtain ⟨mA, O, r, wi, _, ho⟩ := ins_get I.hok e
  have hz : (fs.map (·.1)).length ≤ sizeLine := by rw [List.length_map, sizeLine_eq]; omega
  refine set_map I.kIn O c.sa c.po n.taker c.hd wi hz fun h' O' sb => h _ ?_
  have hd : ∃ o, h'.get? dx = some o := let ⟨o, _, _, e', _⟩ := O'.ns; ⟨o, e'⟩
  refine I.write (x := a) (e := dx) (by rw [e]; exact True.intro) (.inr ho) (fun b q hb z => (sb.2 b hb).trans z) hd ?_
  refine ⟨by rw [upd_ne O.ne]; exact ho, ?_, O.ne, O'.obj, _, O'.ns, fun g => ?_, fun g hg => ?_⟩
  · have := length_putF f y fs; omega
  · show RelO ((putF f y fs).lookup g) (if g = f then some u else mA g)
    rw [lookup_putF]
    by_cases q : g = f
    · rw [if_pos q, if_pos q]; exact ry
    · rw [if_neg q, if_neg q]; exact r g
  · by_cases q : g = f
    · rw [q]; exact (keys_putF f y fs).1
    · refine (keys_putF f y fs).2 g (wi g fun z => hg ?_)
      show (if g = f then some u else mA g) = none
      rw [if_neg q]; exact z

/-- a new instance, tracked, without attributes -/
theorem Inv.made (I : Inv X pins σ H s) : Inv X pins σ (upd (upd H s.heap.objs.size (.own (s.heap.objs.size + 1))) (s.heap.objs.size + 1) (.ins C s.heap.objs.size []))
    { s with heap := (s.heap.push PySem.W.emptyDict).push (PySem.W.instObj C s.heap.objs.size) } := by
  have e1 : (s.heap.push PySem.W.emptyDict).get? s.heap.objs.size = some PySem.W.emptyDict := Heap.get?_push_size s.heap rfl
  have e2 : ((s.heap.push PySem.W.emptyDict).push (PySem.W.instObj C s.heap.objs.size)).get? (s.heap.objs.size + 1) = some (PySem.W.instObj C s.heap.objs.size) := by
    have := Heap.get?_push_size (s.heap.push PySem.W.emptyDict) (o := PySem.W.instObj C s.heap.objs.size) rfl
    rwa [Heap.size_push] at this
  have e3 : (s.heap.push PySem.W.emptyDict).Ns s.heap.objs.size (fun _ => none) := ⟨PySem.W.emptyDict, #[], _, e1, rfl, (fun e he => absurd he (by simp)), fun _ => rfl⟩
  have I1 := I.laid (a := s.heap.objs.size) (o := .own (s.heap.objs.size + 1)) (h' := s.heap.push PySem.W.emptyDict) (t' := s.toks) (fun b u q => Heap.get?_push_of_some _ q) (Nat.le_refl _) ⟨_, e1⟩
  refine I1.laid (a := s.heap.objs.size + 1) (o := .ins C s.heap.objs.size []) (t' := s.toks) (fun b u q => Heap.get?_push_of_some _ q) (Nat.le_of_eq (Heap.size_push _ _)) ?_
  have ne : s.heap.objs.size ≠ s.heap.objs.size + 1 := Nat.ne_of_lt (Nat.lt_succ_self _)
  refine ⟨by rw [upd_ne ne, upd_same], Nat.zero_le _, ne, e2, fun _ => none, (Heap.Ns1.of_empty e3).at fun o q => Heap.get?_push_of_some _ q, fun _ => True.intro, fun y hy => absurd rfl hy⟩

/-- e.f where nothing but the object is asked: through attributeBase (super) and the last hold -/
theorem attr_of {prog : Program} {w : World} {env : Env} {e : Expr} {f : Str} {pos : Pos} {s : Shared} {Q : Value → Shared → Prop} (hb : attributeBase e f env (eval e env) = eval e env)
    (h : wpAny (model prog w) A (eval e env) (fun o s₁ => wpAny (model prog w) A (getAttr o f true) Q E s₁) E s) : wpAny (model prog w) A (eval (.Attribute e f pos) env) Q E s :=
  Attribute_any_ h (by rw [arm_eval_Attribute, hb])
end

/-! ### readings and rules -/
/-- e.f, an attribute of the instance -/
def tFld (K : PySem.W.Frag) (ta : TE) (f : Str) : TE := fun σ H Q => ta σ H fun x H1 => ∃ a C dx fs v, x = .ref a ∧ H1 a = some (.ins C dx fs) ∧ Cls K C ∧ NoAttr K C f ∧ fs.lookup f = some v ∧ Q v H1
/-- e.f = value -/
def sFld (K : PySem.W.Frag) (ta tv : TE) (f : Str) : TS := fun D σ H => tv σ H fun y H1 => ta σ H1 fun x H2 => ∃ a C dx fs, x = .ref a ∧ H2 a = some (.ins C dx fs) ∧ Cls K C ∧ NoAttr K C f ∧ fs.length < 1000 ∧
  D.nx σ (upd H2 a (.ins C dx (putF f y fs)))
section
variable {X : Cx} {o e value : Expr} {f : Str} {pos pos' tpos : Pos} {ta tv : TE}
theorem pe_fld (he : PE X e ta) (hb : attributeBase e f X.env (eval e X.env) = eval e X.env) : PE X (.Attribute e f pos) (tFld X.K ta f) := by
  refine ⟨?_⟩
  intro pins s σ H Q I h
  refine attr_of hb (thn (he pins s σ H _ I h) fun u s1 ⟨x, H1, I1, rx, a, C, dx, fs, v, ex, ea, c, n, l, q⟩ => ?_)
  subst ex
  obtain rfl : u = Value.ref a := rx
  exact getattr_ok I1 ea c n l fun u' s2 I2 ru => ⟨v, H1, I2, ru, q⟩
theorem ps_fld (ha : PE X o ta) (hv : PE X value tv) (hs : swapsWith value (some (.Attribute o f pos')) pos.line X.env = pure false) : PS X (.Assign [.Attribute o f pos'] value pos) (sFld X.K ta tv f) := by
  refine ⟨?_⟩
  intro pins s σ H D I h
  refine plainObj_wpAny_Assign_Attribute (thn (hv pins s σ H _ I h) fun u s1 ⟨y, H1, I1, ry, q⟩ => thn (ha pins s1 σ H1 _ I1 q) fun ov s2 ⟨x, H2, I2, rx, a, C, dx, fs, ex, ea, c, n, l, q2⟩ => ?_) hs
  subst ex
  obtain rfl : ov = Value.ref a := rx
  exact setattr_ok I2 ea c n l ry fun s3 I3 => ⟨σ, _, I3, q2⟩
end

/-! ### isinstance -/
section
variable {X : Cx} {pins : List (Addr × Obj)} {σ : St} {H : Hp} {s : Shared} {A : Around} {E : Value → Shared → Prop} {Q : Value → Shared → Prop} {c : Value} {b : Bool}
/-- the type of a value, as the fragment's deciders take it; for an instance its class -/
inductive TyOf (K : PySem.W.Frag) (H : Hp) : V → Value → Prop where
  | non : TyOf K H .non (.type "NoneType")
  | bl (x : Bool) : TyOf K H (.bl x) (.type "bool")
  | int (i : Int) : TyOf K H (.int i) (.type "int")
  | str (x : Str) : TyOf K H (.str x) (.type "str")
  | flt (x : UInt64) : TyOf K H (.flt x) (.type "float")
  | lst {a : Addr} {xs : List V} (e : H a = some (.lst xs)) : TyOf K H (.ref a) (.type "list")
  | frz {a : Addr} {o : Obj} {xs : List V} (e : H a = some (.frz o (.lst xs))) : TyOf K H (.ref a) (.type "list")
  | tup {a : Addr} {xs : List V} (e : H a = some (.tup xs)) : TyOf K H (.ref a) (.type "tuple")
  | dK {a : Addr} {kvs : List (Key × V)} (e : H a = some (.dK kvs)) : TyOf K H (.ref a) (.type "dict")
  | dT {a : Addr} {kvs : List (List Key × V)} (e : H a = some (.dT kvs)) : TyOf K H (.ref a) (.type "dict")
  | ins {a C dx : Addr} {fs : List (Str × V)} (e : H a = some (.ins C dx fs)) (cl : Cls K C) (ha : PySem.W.findIn K (.ref C) "__class__" = some (some (.builtin "object.__class__")))
      (hn : PySem.W.specialIn K (.builtin "object.__class__") "__get__" = some (some (.builtin "getset_descriptor.__get__"))) (htk : PySem.W.takesIn K (.builtin "object.__class__") = some true)
      (hm : PySem.W.mroIn K C (.type "object") = some true) : TyOf K H (.ref a) (.ref C)
/-- isinstance(x, c) for one class c, a built-in or an own one: kitOne's answer -/
theorem isinst_ok {x : V} {u t : Value} (I : Inv X pins σ H s) (rx : RelV x u) (ty : TyOf X.K H x t) (e : PySem.W.kitOne X.K t c = some b) (h : ∀ tk, Q (.bool b) { s with toks := tk }) :
    wpAny (model X.prog X.w) A (call (.builtin "isinstance") [u, c]) Q E s := by
  cases ty with
  | non => cases (show u = Value.none from rx); exact PySem.W.kia_one PySem.W.kitx_none I.kIn True.intro e (fun z => nomatch z) h
  | bl y => cases (show u = Value.bool y from rx); exact PySem.W.kia_one PySem.W.kitx_bool I.kIn True.intro e (fun z => nomatch z) h
  | int i => obtain ⟨t, q⟩ := (show ∃ t, u = Value.int i t from rx); cases q; exact PySem.W.kia_one PySem.W.kitx_int I.kIn True.intro e (fun z => nomatch z) h
  | str y => obtain ⟨t, q⟩ := (show ∃ t, u = Value.str y t from rx); cases q; exact PySem.W.kia_one PySem.W.kitx_str I.kIn True.intro e (fun z => nomatch z) h
  | flt y => obtain ⟨t, q⟩ := (show ∃ t, u = Value.float y t from rx); cases q; exact PySem.W.kia_one PySem.W.kitx_float I.kIn True.intro e (fun z => nomatch z) h
  | @lst a xs ea =>
    cases (show u = Value.ref a from rx)
    obtain ⟨_, _, n, _, h1⟩ := (show ObjOk X.prog X.w H s.heap a (.lst xs) from I.hok a _ ea)
    exact PySem.W.kia_one PySem.W.kitx_list I.kIn ⟨_, h1, rfl⟩ e (fun z => nomatch z) h
  | @frz a ob xs ea =>
    cases (show u = Value.ref a from rx)
    obtain ⟨_, _, _, n, _, h1⟩ := (show ObjOk X.prog X.w H s.heap a (.frz ob (.lst xs)) from I.hok a _ ea)
    exact PySem.W.kia_one PySem.W.kitx_list I.kIn ⟨_, h1, rfl⟩ e (fun z => nomatch z) h
  | @tup a xs ea =>
    cases (show u = Value.ref a from rx)
    obtain ⟨_, _, _, p⟩ := (show ObjOk X.prog X.w H s.heap a (.tup xs) from I.hok a _ ea)
    obtain ⟨o, h1, h2, _⟩ := p
    exact PySem.W.kia_one PySem.W.kitx_tuple I.kIn ⟨o, h1, h2⟩ e (fun z => nomatch z) h
  | @dK a kvs ea =>
    cases (show u = Value.ref a from rx)
    obtain ⟨_, _, vs, _, p⟩ := (show ObjOk X.prog X.w H s.heap a (.dK kvs) from I.hok a _ ea)
    obtain ⟨o, es, ep, h1, h2, _⟩ := p
    exact PySem.W.kia_one PySem.W.kitx_dict I.kIn ⟨o, h1, h2.1⟩ e (fun z => nomatch z) h
  | @dT a kvs ea =>
    cases (show u = Value.ref a from rx)
    obtain ⟨_, _, xs, _, o, es, ep, h1, h2, _⟩ := (show ObjOk X.prog X.w H s.heap a (.dT kvs) from I.hok a _ ea)
    exact PySem.W.kia_one PySem.W.kitx_dict I.kIn ⟨o, h1, h2.1⟩ e (fun z => nomatch z) h
  | @ins a C dx fs ea cl ha hn htk hm =>
    cases (show u = Value.ref a from rx)
    obtain ⟨mA, O, _⟩ := ins_get I.hok ea
    obtain ⟨od, J, _⟩ := O.look
    exact PySem.W.kia_one (PySem.W.kitx_own (cl.get _) cl.hd ha hn htk hm) I.kIn J e (fun z => nomatch z) h
end
end L2

namespace L2
open PySem PySem.Spec PyProof.Rows

/-! ### room -/
structure Room (k : Nat) (A : Around) : Prop where
  hd : A.handled = none
  dp : A.depth + 3 * k + 5 < recursionLimit
  un : A.units + 16 * k + 200 < cLine
theorem Room.mono {j k : Nat} {A : Around} (r : Room k A) (h : j ≤ k) : Room j A := ⟨r.hd, by have := r.dp; omega, by have := r.un; omega⟩
theorem Room.deeper {k : Nat} {A : Around} (r : Room (k + 1) A) (env : Env) : Room k (A.deeper env) :=
  ⟨r.hd, by have := r.dp; show A.depth + 1 + 3 * k + 5 < _; omega, by have := r.un; show A.units + 3 + 16 * k + 200 < _; omega⟩
theorem make_depth {A : Around} {C : Addr} {us : List Value} {kw : List (Str × Value)} : (A.under (.builtin "type.__call__" ⟨.ref C :: us, kw⟩)).depth = A.depth + 1 := by
  first | rfl | simp [Around.under, Code.weight, Code.isCreation, Code.isGuard, Code.isCaller, Code.frames, Code.isFrame, guardIds]
theorem make_units {A : Around} {C : Addr} {us : List Value} {kw : List (Str × Value)} : (A.under (.builtin "type.__call__" ⟨.ref C :: us, kw⟩)).units = A.units + 1 := by
  first | rfl | simp [Around.under, Code.cUnits, Code.frames, Code.isFrame]
theorem Room.make {k : Nat} {A : Around} (r : Room (k + 1) A) (C : Addr) (us : List Value) (kw : List (Str × Value)) : Room k (A.under (.builtin "type.__call__" ⟨.ref C :: us, kw⟩)) :=
  ⟨r.hd, by have := r.dp; rw [make_depth]; omega, by have := r.un; rw [make_units]; omega⟩
theorem Room.depth {k : Nat} {A : Around} (r : Room k A) : A.depth < recursionLimit := by have := r.dp; omega
theorem Room.units {k : Nat} {A : Around} (r : Room k A) : A.units + 64 < cLine := by have := r.un; omega
/-! ### argument lists and displays -/
def tNil : TA := fun _ H Q => Q [] H
def tCons (ta : TE) (tr : TA) : TA := fun σ H Q => ta σ H fun x H1 => tr σ H1 fun xs H2 => Q (x :: xs) H2
section
variable {X : Cx} {e : Expr} {es : List Expr} {te : TE} {t : TA} {pos : Pos}
theorem pa_nil : PA X [] tNil := ⟨fun _ _ _ _ H Q I h => Calls.spliced_nil ⟨[], H, I, .nil, h⟩⟩
theorem pa_cons (ha : PE X e te) (hr : PA X es t) (hs : starEach (e :: es) X.env = (false, eval e X.env) :: starEach es X.env := by rfl) : PA X (e :: es) (tCons te t) := by
  refine ⟨?_⟩
  intro pos pins s σ H Q I h
  rw [hs]
  show wpAny _ _ (spliced ((false, eval e X.env) :: backTo pos (starEach es X.env))) _ _ s
  refine Calls.spliced_cons (thn (ha pins s σ H _ I h) fun u s1 ⟨x, H1, I1, r1, q1⟩ => ?_)
  exact thn (hr pos pins s1 σ H1 _ I1 q1) fun us s2 ⟨xs, H2, I2, r2, q2⟩ => ⟨x :: xs, H2, I2, .cons r1 r2, q2⟩

def tLst (t : TA) : TE := fun σ H Q => t σ H fun xs H1 => xs.length ≤ sizeLine ∧ ∀ p, H1 p = none → Q (.ref p) (upd H1 p (.lst xs))
theorem pe_lst (h : PA X es t) : PE X (.List es pos) (tLst t) := by
  refine ⟨?_⟩
  intro pins s σ H Q I hq
  refine wpAny_List_spliced (thn (h pos pins s σ H _ I hq) fun us s1 ⟨xs, H1, I1, r, z, q⟩ => ⟨by rw [← r.length]; exact z, ?_⟩)
  have hf : H1 s1.heap.objs.size = none := I1.hok.fresh (Nat.le_refl _)
  refine ⟨.ref s1.heap.objs.size, upd H1 s1.heap.objs.size (.lst xs), I1.laid (t' := s1.toks) (fun b u e => Heap.get?_push_of_some _ e) (Nat.le_refl _) ?_, rfl, q _ hf⟩
  exact ⟨z, us, 0, r, Heap.get?_push_size _ rfl⟩
end

/-! ### what a def promises -/
/-- a def's promise: the bound arguments in the parameters' order, the heap, the wanted end, the wanted exception -/
abbrev Sp := List V → Hp → VK → XK → Prop
/-- how an exception lies behind a call (file 08 gives it): the callers' frames, abstract heap and state ahead of the call, the wish, the exception, the state -/
abbrev CXT := List Env → Hp → Shared → XK → Value → Shared → Prop

/-- the state at a call -/
structure Env0 (P : Program) (w : World) (K : PySem.W.Frag) (mg : Str → Option Value) (base : Heap) (A : Around) (outer : List Env) (s : Shared) (H : Hp) : Prop where
  frames : A.frames = some outer
  mod : Mod K mg base
  bs : ∀ b o, base.get? b = some o → s.heap.get? b = some o ∧ H b = none
  bsz : base.objs.size ≤ s.heap.objs.size
  funs : s.heap.FunFrames base outer
  frf : ∀ b ∈ frs outer, H b = none
  hok : HOk P w H s.heap
  bare : AllBare s.gens
/-- a call's end -/
def CE (outer : List Env) (P : Program) (w : World) (H : Hp) (s : Shared) (Q : VK) (u : Value) (s' : Shared) : Prop :=
  ∃ v H', s'.os = s.os ∧ AllBare s'.gens ∧ Un (frs outer) [] H H' s.heap s'.heap ∧ HOk P w H' s'.heap ∧ RelV v u ∧ Q v H'
def CR (CX : CXT) (outer : List Env) (P : Program) (w : World) (H : Hp) (s : Shared) (Q : VK) (E : XK) (r : Result) (s' : Shared) : Prop :=
  match r with
  | .ok (.ret u) => CE outer P w H s Q u s'
  | .ok _ => False
  | .error e => CX outer H s E e s'
structure FnOk (P : Program) (w : World) (K : PySem.W.Frag) (mg : Str → Option Value) (base : Heap) (CX : CXT) (k : Nat) (f : Addr) (fd : FuncData) (ps : List Str) (sp : Sp) : Prop where
  len : ∀ vs H Q E, sp vs H Q E → vs.length = ps.length
  run : ∀ (A : Around) (outer : List Env) (s : Shared) (H : Hp) (args : Args) (us : List Value) (vs : List V) (Q : VK) (E : XK), Room k A → Env0 P w K mg base A outer s H → BindsTo s fd args (ps.zip us) → Vals vs us → sp vs H Q E →
    codeAny (model P w) A (.call (.ref f) args) (CR CX outer P w H s Q E) s
theorem Env0.make {P : Program} {w : World} {K : PySem.W.Frag} {mg : Str → Option Value} {base : Heap} {A : Around} {outer : List Env} {s : Shared} {H : Hp} (e : Env0 P w K mg base A outer s H) (C : Addr) (us : List Value) (kw : List (Str × Value)) :
    Env0 P w K mg base (A.under (.builtin "type.__call__" ⟨.ref C :: us, kw⟩)) outer s H := ⟨by first | exact e.frames | (simpa [Around.under, Code.envs, Code.isFrame, pushEnvs] using e.frames), e.mod, e.bs, e.bsz, e.funs, e.frf, e.hok, e.bare⟩
section
variable {X : Cx} {pins : List (Addr × Obj)} {σ : St} {H : Hp} {s s' : Shared}
/-- from a body: what a callee wants -/
theorem Inv.env0 (I : Inv X pins σ H s) : Env0 X.prog X.w X.K X.mg X.base X.A X.stack s H :=
  ⟨I.ok.frames, I.ok.mod, I.bs, Nat.le_trans I.ok.bsz I.sz, I.stack, I.stkFree, I.hok, I.bare⟩
/-- behind a call -/
theorem Inv.after {Q : VK} {u : Value} (I : Inv X pins σ H s) (h : CE X.stack X.prog X.w H s Q u s') : EP X pins σ Q u s' := by
  obtain ⟨v, H', os, bare, un, hok, r, q⟩ := h
  obtain ⟨hh, g, d, t, os'⟩ := s'
  obtain rfl : os' = s.os := os
  exact ⟨v, H', I.call (h' := hh) (g' := g) (d' := d) (t' := t) (ch := []) un hok bare (fun b z => absurd z (by simp)), r, q⟩
end

/-! ### calls -/
/-- f(..): the written arguments, then the defaults dvs; E: what is wanted of an exception -/
def tCall (sp : Sp) (dvs : List V) (E : XK) (t : TA) : TE := fun σ H Q => t σ H fun vs H1 => sp (vs ++ dvs) H1 Q E
/-- C(..): a new instance and its dict, then __init__ -/
def tMake (C : Addr) (sp : Sp) (dvs : List V) (E : XK) (t : TA) : TE := fun σ H Q => t σ H fun vs H1 => ∀ x dx, H1 x = none → H1 dx = none → dx ≠ x →
  sp (.ref x :: (vs ++ dvs)) (upd (upd H1 dx (.own x)) x (.ins C dx [])) (fun v H2 => v = .non ∧ Q (.ref x) H2) E

/-- how the parameters are bound: us the positional arguments, kw the keywords' values by name, ds the defaults that fill up -/
def Binds (K : PySem.W.Frag) (fd : FuncData) (ps : List Str) (ds : List Value) : Prop :=
  ∀ (s : Shared) (us : List Value), K.In s.heap → (us ++ ds).length = ps.length → BindsTo s fd ⟨us, []⟩ (ps.zip (us ++ ds))
/-- every parameter is given -/
theorem Binds.all {K : PySem.W.Frag} {fd : FuncData} {ps : List Str} (h : ∀ us : List Value, us.length = ps.length → bindArgs fd ⟨us, []⟩ = pure (ps.zip us)) : Binds K fd ps [] := fun s us _ hl => by
  rw [List.append_nil] at hl ⊢
  exact .of_eq (h us hl)

/-- an exception of a callee reaches what this body wants of exceptions -/
def Passes (CX : CXT) (X : Cx) (E : XK) : Prop := ∀ (pins : List (Addr × Obj)) (σ : St) (H : Hp) (s : Shared) (e : Value) (s' : Shared), Inv X pins σ H s → CX X.stack H s E e s' → X.xe e s'

section
variable {X : Cx} {CX : CXT} {k : Nat} {f C : Addr} {fd : FuncData} {ps : List Str} {sp : Sp} {dvs : List V} {ds : List Value} {E : XK} {x m : Str} {p pos apos : Pos} {e o : Expr} {es : List Expr} {ta : TE} {t : TA}

/-- the callee runs -/
theorem run_fn {pins : List (Addr × Obj)} {σ : St} {H : Hp} {s : Shared} {Q : VK} {us : List Value} {vs : List V} (F : FnOk X.prog X.w X.K X.mg X.base CX k f fd ps sp) (hr : Room k X.A) (hb : Binds X.K fd ps ds) (hd : Vals dvs ds) (hx : Passes CX X E)
    (I : Inv X pins σ H s) (r : Vals vs us) (h : sp (vs ++ dvs) H Q E) : wpAny (model X.prog X.w) X.A (call (.ref f) us) (EP X pins σ Q) X.xe s := by
  have r2 : Vals (vs ++ dvs) (us ++ ds) := r.append hd
  have hl : (us ++ ds).length = ps.length := by rw [← r2.length]; exact F.len _ _ _ _ h
  refine wpAny_call (codeAny_mono (F.run X.A X.stack s H ⟨us, []⟩ (us ++ ds) (vs ++ dvs) Q E hr I.env0 (hb s us I.kIn hl) r2 h) fun r s' hq => ?_)
  cases r with
  | error e => exact hx pins σ H s e s' I hq
  | ok fl =>
    cases fl with
    | ret u => exact I.after hq
    | next => exact False.elim hq
    | brk => exact False.elim hq
    | cont => exact False.elim hq

theorem pe_call (F : FnOk X.prog X.w X.K X.mg X.base CX k f fd ps sp) (hr : Room k X.A) (hg : Gl X x) (hm : X.mg x = some (.ref f)) (hk : PySem.W.keepIn X.K (.ref f) = true) (hb : Binds X.K fd ps ds) (hd : Vals dvs ds) (hx : Passes CX X E)
    (ha : PA X (e :: es) t) (hdb : (x == ("__debug__" : Str)) = false := by decide) (he : starEach (e :: es) X.env = (false, eval e X.env) :: starEach es X.env := by rfl) (hpl : (backTo pos (starEach es X.env)).any (·.1) = false := by rfl) :
    PE X (.Call (.Name x p) (e :: es) [] pos) (tCall sp dvs E t) := by
  refine ⟨?_⟩
  intro pins s σ H Q I h
  refine wpAny_Call_Name_kw (ld_glob I hg hm ?_ hdb)
  refine PySem.W.callWith_K (h₀ := X.base) I.ok.mod.kin hk (thn (ha pos pins s σ H _ I h) fun us s1 ⟨vs, H1, I1, r, q⟩ => ⟨I1.kIn, ?_⟩) he hpl
  exact run_fn F hr hb hd hx I1 r q
/-- what a class must have to be made -/
structure Mk (K : PySem.W.Frag) (C f : Addr) : Prop where
  makes : PySem.W.makesIn K C = true
  init : PySem.W.findIn K (.ref C) "__init__" = some (some (.ref f))
  fn : PySem.W.isFn K (.ref f) = true
  kp : PySem.W.keepIn K (.ref C) = true

theorem run_make {pins : List (Addr × Obj)} {σ : St} {H : Hp} {s : Shared} {Q : VK} {us : List Value} {vs : List V} (M : Mk X.K C f) (F : FnOk X.prog X.w X.K X.mg X.base CX k f fd ps sp) (hr : Room (k + 1) X.A) (hb : Binds X.K fd ps ds) (hd : Vals dvs ds)
    (hx : Passes CX X E) (I : Inv X pins σ H s) (r : Vals vs us)
    (h : ∀ x dx, H x = none → H dx = none → dx ≠ x → sp (.ref x :: (vs ++ dvs)) (upd (upd H dx (.own x)) x (.ins C dx [])) (fun v H2 => v = .non ∧ Q (.ref x) H2) E) :
    wpAny (model X.prog X.w) X.A (call (.ref C) us) (EP X pins σ Q) X.xe s := by
  have hq := h (s.heap.objs.size + 1) s.heap.objs.size (I.hok.fresh (Nat.le_succ _)) (I.hok.fresh (Nat.le_refl _)) (Nat.ne_of_lt (Nat.lt_succ_self _))
  have I2 := Inv.made (C := C) I
  have r2 : Vals (V.ref (s.heap.objs.size + 1) :: (vs ++ dvs)) (Value.ref (s.heap.objs.size + 1) :: (us ++ ds)) := .cons rfl (r.append hd)
  have hl : (Value.ref (s.heap.objs.size + 1) :: us ++ ds).length = ps.length := by
    have e := r2.length
    rw [F.len _ _ _ _ hq] at e
    exact e.symm
  refine wpAny_call (make_map (f := f) I.kIn M.makes M.init (beq_iff_eq.mp M.fn) (codeAny_mono (F.run _ X.stack _ _ ⟨Value.ref (s.heap.objs.size + 1) :: us, []⟩ (Value.ref (s.heap.objs.size + 1) :: (us ++ ds)) _ _ E (hr.make C us [])
    (I2.env0.make C us []) (hb _ (Value.ref (s.heap.objs.size + 1) :: us) I2.kIn hl) r2 hq) fun r s' hq' => ?_))
  cases r with
  | error e => exact hx pins σ _ _ e s' I2 hq'
  | ok fl =>
    cases fl with
    | ret u =>
      obtain ⟨v, H', I3, rv, ev, q3⟩ := I2.after hq'
      subst ev
      exact ⟨rv, ⟨V.ref (s.heap.objs.size + 1), H', I3, rfl, q3⟩⟩
    | next => exact False.elim hq'
    | brk => exact False.elim hq'
    | cont => exact False.elim hq'
theorem pe_make (M : Mk X.K C f) (F : FnOk X.prog X.w X.K X.mg X.base CX k f fd ps sp) (hr : Room (k + 1) X.A) (hg : Gl X x) (hm : X.mg x = some (.ref C)) (hb : Binds X.K fd ps ds) (hd : Vals dvs ds) (hx : Passes CX X E)
    (ha : PA X (e :: es) t) (hdb : (x == ("__debug__" : Str)) = false := by decide) (he : starEach (e :: es) X.env = (false, eval e X.env) :: starEach es X.env := by rfl) (hpl : (backTo pos (starEach es X.env)).any (·.1) = false := by rfl) :
    PE X (.Call (.Name x p) (e :: es) [] pos) (tMake C sp dvs E t) := by
  refine ⟨?_⟩
  intro pins s σ H Q I h
  refine wpAny_Call_Name_kw (ld_glob I hg hm ?_ hdb)
  refine PySem.W.callWith_K (h₀ := X.base) I.ok.mod.kin M.kp (thn (ha pos pins s σ H _ I h) fun us s1 ⟨vs, H1, I1, r, q⟩ => ⟨I1.kIn, ?_⟩) he hpl
  exact run_make M F hr hb hd hx I1 r q
end

/-! ### keywords -/
section
variable {X : Cx} {CX : CXT} {k : Nat} {f C : Addr} {fd : FuncData} {ps ks : List Str} {sp : Sp} {E : XK} {x m : Str} {p pos apos kpos : Pos} {e o : Expr} {es : List Expr} {kws : List Keyword} {te ta : TE} {t tk : TA} {nm : Option Str}
/-- how a call with keywords binds: g puts the positional values us and the keywords' values ws (names ks) in the parameters' order, defaults among them -/
structure KBinds (K : PySem.W.Frag) (fd : FuncData) (ps ks : List Str) (g : List Value → List Value → List Value) (gV : List V → List V → List V) : Prop where
  to : ∀ (s : Shared) (us ws : List Value), K.In s.heap → (g us ws).length = ps.length → BindsTo s fd ⟨us, ks.zip ws⟩ (ps.zip (g us ws))
  rel : ∀ {vs : List V} {us : List Value} {zs : List V} {ws : List Value}, Vals vs us → Vals zs ws → Vals (gV vs zs) (g us ws)
variable {g : List Value → List Value → List Value} {gV : List V → List V → List V}
end

/-! ### a def's body keeps its promise -/
/-- names: the parameters first -/
structure FnScope (N P : List Str) (sc : Scope) : Prop where
  kind : sc.kind = .function
  co : sc.isCoroutine = false
  gen : sc.isGenerator = false
  nd : N.Nodup
  pre : N.take P.length = P
  par : ∀ x ∈ P, sc.names.lookup x = some .local ∨ sc.names.lookup x = some .cell
  nofree : ∀ y ∈ sc.names, y.2 ≠ .free

theorem bindL_out {kindOf : Str → Option NameKind} {x : Str} : ∀ {binds : List (Str × Value)} {m : Str → Option Value}, (∀ v, (x, v) ∉ binds) → bindL kindOf binds m x = m x
  | [], _, _ => rfl
  | (n, v) :: r, m, h => by
    unfold bindL
    rw [bindL_out fun w hw => h w (List.mem_cons_of_mem _ hw)]
    split
    · have : x ≠ n := by rintro rfl; exact h v List.mem_cons_self
      simp [this]
    · rfl
theorem bindC_out {kindOf : Str → Option NameKind} {x : Str} : ∀ {binds : List (Str × Value)} {m : Str → Option Value}, (∀ v, (x, v) ∉ binds) → bindC kindOf binds m x = m x
  | [], _, _ => rfl
  | (n, v) :: r, m, h => by
    unfold bindC
    rw [bindC_out fun w hw => h w (List.mem_cons_of_mem _ hw)]
    split
    · rfl
    · have : x ≠ n := by rintro rfl; exact h v List.mem_cons_self
      simp [this]
theorem bindL_get {kindOf : Str → Option NameKind} {x : Str} {v : Value} : ∀ {P : List Str} {vs : List Value} {i : Nat} {m : Str → Option Value}, P.Nodup → P[i]? = some x → vs[i]? = some v → kindOf x = some .local →
    bindL kindOf (P.zip vs) m x = some v
  | [], _, _, _, _, h, _, _ => by simp at h
  | _ :: _, [], _, _, _, _, h, _ => by simp at h
  | p :: P, w :: vs, 0, m, nd, h1, h2, hk => by
    simp at h1 h2; subst h1; subst h2
    show bindL kindOf ((p, w) :: P.zip vs) m p = _
    unfold bindL
    rw [bindL_out fun v hv => (List.nodup_cons.mp nd).1 (List.of_mem_zip hv).1, if_pos hk]
    simp
  | p :: P, w :: vs, i + 1, m, nd, h1, h2, hk => by
    show bindL kindOf ((p, w) :: P.zip vs) m x = _
    unfold bindL
    exact bindL_get (i := i) (List.nodup_cons.mp nd).2 (by simpa using h1) (by simpa using h2) hk
theorem bindC_get {kindOf : Str → Option NameKind} {x : Str} {v : Value} : ∀ {P : List Str} {vs : List Value} {i : Nat} {m : Str → Option Value}, P.Nodup → P[i]? = some x → vs[i]? = some v → kindOf x ≠ some .local →
    bindC kindOf (P.zip vs) m x = some v
  | [], _, _, _, _, h, _, _ => by simp at h
  | _ :: _, [], _, _, _, _, h, _ => by simp at h
  | p :: P, w :: vs, 0, m, nd, h1, h2, hk => by
    simp at h1 h2; subst h1; subst h2
    show bindC kindOf ((p, w) :: P.zip vs) m p = _
    unfold bindC
    rw [bindC_out fun v hv => (List.nodup_cons.mp nd).1 (List.of_mem_zip hv).1, if_neg hk]
    simp
  | p :: P, w :: vs, i + 1, m, nd, h1, h2, hk => by
    show bindC kindOf ((p, w) :: P.zip vs) m x = _
    unfold bindC
    exact bindC_get (i := i) (List.nodup_cons.mp nd).2 (by simpa using h1) (by simpa using h2) hk

/-- the names' values at the entry -/
def start (N : List Str) (vs : List V) : St := vs.map some ++ List.replicate (N.length - vs.length) none

/-- the context of a def's body, at its entry; an exception leaves the frame, then lies as CX says -/
def cxOf (CX : CXT) (P : Program) (w : World) (K : PySem.W.Frag) (mg : Str → Option Value) (base : Heap) (N : List Str) (qual : Str) (scope : Scope) (f : Addr) (cd : Value) (A : Around) (outer : List Env) (s : Shared) (H : Hp) (E : XK) : Cx where
  prog := P
  w := w
  K := K
  mg := mg
  base := base
  A := A.deeper (envOfC qual scope s.heap.objs.size f cd)
  N := N
  s₀ := s
  H₀ := H
  env := envOfC qual scope s.heap.objs.size f cd
  outer := outer
  stack := envOfC qual scope s.heap.objs.size f cd :: outer
  ex := []
  calm := true
  fn := fun _ => true
  pn := []
  xe := fun e s' => wpAny (model P w) (A.deeper (envOfC qual scope s.heap.objs.size f cd)) (leaving (envOfC qual scope s.heap.objs.size f cd) e) (fun _ s'' => CX outer H s E e s'') (fun e' s'' => CX outer H s E e' s'') s'

theorem cell_has {sc : Scope} {n : Nat} {x : Str} (h : sc.names.lookup x = some .cell) : ∃ c, (cellsFrom n sc.names []).lookup x = some c := by
  have q := PySem.W.cellsFrom_some sc.names n [] (.inl h)
  exact Option.isSome_iff_exists.mp q

theorem inv_start {CX : CXT} {P : Program} {w : World} {K : PySem.W.Frag} {mg : Str → Option Value} {base : Heap} {N ps : List Str} {qual : Str} {scope : Scope} {f : Addr} {cd : Value} {A : Around} {outer : List Env} {s s1 : Shared} {H : Hp} {E : XK} {us : List Value} {vs : List V}
    (S : FnScope N ps scope) (hd : A.handled = none) (e0 : Env0 P w K mg base A outer s H) (hl : vs.length = ps.length) (r : Vals vs us)
    (x : InCallC s s.heap.objs.size (bindL (envOfC qual scope s.heap.objs.size f cd).kindOf (ps.zip us) fun _ => none) (cellsFrom (s.heap.objs.size + 1) scope.names []) (bindC (envOfC qual scope s.heap.objs.size f cd).kindOf (ps.zip us) fun _ => none) s1) :
    Inv (cxOf CX P w K mg base N qual scope f cd A outer s H E) [] (start N vs) H s1 := by
  have hpl : ps.length ≤ N.length := by have := congrArg List.length S.pre; rw [List.length_take] at this; omega
  obtain ⟨h1, tk, rfl, hk⟩ := x.done
  have noA : ∀ b : Addr, b ∉ (cxOf CX P w K mg base N qual scope f cd A outer s H E).ex := fun b z => absurd (show b ∈ ([] : List Addr) from z) (by simp)
  refine ⟨⟨e0.mod, S.kind, rfl, rfl, Nat.le_refl _, fun y z c h1 h2 => ?_, fun y hy => ?_, fun y c _ h => ?_, fun _ => hd, Around.frames_deeper e0.frames, .inr ⟨rfl, rfl⟩, fun b z => absurd z (noA b), e0.bs, e0.bsz, fun b _ _ => noA b, fun b z => absurd z (noA b), e0.funs, e0.frf⟩,
    rfl, e0.bare, Un.kept hk, ⟨_, x.toInCall.ns, fun i y v h1 h2 h3 => ?_⟩, fun y c h => ⟨_, x.cell y c h⟩, e0.hok.fresh (Nat.le_refl _), fun y c h => ?_, fun p hp => absurd (show p ∈ ([] : List (Addr × Obj)) from hp) (by simp), e0.hok.kept hk, ?_⟩
  · exact name_of_addr x.apart (PySem.mem_of_lookup h1) (PySem.mem_of_lookup h2)
  · have hy : scope.names.lookup y = some .cell ∨ scope.names.lookup y = some .free := hy
    rcases hy with hy | hy
    · exact cell_has hy
    · exact absurd rfl (S.nofree _ (PySem.mem_of_lookup hy))
  · exact Nat.le_of_lt (x.above y c (PySem.mem_of_lookup h))
  · have hi : i < vs.length := by
      unfold start at h2
      by_cases hi : i < vs.length
      · exact hi
      · rw [List.getElem?_append_right (by simpa using hi)] at h2
        rw [List.getElem?_replicate] at h2
        split at h2 <;> cases h2
    have ha : vs[i]? = some v := by
      unfold start at h2
      rw [List.getElem?_append_left (by simpa using hi), List.getElem?_map] at h2
      cases e : vs[i]? with
      | none => rw [e] at h2; cases h2
      | some a => rw [e] at h2; cases h2; rfl
    obtain ⟨u, hu, rv⟩ := r.get ha
    have hp : ps[i]? = some y := by
      rw [← S.pre, List.getElem?_take_of_lt (by omega)]; exact h1
    have ndP : ps.Nodup := by rw [← S.pre]; exact S.nd.sublist (List.take_sublist _ _)
    refine ⟨u, rv, ?_⟩
    rcases S.par y (List.mem_of_getElem? hp) with k | k
    · exact .inl ⟨k, bindL_get ndP hp hu k⟩
    · obtain ⟨c, e⟩ := cell_has (n := s.heap.objs.size + 1) k
      refine .inr ⟨.inl k, c, e, ?_⟩
      have q := x.cell y c e
      rw [bindC_get ndP hp hu (by show scope.names.lookup y ≠ _; rw [k]; decide)] at q
      exact q
  · exact e0.hok.fresh (Nat.le_of_lt (x.above y c (PySem.mem_of_lookup h)))
  · unfold start
    show _ = N.length
    rw [List.length_append, List.length_map, List.length_replicate]
    omega

/-- THE RULE: a def (or a method) of the text, by its body. The body's reading t is chosen for each entry; it is run at the parameters' values -/
theorem fn_of {CX : CXT} {P : Program} {w : World} {K : PySem.W.Frag} {mg : Str → Option Value} {base : Heap} {k : Nat} {f : Addr} {name qual : Str} {params : Arguments} {body : List Stmt} {scope : Scope} {dV kV doc pm cdv ct oc : Value} {an od : Option Addr}
    {osl : Array (Option Value)} {N ps : List Str} {sp : Sp} (lk : K.lookup f = some ⟨oc, od, .func (PySem.W.fnOf name qual params body scope dV kV doc pm an cdv ct), osl⟩) (hcd : PySem.W.codeIn K cdv qual = true) (S : FnScope N ps scope)
    (len : ∀ vs H Q E, sp vs H Q E → vs.length = ps.length)
    (hbody : ∀ (A : Around) (outer : List Env) (s : Shared) (H : Hp) (vs : List V) (Q : VK) (E : XK), Room k (A.deeper (envOfC qual scope s.heap.objs.size f cdv)) → sp vs H Q E →
      ∃ t, PSs (cxOf CX P w K mg base N qual scope f cdv A outer s H E) body t ∧ t { nx := fun _ H' => Q .non H', rt := Q } (start N vs) H) :
    FnOk P w K mg base CX (k + 1) f (PySem.W.fnOf name qual params body scope dV kV doc pm an cdv ct) ps sp := by
  refine ⟨len, fun A outer s H args us vs Q E hr e0 hb r hsp => ?_⟩
  have hl := len _ _ _ _ hsp
  have KX : K.In s.heap := e0.mod.kin.keeps fun b o e => (e0.bs b o e).1
  have lim : s.heap.NoLimit := e0.mod.nolimit.keeps fun b o e => (e0.bs b o e).1
  have hkind : ∀ y ∈ ps.zip us, scope.names.lookup y.1 = some .local ∨ (scope.names.lookup y.1 = some .cell ∧ ((cellsFrom (s.heap.objs.size + 1) scope.names []).lookup y.1).isSome = true) := fun ⟨n, v⟩ hy => by
    rcases S.par n (List.of_mem_zip hy).1 with q | q
    · exact .inl q
    · exact .inr ⟨q, PySem.W.cellsFrom_some _ _ _ (.inl q)⟩
  refine codeAny_call_function hr.depth (KX _ _ lk) rfl S.co S.gen rfl (PySem.W.codeRec_of KX hcd) (hb _ _ _ _ ?_)
  refine wpAny_newFunctionEnv_cells S.kind hkind fun env he s1 x => ?_
  subst he
  refine ⟨lim.keeps x.toInCall.keep, codeAny_func ?_⟩
  obtain ⟨t, ht, hq⟩ := hbody A outer s H vs Q E (hr.deeper _) hsp
  have I : Inv (cxOf CX P w K mg base N qual scope f cdv A outer s H E) [] (start N vs) H s1 := inv_start S hr.hd e0 hl r x
  refine wpAny_mono (ht [] s1 (start N vs) H _ I hq) (fun fl s' hs => ?_) fun e s' hs => hs
  have fin : ∀ {σ' : St} {H' : Hp} {v : V} {u : Value}, Inv (cxOf CX P w K mg base N qual scope f cdv A outer s H E) [] σ' H' s' → RelV v u → Q v H' → CE outer P w H s Q u s' :=
    fun {σ' H' v u} J rv q => ⟨v, H', J.os, J.bare, J.base, J.hok, rv, q⟩
  cases fl with
  | ret u =>
    obtain ⟨v, σ', H', J, rv, q⟩ := hs
    exact fin J rv q
  | next =>
    obtain ⟨σ', H', J, q⟩ := hs
    exact fin (v := V.non) (u := Value.none) J rfl q
  | brk =>
    obtain ⟨_, _, _, q⟩ := hs
    exact False.elim q
  | cont =>
    obtain ⟨_, _, _, q⟩ := hs
    exact False.elim q
end L2

namespace L2
open PySem PySem.Spec PyProof.Rows
section
variable {X : Cx} {x : Str} {p pos : Pos} {e : Expr} {es : List Expr} {t : TA} {id T : String} {r : List V → Hp → VK → Prop}

def tCB (r : List V → Hp → VK → Prop) (t : TA) : TE := fun σ H Q => t σ H fun vs H1 => r vs H1 Q
/-- f(e, ..), f a built-in function -/
theorem pe_callB (hc : CallR X (.builtin id) r) (hg : Gl X x) (hm : X.mg x = none) (hv : bootBuiltins x = some (.builtin id)) (ha : PA X (e :: es) t) (hn : x ≠ "__name__" := by decide) (hdb : (x == ("__debug__" : Str)) = false := by decide)
    (he : starEach (e :: es) X.env = (false, eval e X.env) :: starEach es X.env := by rfl) (hpl : (backTo pos (starEach es X.env)).any (·.1) = false := by rfl) : PE X (.Call (.Name x p) (e :: es) [] pos) (tCB r t) := by
  refine ⟨?_⟩
  intro pins s σ H Q I h
  refine wpAny_Call_Name_kw (ld_blt I hg hm hv ?_ hn hdb)
  exact PyProof.Rows.callWith_builtin1 (thn (ha pos pins s σ H _ I h) fun us s1 ⟨vs, H1, I1, r1, q1⟩ => hc pins s1 σ H1 vs us Q I1 r1 q1) he hpl
/-- T(e, ..), T a built-in type -/
theorem pe_callTy (hc : CallR X (.type T) r) (hg : Gl X x) (hm : X.mg x = none) (hv : bootBuiltins x = some (.type T)) (ha : PA X (e :: es) t) (hn : x ≠ "__name__" := by decide) (hdb : (x == ("__debug__" : Str)) = false := by decide)
    (he : starEach (e :: es) X.env = (false, eval e X.env) :: starEach es X.env := by rfl) (hpl : (backTo pos (starEach es X.env)).any (·.1) = false := by rfl) : PE X (.Call (.Name x p) (e :: es) [] pos) (tCB r t) := by
  refine ⟨?_⟩
  intro pins s σ H Q I h
  refine wpAny_Call_Name_kw (ld_blt I hg hm hv ?_ hn hdb)
  exact PyProof.Rows.callWith_type1 (thn (ha pos pins s σ H _ I h) fun us s1 ⟨vs, H1, I1, r1, q1⟩ => hc pins s1 σ H1 vs us Q I1 r1 q1) he hpl
/-- T() -/
theorem pe_callTy0 (hc : CallR X (.type T) r) (hg : Gl X x) (hm : X.mg x = none) (hv : bootBuiltins x = some (.type T)) (hn : x ≠ "__name__" := by decide) (hdb : (x == ("__debug__" : Str)) = false := by decide) :
    PE X (.Call (.Name x p) [] [] pos) (tCB r tNil) := by
  refine ⟨?_⟩
  intro pins s σ H Q I h
  refine wpAny_Call_Name_kw (ld_blt I hg hm hv ?_ hn hdb)
  exact PyProof.Rows.callWith_type0 (hc pins s σ H [] [] Q I .nil h)
end
end L2

namespace HT
open PySem PyProof.Rows

section
open PySem.SeqAt
open PySem.AutoSeq1 (wpAny_loadPart')
open PySem.MeetsSeq PySem.MeetsSeq2 PySem.MeetsSeq3

end

section
variable {prog : Program} {w : World} {A : Around} {E : Value → Shared → Prop} {s : Shared}

/-! ### t[a:b], not the whole -/
end
end HT

namespace L2
open PySem PySem.Spec PyProof.Rows

/-! ### the parts of a slice -/
section
variable {X : Cx} {e : Expr} {te : TE} {lo hi : Option Expr} {tl th : TO} {pos p2 : Pos}

/-! ### t < u, t + u -/
end
end L2

namespace L2
open PySem PySem.Spec PyProof.Rows

/-! ### places -/
/-- the place that an index of any sign means -/
def ixN (n : Nat) (i : Int) : Option Nat := if 0 ≤ i then (if i < n then some i.toNat else none) else if -(n : Int) ≤ i then some (i + n).toNat else none
def atI {α : Type} (xs : List α) (i : Int) : Option α := (ixN xs.length i).bind fun j => xs[j]?
theorem ixN_seq {n : Nat} {i : Int} {j : Nat} (h : ixN n i = some j) : seqIndex? i n = some j ∧ j < n ∧ -(n : Int) ≤ i ∧ i < n := by
  unfold ixN at h
  by_cases h0 : 0 ≤ i
  · rw [if_pos h0] at h
    by_cases h1 : i < n
    · rw [if_pos h1] at h
      have e : i.toNat = j := Option.some.inj h
      exact ⟨by rw [seqIndex_of h0 h1, e], by omega, by omega, h1⟩
    · rw [if_neg h1] at h; cases h
  · rw [if_neg h0] at h
    by_cases h1 : -(n : Int) ≤ i
    · rw [if_pos h1] at h
      have e : (i + n).toNat = j := Option.some.inj h
      exact ⟨by rw [seqIndex_neg (by omega) h1, e], by omega, h1, by omega⟩
    · rw [if_neg h1] at h; cases h
theorem atI_get {α : Type} {xs : List α} {i : Int} {v : α} (h : atI xs i = some v) : ∃ j, seqIndex? i xs.length = some j ∧ xs[j]? = some v ∧ j < xs.length ∧ -(xs.length : Int) ≤ i ∧ i < xs.length := by
  unfold atI at h
  cases e : ixN xs.length i with
  | none => rw [e] at h; cases h
  | some j =>
    rw [e] at h
    obtain ⟨h1, h2, h3, h4⟩ := ixN_seq e
    exact ⟨j, h1, h, h2, h3, h4⟩
theorem atI_nat {α : Type} {xs : List α} {j : Nat} {v : α} (h : xs[j]? = some v) : atI xs (j : Int) = some v := by
  have hj : j < xs.length := (List.getElem?_eq_some_iff.mp h).1
  have e : ixN xs.length (j : Int) = some j := by
    unfold ixN
    rw [if_pos (by omega), if_pos (by omega)]; simp
  unfold atI; rw [e]; exact h
/-! ### what may be subscripted -/
/-- what stands as an index of a plain subscript -/
def PlainIx (b : Expr) : Prop := ∀ o i, subscripted b false o i = operate [o, i] (getItem o i)
/-- a subscript by values -/
def IxR (X : Cx) (r : R2) : Prop :=
  ∀ (value slice : Expr) (pins : List (Addr × Obj)) (s : Shared) (σ : St) (H : Hp) (x y : V) (v u : Value) (Q : VK), Inv X pins σ H s → RelV x v → RelV y u → r x y H Q →
    subscripted slice false v u = operate [v, u] (getItem v u) → wpAny (model X.prog X.w) X.A (subscriptTail value slice v u) (EP X pins σ Q) X.xe s
section
variable {X : Cx} {a b : Expr} {ta tb : TE} {pos : Pos}
/-- a[b] -/
theorem pe_ix {r : R2} (hr : IxR X r) (ha : PE X a ta) (hb : PE X b tb) (hs : PlainIx b) : PE X (.Subscript a b pos) (tOp r ta tb) := by
  refine ⟨?_⟩
  intro pins s σ H Q I h
  exact Subscript_ (binT ha hb I h fun v u s2 x y H2 I2 rx ry q => hr a b pins s2 σ H2 x y v u Q I2 rx ry q (hs _ _))

def rIxL (K : PySem.W.Frag) : R2 := fun x y H Q => ∃ p xs i v, x = .ref p ∧ y = .int i ∧ SqL K H p xs ∧ atI xs i = some v ∧ Q v H
def rIxS : R2 := fun x y H Q => ∃ z i c, x = .str z ∧ y = .int i ∧ z.length ≤ sizeLine ∧ atI z.cps.toList i = some c ∧ Q (.str ⟨#[c]⟩) H
theorem ix_list : IxR X (rIxL X.K) := by
  intro value slice pins s σ H x y v u Q I rx ry h hs
  obtain ⟨p, xs, i, z, rfl, rfl, hq, he, q⟩ := h
  cases rx
  obtain ⟨t, rfl⟩ := ry
  obtain ⟨its, r, pl, hz⟩ := I.list hq
  obtain ⟨j, h1, h2, h3, h4, h5⟩ := atI_get he
  obtain ⟨w, ew, rw'⟩ := r.get h2
  have hl := r.length
  have hn := line63
  have fin : EP X pins σ Q w s := ⟨z, H, I, rw', q⟩
  by_cases h0 : 0 ≤ i
  · have hj : i.toNat = j := by
      rw [seqIndex_of h0 h5] at h1
      exact Option.some.inj h1
    exact item_listR pl.isList h0 (by omega) (by rw [hj]; simpa using ew) fin hs
  · have hj : (i + (its.toArray.size : Int)).toNat = j := by
      rw [seqIndex_neg (by omega) h4] at h1
      rw [List.size_toArray, ← hl]
      exact Option.some.inj h1
    exact subscriptTail_builtinR (x := w) pl.isList.typeIs slot_list_getitem.lookup
      (wpAny_getItem_list_neg (Q := fun r s' => r = w ∧ EP X pins σ Q r s') pl.isList (by omega) (by rw [List.size_toArray] <;> omega) (by omega) (by rw [hj]; simpa using ew) ⟨rfl, fin⟩) hs
theorem ix_str : IxR X rIxS := by
  intro value slice pins s σ H x y v u Q I rx ry h hs
  obtain ⟨z, i, c, rfl, rfl, hz, he, q⟩ := h
  obtain ⟨t, rfl⟩ := rx
  obtain ⟨t', rfl⟩ := ry
  obtain ⟨j, h1, h2, h3, h4, h5⟩ := atI_get he
  have hl : z.cps.toList.length = z.length := by simp [Str.length]
  rw [hl] at h1 h4 h5
  have hn := line63
  exact tail_any (typeIs_str s z t) slot_str_getitem.lookup (getItem_str (c := c) (by
    have e1 : decide (i < -(2 ^ 63 : Int)) = false := decide_eq_false (by omega)
    have e2 : decide (i ≥ 2 ^ 63) = false := decide_eq_false (by omega)
    rw [e1, e2, Bool.or_false]) (by rw [h1]; simpa using h2) ⟨.str ⟨#[c]⟩, H, I.tok _, ⟨_, rfl⟩, q⟩) hs
/-! ### xs[i] = v, any sign -/
/-! ### slices -/
/-! ### in, not in: flat items -/
def flatV : V → Bool
  | .non => true
  | .bl _ => true
  | .int _ => true
  | .str _ => true
  | _ => false
/-- == of flat values -/
def eqV : V → V → Bool
  | .non, .non => true
  | .bl a, .bl b => a == b
  | .bl a, .int b => (if a then 1 else 0) == b
  | .int a, .bl b => a == (if b then 1 else 0)
  | .int a, .int b => a == b
  | .str a, .str b => a == b
  | _, _ => false
theorem eqAt_V {A : Around} {s : Shared} {y x : V} {u v : Value} (ry : RelV y u) (rx : RelV x v) (fy : flatV y = true) (fx : flatV x = true) : SeqAt.EqAt A s u v (eqV y x) := by
  cases y with
  | non =>
    cases ry
    cases x with
    | non => cases rx; exact SeqAt.EqAt.same _
    | bl b => cases rx; exact SeqAt.EqAt.none_bool b
    | int b => obtain ⟨t, rfl⟩ := rx; exact SeqAt.EqAt.none_int b t
    | str b => obtain ⟨t, rfl⟩ := rx; exact SeqAt.EqAt.none_str b t
    | _ => exact absurd (show false = true from fx) Bool.false_ne_true
  | bl a =>
    cases ry
    cases x with
    | non => cases rx; exact SeqAt.EqAt.bool_none a
    | bl b => cases rx; exact SeqAt.EqAt.bool_bool a b
    | int b => obtain ⟨t, rfl⟩ := rx; exact SeqAt.EqAt.bool_int a b t
    | str b => obtain ⟨t, rfl⟩ := rx; exact SeqAt.EqAt.bool_str a b t
    | _ => exact absurd (show false = true from fx) Bool.false_ne_true
  | int a =>
    obtain ⟨t', rfl⟩ := ry
    cases x with
    | non => cases rx; exact SeqAt.EqAt.int_none a t'
    | bl b => cases rx; exact SeqAt.EqAt.int_bool a t' b
    | int b => obtain ⟨t, rfl⟩ := rx; exact SeqAt.EqAt.int_int a t' b t
    | str b => obtain ⟨t, rfl⟩ := rx; exact SeqAt.EqAt.int_str a t' b t
    | _ => exact absurd (show false = true from fx) Bool.false_ne_true
  | str a =>
    obtain ⟨t', rfl⟩ := ry
    cases x with
    | non => cases rx; exact SeqAt.EqAt.str_none a t'
    | bl b => cases rx; exact SeqAt.EqAt.str_bool a t' b
    | int b => obtain ⟨t, rfl⟩ := rx; exact SeqAt.EqAt.str_int a t' b t
    | str b => obtain ⟨t, rfl⟩ := rx; exact SeqAt.EqAt.str_str a t' b t
    | _ => exact absurd (show false = true from fx) Bool.false_ne_true
  | _ => exact absurd (show false = true from fy) Bool.false_ne_true
/-- the items' answers, read off the values (a value's own answer does not lean on its token) -/
def eqU (x : V) (u : Value) : Bool := match u with
  | .none => eqV .non x
  | .bool b => eqV (.bl b) x
  | .int i _ => eqV (.int i) x
  | .str z _ => eqV (.str z) x
  | _ => false
theorem eqU_of {x y : V} {u : Value} (r : RelV y u) (f : flatV y = true) : eqU x u = eqV y x := by
  cases y with
  | non => cases r; rfl
  | bl b => cases r; rfl
  | int i => obtain ⟨t, rfl⟩ := r; rfl
  | str z => obtain ⟨t, rfl⟩ := r; rfl
  | _ => exact absurd (show false = true from f) Bool.false_ne_true
theorem any_eqU {x : V} : ∀ {xs : List V} {us : List Value}, Vals xs us → xs.all flatV = true → us.any (eqU x) = xs.any fun y => eqV y x
  | _, _, .nil, _ => rfl
  | y :: xs, u :: us, .cons r t, f => by
    rw [List.all_cons, Bool.and_eq_true] at f
    rw [List.any_cons, List.any_cons, eqU_of r f.1, any_eqU t f.2]
theorem mem_eqAt {A : Around} {s : Shared} {x : V} {v : Value} (rx : RelV x v) (fx : flatV x = true) : ∀ {xs : List V} {us : List Value}, Vals xs us → xs.all flatV = true → ∀ u ∈ us, SeqAt.EqAt A s u v (eqU x u)
  | _, _, .nil, _ => fun u hu => by cases hu
  | y :: xs, u :: us, .cons r t, f => fun u' hu => by
    rw [List.all_cons, Bool.and_eq_true] at f
    rcases List.mem_cons.mp hu with rfl | hu
    · rw [eqU_of r f.1]; exact eqAt_V r rx f.1 fx
    · exact mem_eqAt rx fx t f.2 u' hu
def inV (x : V) (xs : List V) : Bool := xs.any fun y => eqV y x
/-- x in a list or tuple of flat items -/
def rIn (K : PySem.W.Frag) (neg : Bool) : R2 := fun x y H Q => ∃ p xs, y = .ref p ∧ (SqL K H p xs ∨ SqT K H p xs) ∧ flatV x = true ∧ xs.all flatV = true ∧ Q (.bl (if neg then !inV x xs else inV x xs)) H
theorem op_in_seq : OpR X (compareOp .In) (rIn X.K false) := by
  intro pins s σ H x y v u Q I rx ry h
  obtain ⟨p, xs, rfl, hq, fx, fs, q⟩ := h
  cases ry
  rcases hq with hq | hq
  · obtain ⟨its, r, pl, hz⟩ := I.list hq
    refine SeqAt.in_listAt (eqU x) pl.isList (fun w hw => mem_eqAt rx fx r fs w (by simpa using hw)) ⟨.bl _, H, I, rfl, ?_⟩
    rw [show its.toArray.any (eqU x) = its.any (eqU x) by simp, any_eqU r fs]
    exact q
  · obtain ⟨its, r, pl, hz⟩ := I.tuple hq
    refine SeqAt.in_tupleAt (eqU x) pl (fun w hw => mem_eqAt rx fx r fs w (by simpa using hw)) ⟨.bl _, H, I, rfl, ?_⟩
    rw [show its.toArray.any (eqU x) = its.any (eqU x) by simp, any_eqU r fs]
    exact q
/-! ### len, list(x), tuple(x) of any list or tuple that is read -/
theorem call_len_seq : CallR X (.builtin "len") (fun xs H Q => ∃ p ys, xs = [.ref p] ∧ (SqL X.K H p ys ∨ SqT X.K H p ys) ∧ Q (.int ys.length) H) := by
  intro pins s σ H xs us Q I r h
  obtain ⟨p, ys, rfl, hq, q⟩ := h
  obtain ⟨u, rfl, rx⟩ := vals1 r
  cases rx
  have hn := line63
  rcases hq with hq | hq
  · obtain ⟨its, r', pl, hz⟩ := I.list hq
    have hlen := r'.length
    exact Calls.call_len_list pl.isList (by simp only [List.size_toArray] <;> omega) ⟨.int ys.length, H, I.tok _, ⟨s.toks + 1, by rw [List.size_toArray, hlen]⟩, q⟩
  · obtain ⟨its, r', pl, hz⟩ := I.tuple hq
    have hlen := r'.length
    exact len_tuple pl (by simp only [List.size_toArray] <;> omega) ⟨.int ys.length, H, I.tok _, ⟨s.toks + 1, by rw [List.size_toArray, hlen]⟩, q⟩
theorem call_len_str : CallR X (.builtin "len") (fun xs H Q => ∃ z, xs = [.str z] ∧ z.length ≤ sizeLine ∧ Q (.int z.length) H) := by
  intro pins s σ H xs us Q I r h
  obtain ⟨z, rfl, hz, q⟩ := h
  obtain ⟨u, rfl, t, rfl⟩ := vals1 r
  have hn := line63
  exact len_str (by omega) ⟨.int z.length, H, I.tok _, ⟨_, rfl⟩, q⟩
theorem call_list_of : CallR X (.type "list") (fun xs H Q => ∃ p ys, xs = [.ref p] ∧ (SqL X.K H p ys ∨ SqT X.K H p ys) ∧ ∀ l, H l = none → Q (.ref l) (upd H l (.lst ys))) := by
  intro pins s σ H xs us Q I r h
  obtain ⟨p, ys, rfl, hq, q⟩ := h
  obtain ⟨u, rfl, rx⟩ := vals1 r
  cases rx
  have fin : ∀ (its : List Value), Vals ys its → ys.length ≤ sizeLine → ∀ (h' : Heap) (c' : Nat), (∀ b o', s.heap.get? b = some o' → h'.get? b = some o') →
      h'.get? s.heap.objs.size = some { cls := .type "list", dict := none, data := .seq its.toArray c', slots := #[] } → EP X pins σ Q (.ref s.heap.objs.size) { s with heap := h' } := fun its r' hz h' c' kp e =>
    ⟨.ref s.heap.objs.size, _, I.laid (t' := s.toks) kp (Nat.le_refl _) (show ObjOk X.prog X.w _ h' _ (.lst ys) from ⟨hz, its, c', r', e⟩), rfl, q _ (I.hok.fresh (Nat.le_refl _))⟩
  rcases hq with hq | hq
  · obtain ⟨its, r', pl, hz⟩ := I.list hq
    have hlen := r'.length
    obtain ⟨o, ho, hc, n, hd⟩ := pl.isList
    exact call_list_seq p (.inl rfl) ho hc hd (fun h' c' kp e => fin its r' hz h' c' kp e) (by simp only [List.size_toArray] <;> omega)
  · obtain ⟨its, r', pl, hz⟩ := I.tuple hq
    have hlen := r'.length
    obtain ⟨o, ho, hc, n, hd⟩ := pl
    exact call_list_seq p (.inr rfl) ho hc hd (fun h' c' kp e => fin its r' hz h' c' kp e) (by simp only [List.size_toArray] <;> omega)
/-! ### the call of a builtin's method: o.m(..) -/
variable {o e : Expr} {es : List Expr} {to : TE} {t : TA} {name : Str} {apos cpos : Pos} {T id : String} {r : V → List V → Hp → VK → Prop}
/- xs.append(e), list.index on a module's tuple .. are MtR facts of 06m -/
end
end L2

namespace L2
open PySem PySem.Spec PyProof.Rows

def MtM (X : Cx) (id : String) (r : V → List V → Hp → VK → Prop) : Prop :=
  ∀ (pins : List (Addr × Obj)) (s : Shared) (σ : St) (H : Hp) (x : V) (xs : List V) (v : Value) (us : List Value) (Q : VK), Inv X pins σ H s → RelV x v → Vals xs us → r x xs H Q →
    wpAny (model X.prog X.w) X.A (call (.builtin id) (v :: us)) (EP X pins σ Q) X.xe s

/-! ### lists of values -/
theorem Vals.one : ∀ {x : V} {us : List Value}, Vals [x] us → ∃ u, us = [u] ∧ RelV x u
  | _, _, .cons r .nil => ⟨_, rfl, r⟩
theorem Vals.rep {xs : List V} {us : List Value} (h : Vals xs us) : ∀ k : Nat, Vals (List.replicate k xs).flatten (List.replicate k us).flatten
  | 0 => .nil
  | k + 1 => by
    rw [List.replicate_succ, List.replicate_succ, List.flatten_cons, List.flatten_cons]
    exact Vals.append h (Vals.rep h k)
theorem foldl_rep (its : List Value) : ∀ (k : Nat) (acc : List Value),
    List.foldl (fun x1 x2 => x1 ++ x2) acc.toArray (List.replicate k its.toArray) = (acc ++ (List.replicate k its).flatten).toArray
  | 0, acc => by simp
  | k + 1, acc => by
    have e : acc.toArray ++ its.toArray = (acc ++ its).toArray := by simp
    have e2 : (acc ++ its) ++ (List.replicate k its).flatten = acc ++ (List.replicate (k + 1) its).flatten := by
      rw [List.replicate_succ, List.flatten_cons, List.append_assoc]
    rw [← e2, ← foldl_rep its k (acc ++ its), ← e, List.replicate_succ, List.foldl_cons]

section
variable {X : Cx} {pins : List (Addr × Obj)} {σ : St} {H : Hp} {s : Shared} {l b : Addr} {xs ys zs : List V}

/-! ### the two steps: a tracked list is rewritten, a new list is laid -/
theorem Inv.lset {its its' : List Value} {n : Nat} {f : Array Value → Array Value} {t' : Nat} (I : Inv X pins σ H s) (hH : H l = some (.lst xs))
    (e : s.heap.get? l = some { cls := .type "list", data := .seq its.toArray n }) (hf : f its.toArray = its'.toArray) (hv : Vals ys its') (hz : ys.length ≤ sizeLine) :
    Inv X pins σ (upd H l (.lst ys)) { s with heap := s.heap.update l (Obj.mapSeq f), toks := t' } := by
  have q := PySem.IsL.update e f
  rw [hf] at q
  refine I.write (x := l) (e := l) (by rw [hH]; exact trivial) (.inl rfl) (fun b' u hb hu => (Heap.get?_update_other s.heap (Obj.mapSeq f) (Ne.symm hb)).trans hu) ⟨_, q⟩ ?_
  exact ⟨hz, its', _, hv, q⟩
theorem Inv.lnew {its : List Value} {t' : Nat} (I : Inv X pins σ H s) (hv : Vals ys its) (hz : ys.length ≤ sizeLine) :
    Inv X pins σ (upd H s.heap.objs.size (.lst ys)) { s with heap := s.heap.push { cls := .type "list", data := .seq its.toArray }, toks := t' } :=
  I.laid (fun _ _ q => Heap.get?_push_of_some _ q) (Nat.le_refl _) ⟨hz, its, 0, hv, Heap.get?_push_size _ rfl⟩
theorem Inv.fresh (I : Inv X pins σ H s) : H s.heap.objs.size = none := I.hok.fresh (Nat.le_refl _)
theorem Inv.lstM (I : Inv X pins σ H s) (hH : H l = some (.lst xs)) : xs.length ≤ sizeLine ∧ ∃ (its : List Value) (n : Nat), Vals xs its ∧ xs.length = its.length ∧ s.heap.get? l = some { cls := .type "list", data := .seq its.toArray n } := by
  obtain ⟨z, its, n, r, e⟩ := I.hok l _ hH
  exact ⟨z, its, n, r, r.length, e⟩

theorem notLongL {n : Nat} (h : n ≤ sizeLine) : Builtin.List.listTooLong n = false := by
  unfold Builtin.List.listTooLong
  exact decide_eq_false (by omega)
end

section
variable {X : Cx}

/-! ### methods -/
def rAppend : V → List V → Hp → VK → Prop := fun x vs H Q => ∃ l xs y, x = .ref l ∧ vs = [y] ∧ H l = some (.lst xs) ∧ xs.length < sizeLine ∧ Q .non (upd H l (.lst (xs ++ [y])))
theorem mt_append : MtM X "list.append" rAppend := by
  intro pins s σ H x vs v us Q I rx rv h
  obtain ⟨l, xs, y, rfl, rfl, hH, hz, q⟩ := h
  cases rx
  obtain ⟨u, rfl, ru⟩ := rv.one
  obtain ⟨z, its, n, r, hl, e⟩ := I.lstM hH
  refine call_meets F.slot_list_append ⟨_, e, rfl⟩ F.entry_list_append (F.args_list_append_2 _ _) (PySem.list_append l its.toArray n u (by rw [List.size_toArray]; omega)) ⟨e, ?_⟩
  refine ⟨.non, _, I.lset (its' := its ++ [u]) hH e (by simp) (r.append (.cons ru .nil)) ?_, rfl, q⟩
  rw [List.length_append, List.length_singleton]
  omega

/-! ### list + list, list += list, list * int -/
def rCat : R2 := fun x y H Q => ∃ l b xs zs, x = .ref l ∧ y = .ref b ∧ H l = some (.lst xs) ∧ H b = some (.lst zs) ∧ xs.length + zs.length ≤ sizeLine ∧ ∀ p, H p = none → Q (.ref p) (upd H p (.lst (xs ++ zs)))
theorem op_cat : OpR X (binaryOp .Add) rCat := by
  intro pins s σ H x y v u Q I rx ry h
  obtain ⟨l, b, xs, zs, rfl, rfl, hH, hB, hz, q⟩ := h
  cases rx
  cases ry
  obtain ⟨z, its, n, r, hl, e⟩ := I.lstM hH
  obtain ⟨z2, its2, n2, r2, hl2, e2⟩ := I.lstM hB
  refine PySem.P.add_list e e2 ?_ (by rw [List.size_toArray, List.size_toArray]; omega)
  have ea : its.toArray ++ its2.toArray = (its ++ its2).toArray := by simp
  rw [ea]
  exact ⟨.ref _, _, I.lnew (t' := s.toks) (r.append r2) (by rw [List.length_append]; omega), rfl, q _ I.fresh⟩
/-- a list times an int (a negative one is nothing) -/
def rRep : R2 := fun x y H Q => ∃ l k xs, x = .ref l ∧ y = .int k ∧ H l = some (.lst xs) ∧ -(2 ^ 63) ≤ k ∧ k < 2 ^ 63 ∧ xs.length * k.toNat ≤ sizeLine ∧
  ∀ p, H p = none → Q (.ref p) (upd H p (.lst (List.replicate k.toNat xs).flatten))
theorem len_rep {α : Type} (xs : List α) (k : Nat) : (List.replicate k xs).flatten.length = k * xs.length := by
  induction k with
  | zero => simp
  | succ k ih => rw [List.replicate_succ, List.flatten_cons, List.length_append, ih, Nat.succ_mul, Nat.add_comm]
theorem op_rep : OpR X (binaryOp .Mult) rRep := by
  intro pins s σ H x y v u Q I rx ry h
  obtain ⟨l, k, xs, rfl, rfl, hH, h1, h2, hz, q⟩ := h
  cases rx
  obtain ⟨t, rfl⟩ := ry
  obtain ⟨z, its, n, r, hl, e⟩ := I.lstM hH
  have hlen : its.toArray.size * k.toNat ≤ sizeLine := by rw [List.size_toArray, ← hl]; exact hz
  have hcap : ¬ its.toArray.size * k.toNat > (2 ^ 63 - 1) / 8 := by
    have : (sizeLine : Nat) ≤ (2 ^ 63 - 1) / 8 := by decide
    omega
  have hfit : ¬ (!Builtin.List.listFitsIndex k) = true := by
    rw [fitsIndex_both h1 h2]
    exact Bool.false_ne_true
  have hlong : ¬ Builtin.List.listTooLong (its.toArray.size * k.toNat) = true := by
    rw [notLongL hlen]
    exact Bool.false_ne_true
  have hnew : List.foldl (fun x1 x2 => x1 ++ x2) #[] (List.replicate (if its.toArray.isEmpty = true then 0 else k.toNat) its.toArray) = (List.replicate k.toNat its).flatten.toArray := by
    have f0 : ∀ m : Nat, List.foldl (fun x1 x2 => x1 ++ x2) #[] (List.replicate m its.toArray) = (List.replicate m its).flatten.toArray := fun m => by
      have := foldl_rep its m []
      rw [List.nil_append] at this
      exact this
    rw [f0]
    cases its with
    | nil => simp
    | cons a r' => rw [if_neg (by simp)]
  refine wpAny_binaryOp_repeat_ref (T := "list") (U := "int") (by decide) ⟨_, e, rfl⟩ (fun s' => typeIs_int s' k t) noFill_list_mul F.fills_int_mul F.slot_int_rmul repeat_list F.slot_int_index.lookup
    (call_meets F.slot_int_rmul (typeIs_int s k t) F.entry_int_rmul (F.args_int_rmul_2 _ _) (int___rmul___int_list k t l its.toArray n)
      ⟨e, rfl, ⟨_, e, rfl⟩, call_meets F.slot_list_mul ⟨_, e, rfl⟩ F.entry_list_mul (F.args_list_mul_2 _ _) (AutoListH.list___mul___list_int_3 l its.toArray n k t hfit hcap hlong) ⟨e, ?_⟩⟩)
  rw [hnew]
  exact ⟨.ref _, _, I.lnew (t' := s.toks) (r.rep k.toNat) (by rw [len_rep, Nat.mul_comm]; exact hz), rfl, q _ I.fresh⟩

/-! ### del xs[i] -/
end

/-! ### xs[a:b] = ys -/
section
variable {prog : Program} {w : World} {A : Around} {E : Value → Shared → Prop} {s : Shared}
set_option maxRecDepth 100000 in
end

section
variable {X : Cx}
end
end L2

namespace L2
open PySem PySem.Spec PyProof.Rows

/-! ### lists of pairs as tables -/
section
variable {κ : Type} [DecidableEq κ]
end


/-! ### a tracked dict, its keys ints and texts or tuples of these -/
section
variable {P : Program} {w : World} {H : Hp} {h : Heap} {a : Addr}
end

section
variable {X : Cx} {pins : List (Addr × Obj)} {σ : St} {H : Hp} {s : Shared} {a : Addr} {y v : V} {u r : Value} {o : Option V} {A : Around} {E : Value → Shared → Prop}

end

section
variable {X : Cx} {pins : List (Addr × Obj)} {σ : St} {H : Hp} {s : Shared} {a : Addr} {kvs : List (Key × V)} {k : Key} {u : Value} {A : Around} {E : Value → Shared → Prop}
end


/-! ### readings and rules -/
/-- the element of a subscription, not a slice -/
def NoSl (i : Expr) : Prop := ∀ ov iv, subscripted i false ov iv = operate [ov, iv] (getItem ov iv)
theorem subD_of {prog : Program} {w : World} {A : Around} {E : Value → Shared → Prop} {s : Shared} {env : Env} {value slice : Expr} {pos : Pos} {T id : String} {Q : Value → Shared → Prop}
    (hl : typeLookup (.type T) "__getitem__" = pure (some (.builtin id))) (hs : NoSl slice)
    (h : wpAny (model prog w) A (eval value env) (fun o s₁ => wpAny (model prog w) A (eval slice env) (fun i s₂ => s₂.TypeIs o T ∧ wpAny (model prog w) A (getItem o i) Q E s₂) E s₁) E s) :
    wpAny (model prog w) A (eval (.Subscript value slice pos) env) Q E s := by
  refine Subscript_ (wpAny_mono h (fun o s₁ h₁ => wpAny_mono h₁ (fun i s₂ h₂ => ?_) fun _ _ x => x) fun _ _ x => x)
  obtain ⟨hT, h₂⟩ := h₂
  unfold subscriptTail
  refine wpAny_bind ?_
  rw [getitemInPython_of_ne hT.not_modules]
  refine wpAny_bind (wpAny_specialOf hT hl ?_)
  have fin : wpAny (model prog w) A (subscripted slice false o i) (fun r s₃ => wpAny (model prog w) A (letTemporaryGo value o r >>= fun _ => pure r) Q E s₃) E s₂ := by
    rw [hs o i]
    exact wpAny_operating (wpAny_mono h₂ (fun r s₃ h₃ => wpAny_bind (wpAny_letTemporaryGo (wpAny_pure h₃))) fun _ _ x => x)
  first
    | exact wpAny_pure (wpAny_bind fin)
    | exact wpAny_bind (wpAny_pure (wpAny_bind fin))
    | exact wpAny_bind fin

section
variable {X : Cx} {o i e value : Expr} {pos pos' tpos : Pos} {td ty tv : TE}
end


/-! ### displays -/
section
variable {X : Cx} {pos : Pos}
end

/-- the pairs of a display, from the left -/
def tPairs : List (TE × TE) → St → Hp → (List (V × V) → Hp → Prop) → Prop
  | [], _, H, Q => Q [] H
  | (tk, tv) :: r, σ, H, Q => tk σ H fun x H1 => tv σ H1 fun y H2 => tPairs r σ H2 fun ps H3 => Q ((x, y) :: ps) H3
/-! ### methods -/
/-- a method call o.m(e) of a built-in, with one argument: what must be seen of the text -/
structure M1 (X : Cx) (o : Expr) (m : Str) (apos : Pos) (e : Expr) (cpos : Pos) : Prop where
  base : attributeBase o m X.env (eval o X.env) = eval o X.env
  few : ((backTo cpos (starEach [e] X.env)).all (fun x => !x.1) && (backToKw cpos (keywordEach [] X.env)).all (fun x => x.1.isSome)
    && decide (([e] : List Expr).length + ([] : List Keyword).length + (if ([] : List Keyword).isEmpty then 0 else 1) < 30)) = true
  line : (apos.endLine == cpos.line) = true
  trees : backTo cpos (starEach [e] X.env) = [(false, eval e X.env)]
section
variable {X : Cx} {pins : List (Addr × Obj)} {σ : St} {H : Hp} {s : Shared} {a : Addr} {y d : V} {u r : Value} {o : Option V} {A : Around} {E : Value → Shared → Prop}
end

section
variable {X : Cx} {o e f : Expr} {apos cpos : Pos} {td ty tx : TE}
end

/-! ### dict(d): a copy -/
section
variable {X : Cx} {pins : List (Addr × Obj)} {σ : St} {H : Hp} {s : Shared} {a : Addr} {kvs : List (Key × V)} {A : Around} {E : Value → Shared → Prop}
end


section
variable {X : Cx} {pins : List (Addr × Obj)} {σ : St} {H : Hp} {s : Shared} {a : Addr} {y : V} {u : Value} {A : Around} {E : Value → Shared → Prop}
end
end L2
namespace Att
open PySem PySem.W PySem.Calls PyProof.Rows

/-! ### the script -/
theorem ints_of_wellAll {P : Params} {h : Heap} : ∀ (ns : List Int) (vs : List Value), WellAll P h vs (ns.map WData.int) → IntsAre vs ns := by
  intro ns
  induction ns with
  | nil =>
    intro vs w
    rw [List.map_nil] at w
    cases w
    exact .nil
  | cons n ns ih =>
    intro vs w
    rw [List.map_cons] at w
    cases w with
    | cons a b =>
      cases a
      exact .cons _ _ (ih _ b)

theorem script_of {l : OpenLaw} {n : Nat} (hn : l.most = some n) {P : Params} {h : Heap} {args : List WData} {vals : List Value}
    (hpre : l.row.toRowW.claim.pre args = true) (hwl : WellAll P h vals args) :
    ∃ a vs ns, vals = [Value.ref a] ∧ args = [WData.list (ns.map WData.int)] ∧ h.get? a = some { cls := .type "list", data := .seq vs.toArray } ∧ IntsAre vs ns ∧ ns.length ≤ n := by
  have hsh : WShape.hasAll [] args [.list .int] = true := (pre_splitW hpre).1
  have hc : l.pre.holds [] { args := args } = true := (pre_splitW hpre).2
  obtain ⟨d, r, rfl, h1, h2⟩ := hasAllW_cons hsh
  obtain rfl := hasAllW_nil h2
  obtain ⟨xs, rfl, h3⟩ := hasW_list h1
  obtain ⟨ns, rfl⟩ := items_int h3
  have hlen : ns.length ≤ n := by
    unfold OpenLaw.pre at hc
    have h4 : (WTm.not (.lt (.lit (.int (n : Int))) (.len (.arg 0)))).holds [] { args := [.list (ns.map .int)] } = true := by
      have h4 := (holds_andW hc).1
      rw [hn] at h4
      exact h4
    have h5 := condW_of h4 (w_not (w_lt w_lit (w_len_list (w_arg rfl))))
    rw [List.length_map] at h5
    refine Nat.le_of_not_lt fun q => ?_
    have q' : (n : Int) < ((ns.length : Nat) : Int) := by omega
    first
      | (rw [decide_eq_true q'] at h5; exact absurd h5 (by decide))
      | (simp at h5; omega)
  cases hwl with
  | cons w1 w2 =>
    cases w2
    cases w1 with
    | list ho hall => exact ⟨_, _, ns, rfl, rfl, ho, ints_of_wellAll ns _ hall, hlen⟩

theorem post_true (l : OpenLaw) (args : List WData) : l.row.toRowW.claim.post args (.bool true) args = true :=
  postW_of (r := l.row.toRowW) (X := (true == true))
    (show WShape.has [] (.bool true) .bool = true by first | rfl | decide | simp [WShape.has, WShape.arms, WShape.armsAll])
    (show (WTm.eq .res (.lit (.bool true))).value [] { args := args, res := some (.bool true), after := args } = some (.bool (true == true)) from w_eq_bool (w_res rfl) w_lit) rfl

/-! ### the attachment: holds_open's last premise (the goal 'hc' behind k_head) from a wpAny of the law's body -/
/-- the same from a codeAny of the CALL (for a layer whose function contracts speak of calls) -/
theorem attach_call {l : OpenLaw} {n : Nat} {q : Program} {loose : List Str} {XP : (Str → Option Value) → Heap → Prop} {YP : World → Heap → Prop} {d : DefRec}
    (hn : l.most = some n) (hdf : d.params.defaults = [])
    (call : ∀ (w : World) (s₀ s₁ : Shared) (mg mb : Str → Option Value) (fa : Addr) (o : Obj) (pm cd doc : Value) (a : Addr) (vs : List Value) (ns : List Int),
      Ground q loose [] XP w s₀ mg mb s₁.heap → YP w s₁.heap →
      s₁.heap.get? fa = some o → o.data = .func (docDef d.name d.params d.body d.scope pm cd doc) → s₁.heap.CodeRec cd d.name → mg d.name = some (.ref fa) →
      s₁.heap.get? a = some { cls := .type "list", data := .seq vs.toArray } → IntsAre vs ns → ns.length ≤ n → s₁.gens = #[] →
      codeAny (model l.prog w) callerA (.call (.ref fa) ⟨[.ref a], []⟩) (fun r s' => r = .ok (.ret (.bool true)) ∧ OldK s₁.heap s'.heap ∧ s'.os = s₁.os ∧ AllBare s'.gens) s₁) :
    WalkO q loose XP YP l.row.toRowW d [] (fun f vs => PySem.call f vs) := by
  intro w s₀ s₁ mg mb G Y fa o pm cd doc dV kV ho hd hcd hD hmg hg args vals as hpre hlay hrd hwl hlo
  obtain rfl : dV = .none := Dflts.none hD hdf
  obtain rfl : kV = .none := Dflts.noKw hD
  obtain ⟨a, vs, ns, rfl, rfl, hobj, hints, hlen⟩ := script_of hn hpre hwl
  refine enter_call (codeAny_mono (call w s₀ s₁ mg mb fa o pm cd doc a vs ns G Y ho (fd_plain hd) hcd hmg hobj hints hlen hg) fun r s' hq => ?_)
  obtain ⟨rfl, h2, h3, h4⟩ := hq
  exact ⟨.inl ⟨.bool true, .bool true, [], rfl, fun _ => rfl, .bool true, post_true l _, fun _ => ⟨List.Pairwise.nil, fun _ hm => (nomatch hm)⟩⟩, h2, h3, h4⟩

/-! ### rules over ANY heap (no ledger) from facts about the written part K: the library's own take a ledger (News) for what they write -/
section
variable {prog : Program} {w : World} {A : Around} {E : Value → Shared → Prop} {s : Shared} {K : Frag}

/-! the whole heap as the ledger: makes every rule that writes through a ledger a rule over any heap -/
def ledger (h : Heap) (L d : Addr) : List (Addr × Obj) := (List.range h.objs.size).filterMap fun a => if a = L ∨ a = d then none else (h.get? a).map fun o => (a, o)
end
end Att

namespace L2
open PySem PySem.Spec PyProof.Rows

theorem vals_ints : ∀ {vs : List Value} {ns : List Int}, IntsAre vs ns → Vals (ns.map V.int) vs
  | _, _, .nil => .nil
  | _, _, .cons n t h => .cons ⟨t, rfl⟩ (vals_ints h)

/-- nothing is tracked but the script, known to the object (or it is an object of the module) -/
def Only (H : Hp) : Prop := ∀ b, H b = none ∨ ∃ o xs, H b = some (.frz o (.lst xs))

/-- THE HEAD: the law's promise, at the heap behind the top. F, the promise of the law's def, may use that base is part of the heap (so K.In base, base.Ns mainGlobals mg stand in Mod) -/
theorem law_call {P : Program} {w : World} {K : PySem.W.Frag} {mg mb : Str → Option Value} {CX : CXT} {k : Nat} {fa a : Addr} {fd : FuncData} {x : Str} {sp : Sp} {s₁ : Shared} {vs : List Value} {ns : List Int}
    (KX : K.In s₁.heap) (hns : s₁.heap.Ns mainGlobals mg) (hb : s₁.heap.Ns builtinsNs mb) (hbb : ∀ x : Str, x ≠ "__name__" → mb x = bootBuiltins x) (hlim : s₁.heap.NoLimit) (hg : s₁.gens = #[])
    (ha : s₁.heap.get? a = some { cls := .type "list", data := .seq vs.toArray }) (hi : IntsAre vs ns) (hl : ns.length ≤ sizeLine) (hr : Room k callerA)
    (F : ∀ base : Heap, K.In base → base.Ns mainGlobals mg → FnOk P w K mg base CX k fa fd [x] sp) (hbind : ∀ (s : Shared) (u : Value), BindsTo s fd ⟨[u], []⟩ [(x, u)])
    (hsp : ∀ H : Hp, Only H → SqL K H a (ns.map V.int) → sp [.ref a] H (fun v _ => v = .bl true) fun _ _ _ => False)
    (hCX : ∀ H e s', CX [] H s₁ (fun _ _ _ => False) e s' → False) :
    codeAny (model P w) callerA (.call (.ref fa) ⟨[.ref a], []⟩) (fun r s' => r = .ok (.ret (.bool true)) ∧ OldK s₁.heap s'.heap ∧ s'.os = s₁.os ∧ AllBare s'.gens) s₁ := by
  have rv := vals_ints hi
  have lenV := hi.length
  -- from an abstract heap in which nothing but the script may be tracked
  have core : ∀ H : Hp, Only H → SqL K H a (ns.map V.int) → HOk P w H s₁.heap → (∀ b, H b ≠ none → b = a) → (H a ≠ none → K.lookup a = none) →
      codeAny (model P w) callerA (.call (.ref fa) ⟨[.ref a], []⟩) (fun r s' => r = .ok (.ret (.bool true)) ∧ OldK s₁.heap s'.heap ∧ s'.os = s₁.os ∧ AllBare s'.gens) s₁ := by
    intro H hO hS hok hA hK
    have base_of : ∀ {b : Addr} {o : Obj}, s₁.heap.get? b = some o → H b = none → (hidT s₁.heap H).get? b = some o := fun e n => hidT_get e n
    have noA : ∀ {b : Addr} {o : Obj} {es : Array DictEntry} {ep : Nat}, s₁.heap.get? b = some o → o.data = .dict es ep → H b = none := fun {b o es ep} e d => by
      cases q : H b with
      | none => rfl
      | some u =>
        have e' : b = a := hA b (by rw [q]; simp)
        subst e'
        rw [ha] at e; cases e
        have d' : Data.seq vs.toArray _ = Data.dict es ep := d
        cases d'
    have nsK : ∀ {b : Addr} {m : Str → Option Value}, s₁.heap.Ns b m → (hidT s₁.heap H).Ns b m := fun {b m} ⟨o, es, ep, e, d, r⟩ => ⟨o, es, ep, base_of e (noA e d), d, r⟩
    have hKb : K.In (hidT s₁.heap H) := fun b o e => base_of (KX b o e) (by
      cases q : H b with
      | none => rfl
      | some u =>
        have e' : b = a := hA b (by rw [q]; simp)
        subst e'
        rw [hK (by rw [q]; simp)] at e; cases e)
    have hM : Mod K mg (hidT s₁.heap H) := ⟨hKb, nsK hns, ⟨mb, nsK hb, hbb⟩, let ⟨mc, h1, h2⟩ := hlim; ⟨mc, nsK h1, h2⟩⟩
    have e0 : Env0 P w K mg (hidT s₁.heap H) callerA [] s₁ H := ⟨rfl, hM, fun b o e => of_hidT e, Nat.le_of_eq (hidT_size _ _), trivial, fun b hb => absurd (show b ∈ ([] : List Addr) from hb) (by simp), hok, .of_eq hg⟩
    refine codeAny_mono ((F _ hKb (nsK hns)).run callerA [] s₁ H ⟨[.ref a], []⟩ [.ref a] [.ref a] _ _ hr e0 (hbind s₁ (.ref a)) (.cons rfl .nil) (hsp H hO hS)) fun r s' h => ?_
    cases r with
    | error e => exact (hCX H e s' h).elim
    | ok fl =>
      cases fl with
      | next => exact False.elim h
      | brk => exact False.elim h
      | cont => exact False.elim h
      | ret u =>
        obtain ⟨v, H', os, bare, un, hok', r', q⟩ := h
        have q' : v = .bl true := q
        subst q'
        obtain rfl : u = Value.bool true := r'
        refine ⟨rfl, OldK.of_keep fun b o e => ?_, os, bare⟩
        cases q : H b with
        | none => exact un.keep b o e q (by intro z; exact absurd (show b ∈ ([] : List Addr) from z) (by simp)) (by simp)
        | some u =>
          rcases hO b with z | ⟨ob, xs, z⟩
          · rw [q] at z; cases z
          · have z2 := un.frzs b ob _ z
            obtain ⟨e1, _⟩ := hok b _ z
            obtain ⟨e2, _⟩ := hok' b _ z2
            rw [e] at e1; cases e1
            exact e2
  cases hk : K.lookup a with
  | some o =>
    -- the script is one of the module's own objects
    have e := KX a o hk
    rw [ha] at e
    cases e
    refine core (fun _ => none) (fun _ => .inl rfl) (.inr ⟨_, vs.toArray, _, hk, rfl, rfl, rfl, by rw [List.size_toArray, lenV]; exact hl, by simpa using rv⟩) (fun b u z => by have z' : (none : Option HO) = some u := z; cases z') (fun b z => absurd rfl z) fun z => absurd rfl z
  | none =>
    refine core (fun b => if b = a then some (.frz { cls := .type "list", data := .seq vs.toArray } (.lst (ns.map V.int))) else none) (fun b => ?_) (.inl (.inr ⟨{ cls := .type "list", data := .seq vs.toArray }, if_pos rfl⟩)) (fun b u z => ?_) (fun b z => ?_) fun _ => hk
    · by_cases hb : b = a
      · exact .inr ⟨_, _, if_pos hb⟩
      · exact .inl (if_neg hb)
    · by_cases hb : b = a
      · have z' := (if_pos hb).symm.trans z
        cases z'
        subst hb
        exact ⟨ha, by rw [List.length_map]; exact hl, vs, _, rv, ha⟩
      · have z' := (if_neg hb).symm.trans z
        cases z'
    · by_cases hb : b = a
      · exact hb
      · exact absurd (if_neg hb) z
end L2

namespace L2
open PySem PySem.Spec PyProof.Rows

/-- the goal that k_head leaves (case hc), from the law's promise. F gives the function object fd (K's own) once, then the promise over every base -/
theorem walk_of {l : PySem.W.OpenLaw} {n k : Nat} {q : Program} {loose : List Str} {XP : (Str → Option Value) → Heap → Prop} {YP : World → Heap → Prop} {d : DefRec} {K : Params → PySem.W.Frag} {CX : World → CXT} {sp : World → Sp} {x : Str}
    (hn : l.most = some n) (hn2 : n ≤ sizeLine) (hdf : d.params.defaults = []) (hr : Room k callerA)
    (hY : ∀ (w : World) (h : Heap), YP w h → (K w.params).In h)
    (F : ∀ (w : World) (mg : Str → Option Value) (fa : Addr) (h : Heap), (K w.params).In h → h.Ns mainGlobals mg → mg d.name = some (.ref fa) →
      ∃ fd : FuncData, (∀ (s : Shared) (u : Value), BindsTo s fd ⟨[u], []⟩ [(x, u)]) ∧
        ∀ base : Heap, (K w.params).In base → base.Ns mainGlobals mg → FnOk l.prog w (K w.params) mg base (CX w) k fa fd [x] (sp w))
    (hsp : ∀ (w : World) (H : Hp) (a : Addr) (ns : List Int), ns.length ≤ n → Only H → SqL (K w.params) H a (ns.map V.int) → sp w [.ref a] H (fun v _ => v = .bl true) fun _ _ _ => False)
    (hCX : ∀ (w : World) (H : Hp) (s : Shared) (e : Value) (s' : Shared), CX w [] H s (fun _ _ _ => False) e s' → False) :
    PySem.W.WalkO q loose XP YP l.row.toRowW d [] (fun f vs => PySem.call f vs) := by
  refine Att.attach_call hn hdf fun w s₀ s₁ mg mb fa o pm cd doc a vs ns G Y ho hd hcd hmg hobj hints hlen hg => ?_
  have KX := hY w _ Y
  obtain ⟨fd, hb, hF⟩ := F w mg fa _ KX G.T.g hmg
  exact law_call KX G.T.g G.T.b G.T.builtins G.T.nolimit hg hobj hints (Nat.le_trans hlen hn2) hr hF hb (fun H hO hS => hsp w H a ns hlen hO hS) fun H e s' => hCX w H s₁ e s'
end L2


/-! SHORT WORDS over the layer: a def of the text, its body, what a loop and a test want. -/
namespace L2
open PySem PySem.Spec PyProof.Rows

/-! ### the text by places -/
/-- the j-th statement of a class's body -/
def inClass (s : Stmt) (j : Nat) : Stmt := match s with
  | .ClassDef _ _ _ body _ _ _ _ _ _ _ => body.getD j (.Pass ⟨0, 0, 0, 0⟩)
  | _ => .Pass ⟨0, 0, 0, 0⟩
def defArgs (s : Stmt) : Arguments := match s with
  | .FunctionDef _ a _ _ _ _ _ _ _ _ => a
  | _ => { posonlyargs := [], args := [], vararg := none, kwonlyargs := [], kw_defaults := [], kwarg := none, defaults := [] }
def defBody (s : Stmt) : List Stmt := match s with
  | .FunctionDef _ _ b _ _ _ _ _ _ _ => b
  | _ => []
def defScope (s : Stmt) : Scope := match s with
  | .FunctionDef _ _ _ _ _ _ sc _ _ _ => sc
  | _ => { kind := .function, names := [], isGenerator := false, isCoroutine := false }

/-! ### no exception leaves a def -/
abbrev CX0 : CXT := fun _ _ _ _ _ _ => False
abbrev E0 : XK := fun _ _ _ => False
theorem pass0 {X : Cx} : Passes CX0 X E0 := fun _ _ _ _ _ _ _ h => h.elim

/-! ### a def (or method) of the text as it stands behind the top -/
structure Fun (K : PySem.W.Frag) (x qual : Str) (st : Stmt) (f : Addr) (fd : FuncData) : Prop where
  ex : ∃ (oc : Value) (od : Option Addr) (kV doc pm : Value) (an : Option Addr) (cdv ct : Value) (osl : Array (Option Value)),
    fd = PySem.W.fnOf x qual (defArgs st) (defBody st) (defScope st) .none kV doc pm an cdv ct ∧ K.lookup f = some ⟨oc, od, .func fd, osl⟩ ∧ PySem.W.codeIn K cdv qual = true
  kp : PySem.W.keepIn K (.ref f) = true
section
variable {P : Program} {w : World} {K : PySem.W.Frag} {mg : Str → Option Value} {base : Heap}
/-- THE RULE for a def: its body as a term of rules, and the reading of that term -/
theorem Fun.ok {x qual : Str} {st : Stmt} {f : Addr} {fd : FuncData} {N ps : List Str} {k : Nat} {sp : Sp} (F : Fun K x qual st f fd) (S : FnScope N ps (defScope st)) (len : ∀ vs H Q E, sp vs H Q E → vs.length = ps.length)
    (hbody : ∀ (cdv : Value) (A : Around) (outer : List Env) (s : Shared) (H : Hp) (vs : List V) (Q : VK) (E : XK), Room k (A.deeper (envOfC qual (defScope st) s.heap.objs.size f cdv)) → sp vs H Q E →
      ∃ t, PSs (cxOf CX0 P w K mg base N qual (defScope st) f cdv A outer s H E).nox (defBody st) t ∧ t { nx := fun _ H' => Q .non H', rt := Q } (start N vs) H) : FnOk P w K mg base CX0 (k + 1) f fd ps sp := by
  obtain ⟨oc, od, kV, doc, pm, an, cdv, ct, osl, rfl, lk, hcd⟩ := F.ex
  refine fn_of lk hcd S len fun A outer s H vs Q E hr hsp => ?_
  obtain ⟨t, h, q⟩ := hbody cdv A outer s H vs Q E hr hsp
  exact ⟨t, h.nox, q⟩
/-- how its arguments bind (no defaults): h is «fun _ _ _ _ _ _ us hl => match us, hl with | [_, _], _ => rfl», one _ a parameter -/
theorem Fun.binds {x qual : Str} {st : Stmt} {f : Addr} {fd : FuncData} {ps : List Str} (F : Fun K x qual st f fd)
    (h : ∀ (kV doc pm : Value) (an : Option Addr) (cdv ct : Value) (us : List Value), us.length = ps.length → bindArgs (PySem.W.fnOf x qual (defArgs st) (defBody st) (defScope st) .none kV doc pm an cdv ct) ⟨us, []⟩ = pure (ps.zip us)) : Binds K fd ps [] := by
  obtain ⟨oc, od, kV, doc, pm, an, cdv, ct, osl, rfl, lk, hcd⟩ := F.ex
  exact .all (h kV doc pm an cdv ct)
theorem fun_mk {x qual : Str} {st : Stmt} {f : Addr} {oc : Value} {od an : Option Addr} {osl : Array (Option Value)} {kV doc pm cdv ct : Value} (l : K.lookup f = some ⟨oc, od, .func (PySem.W.fnOf x qual (defArgs st) (defBody st) (defScope st) .none kV doc pm an cdv ct), osl⟩)
    (c : PySem.W.codeIn K cdv qual = true) (k : PySem.W.keepIn K (.ref f) = true) : Fun K x qual st f (PySem.W.fnOf x qual (defArgs st) (defBody st) (defScope st) .none kV doc pm an cdv ct) := ⟨⟨oc, od, kV, doc, pm, an, cdv, ct, osl, rfl, l, c⟩, k⟩
end
theorem small1000 {n : Nat} (h : n ≤ 1000) : n < sizeLine := Nat.lt_of_le_of_lt h (by decide)

/-! ### expressions in short: the name that stands in the i-th slot -/
section
variable {X : Cx}
theorem pv (i : Nat) {x : Str} {pos : Pos} (hN : X.N[i]? = some x := by rfl) (hv : Vis X.env.scope x := by first | exact Or.inl rfl | exact Or.inr (Or.inl rfl) | exact Or.inr (Or.inr rfl)) (hd : (x == ("__debug__" : Str)) = false := by decide)
    (hcd : (x == ("__classdict__" : Str)) = false := by decide) : PE X (.Name x pos) (tVar i) := pe_var hN hv hd hcd
end

/-! ### tests -/
theorem iteF {A B : Prop} (h : B) : if false = true then A else B := by
  rw [if_neg Bool.false_ne_true]
  exact h
theorem iteT {A B : Prop} (h : A) : if true = true then A else B := by
  rw [if_pos rfl]
  exact h
theorem ite2 {c A B : Prop} [Decidable c] (h1 : c → A) (h2 : ¬ c → B) : if c then A else B := by
  by_cases h : c
  · rw [if_pos h]
    exact h1 h
  · rw [if_neg h]
    exact h2 h
/-! ### heaps -/
/-- all that was tracked is as it was -/
def Same (H H' : Hp) : Prop := ∀ b o, H b = some o → H' b = some o
theorem Same.refl (H : Hp) : Same H H := fun _ _ h => h
theorem Same.trans {H H1 H2 : Hp} (a : Same H H1) (b : Same H1 H2) : Same H H2 := fun c o h => b c o (a c o h)
theorem Same.free {H H' : Hp} (e : Same H H') {l : Addr} (h : H' l = Option.none) : H l = Option.none := by
  cases q : H l with
  | none => rfl
  | some o =>
    rw [e l o q] at h
    cases h
theorem Same.seq {K : PySem.W.Frag} {H H' : Hp} {a : Addr} {xs : List V} (e : Same H H') (h : SqL K H a xs) : SqL K H' a xs := by
  rcases h with (h | ⟨o, h⟩) | h
  · exact .inl (.inl (e _ _ h))
  · exact .inl (.inr ⟨o, e _ _ h⟩)
  · exact .inr h

end L2

namespace L2
open PySem PySem.Spec PyProof.Rows
section
variable {X : Cx}
end
/-! ### a dict's pairs: keys that differ -/
section
variable {κ : Type} [DecidableEq κ]
end
end L2

set_option Elab.async false
set_option linter.all false
set_option maxRecDepth 100000
set_option maxHeartbeats 4000000
namespace L2
open PySem PySem.Spec PyProof.Rows

/-! ### a comprehension's block -/
/-- the cells that a block takes along -/
def clB (env : Env) (fr : List Str) : List (Str × Addr) := fr.map fun n => (n, (env.cells.lookup n).getD 0)
theorem clB_look {env : Env} : ∀ {fr : List Str} {x : Str} {c : Addr}, (clB env fr).lookup x = some c → x ∈ fr ∧ c = (env.cells.lookup x).getD 0
  | [], x, c, h => by simp [clB] at h
  | n :: r, x, c, h => by
    have h' : List.lookup x ((n, (env.cells.lookup n).getD 0) :: clB env r) = some c := h
    rw [List.lookup_cons] at h'
    cases e : x == n with
    | true =>
      rw [e] at h'
      have e' : x = n := by simpa using e
      subst e'
      exact ⟨List.mem_cons_self, (Option.some.inj h').symm⟩
    | false =>
      rw [e] at h'
      obtain ⟨h1, h2⟩ := clB_look h'
      exact ⟨List.mem_cons_of_mem _ h1, h2⟩
theorem clB_in {env : Env} : ∀ {fr : List Str} {x : Str}, x ∈ fr → (clB env fr).lookup x = some ((env.cells.lookup x).getD 0)
  | n :: r, x, h => by
    show List.lookup x ((n, (env.cells.lookup n).getD 0) :: clB env r) = _
    rw [List.lookup_cons]
    cases e : x == n with
    | true =>
      have e' : x = n := by simpa using e
      subst e'
      rfl
    | false =>
      rcases List.mem_cons.mp h with z | z
      · subst z; simp at e
      · exact clB_in z
/-- the names of the block as it runs -/
theorem relabel_mem {env : Env} : ∀ {names : List (Str × NameKind)} {x : Str} {k : NameKind},
    (names.map fun (n, k) => if (k == NameKind.free && env.scope.kind == .function && env.kindOf n == some .cell) then (n, NameKind.cell) else (n, k)).lookup x = some k →
    ∃ k0, (x, k0) ∈ names ∧ (k = k0 ∨ (k0 = .free ∧ k = .cell))
  | [], _, _, h => by simp at h
  | (n, k0) :: r, x, k, h => by
    have h' : List.lookup x ((if (k0 == NameKind.free && env.scope.kind == .function && env.kindOf n == some .cell) = true then (n, NameKind.cell) else (n, k0)) ::
      (r.map fun (n, k) => if (k == NameKind.free && env.scope.kind == .function && env.kindOf n == some .cell) then (n, NameKind.cell) else (n, k))) = some k := h
    by_cases hc : (k0 == NameKind.free && env.scope.kind == .function && env.kindOf n == some .cell) = true
    · rw [if_pos hc, List.lookup_cons] at h'
      cases e : x == n with
      | true =>
        rw [e] at h'
        have e' : x = n := by simpa using e
        subst e'
        simp only [Bool.and_eq_true] at hc
        exact ⟨k0, List.mem_cons_self, .inr ⟨by simpa using hc.1.1, (Option.some.inj h').symm⟩⟩
      | false =>
        rw [e] at h'
        obtain ⟨k1, h1, h2⟩ := relabel_mem h'
        exact ⟨k1, List.mem_cons_of_mem _ h1, h2⟩
    · rw [if_neg hc, List.lookup_cons] at h'
      cases e : x == n with
      | true =>
        rw [e] at h'
        have e' : x = n := by simpa using e
        subst e'
        exact ⟨k0, List.mem_cons_self, .inl (Option.some.inj h').symm⟩
      | false =>
        rw [e] at h'
        obtain ⟨k1, h1, h2⟩ := relabel_mem h'
        exact ⟨k1, List.mem_cons_of_mem _ h1, h2⟩
theorem relabel_free {env : Env} (hk : env.scope.kind = .function) : ∀ {names : List (Str × NameKind)} {x : Str}, names.lookup x = some .free → env.kindOf x = some .cell →
    (names.map fun (n, k) => if (k == NameKind.free && env.scope.kind == .function && env.kindOf n == some .cell) then (n, NameKind.cell) else (n, k)).lookup x = some .cell
  | [], _, h, _ => by simp at h
  | (n, k0) :: r, x, h, hx => by
    show List.lookup x ((if (k0 == NameKind.free && env.scope.kind == .function && env.kindOf n == some .cell) = true then (n, NameKind.cell) else (n, k0)) ::
      (r.map fun (n, k) => if (k == NameKind.free && env.scope.kind == .function && env.kindOf n == some .cell) then (n, NameKind.cell) else (n, k))) = some .cell
    rw [List.lookup_cons] at h
    cases e : x == n with
    | true =>
      rw [e] at h
      have e' : x = n := by simpa using e
      subst e'
      have h0 : k0 = .free := Option.some.inj h
      subst h0
      rw [if_pos (by rw [hk, hx]; decide), List.lookup_cons]
      simp
    | false =>
      rw [e] at h
      have ih := relabel_free hk h hx
      split
      · rw [List.lookup_cons, e]; exact ih
      · rw [List.lookup_cons, e]; exact ih

/-- the block's context: entered at s (the iterator and the list stand), its frame at C -/
abbrev compCx (X : Cx) (pins : List (Addr × Obj)) (sc : Scope) (fr Nc : List Str) (fp : List Addr) (s : Shared) (H : Hp) (C : Addr) : Cx :=
  { prog := X.prog, w := X.w, K := X.K, mg := X.mg, base := X.base, A := X.A, N := Nc, s₀ := s, H₀ := H, env := compEnvC sc (clB X.env fr) C X.env,
    outer := X.stack, stack := X.stack, ex := fp, fn := fun _ => false, calm := X.calm, pn := X.pn ++ pins, xe := fun _ _ => False }
/-- what is asked of the block's names -/
structure BlockOk (env : Env) (sc : Scope) (fr : List Str) : Prop where
  kind : sc.kind = .function
  clos : closureFor sc env = pure (clB env fr)
  cells : (fr.all fun n => (env.cells.lookup n).isSome) = true
  names : (sc.names.all fun y => (y.2 != .cell) && (y.2 != .free || fr.contains y.1) && (y.2 != .local || sc.names.lookup y.1 == some .local)) = true
/-- which of the block's names are the def's, at which slot -/
def capChk (N Nc : List Str) (caps : List (Option Nat)) (env : Env) (sc : Scope) (fr : List Str) : Bool :=
  (Nc.zip caps).all fun p => match p.2 with
    | none => true
    | some j => (N[j]? == some p.1) && (env.kindOf p.1 == some .cell) && (sc.names.lookup p.1 == some .free) && fr.contains p.1
def capS (caps : List (Option Nat)) (σ : St) : St := caps.map fun o => match o with
  | none => none
  | some j => (σ[j]?).join
section
variable {X : Cx} {pins : List (Addr × Obj)} {σ : St} {H : Hp} {s : Shared} {sc : Scope} {fr Nc : List Str} {fp : List Addr} {C : Addr}
theorem BlockOk.sub {env : Env} (B : BlockOk env sc fr) {x : Str} {c : Addr} (h : (clB env fr).lookup x = some c) : env.cells.lookup x = some c := by
  obtain ⟨h1, h2⟩ := clB_look h
  have h3 := List.all_eq_true.mp B.cells x h1
  obtain ⟨d, hd⟩ := Option.isSome_iff_exists.mp h3
  rw [hd] at h2 ⊢
  rw [h2]; rfl
theorem BlockOk.free {env : Env} (B : BlockOk env sc fr) {x : Str} {k : NameKind} (h : (relabel sc env).names.lookup x = some k) (hk : k = .cell ∨ k = .free) : x ∈ fr := by
  obtain ⟨k0, h1, h2⟩ := relabel_mem h
  have h3 := List.all_eq_true.mp B.names _ h1
  simp only [Bool.and_eq_true, Bool.or_eq_true, bne_iff_ne, ne_eq, List.contains_iff_mem] at h3
  have h4 : k0 = .free := by
    rcases h2 with h2 | ⟨h2, _⟩
    · subst h2
      rcases hk with z | z
      · exact absurd z h3.1.1
      · exact z
    · exact h2
  rcases h3.1.2 with z | z
  · exact absurd h4 z
  · exact z
theorem comp_ok (I : Inv X pins σ H s) (B : BlockOk X.env sc fr) (hf : ∀ b ∈ fp, FpOk X pins H b) (ho : ∀ b ∈ fp, ∃ o, s.heap.get? b = some o) (hC : s.heap.objs.size ≤ C) : (compCx X pins sc fr Nc fp s H C).Ok where
  mod := I.ok.mod
  kind := B.kind
  glob := I.ok.glob
  blt := I.ok.blt
  above := hC
  inj := fun x y c h1 h2 => I.ok.inj x y c (B.sub h1) (B.sub h2)
  has := fun x h => by
    have hx : x ∈ fr := by
      rcases h with h | h
      · exact B.free h (.inl rfl)
      · exact B.free h (.inr rfl)
    exact ⟨_, clB_in hx⟩
  cab := fun x c h => absurd h (by simp)
  hd := I.ok.hd
  frames := I.ok.frames
  stk := .inl rfl
  exf := fun b hb => by
    obtain ⟨o, e⟩ := ho b hb
    refine ⟨fun z => ?_, fun x c h => (hf b hb).2.2.2.2.1 x c (B.sub h)⟩
    have z' : b = C := z
    have := Heap.lt_size e
    rw [z'] at this
    exact absurd (Nat.lt_of_lt_of_le this hC) (Nat.lt_irrefl _)
  bs := I.bs
  bsz := Nat.le_trans I.ok.bsz I.sz
  noex := fun b o e hb => by
    rcases (hf b hb).2.2.2.1 with z | z
    · exact I.ok.noex b o e z
    · exact absurd (Nat.lt_of_lt_of_le (Heap.lt_size (I.ok.bs b o e).1) z) (Nat.lt_irrefl _)
  exfs := fun b hb h => by
    rcases List.mem_cons.mp (I.stkSub b h) with z | z
    · exact (hf b hb).2.1 z
    · exact (hf b hb).2.2.1 z
  funs := I.stack
  frf := I.stkFree
theorem Inv.pin_lt (I : Inv X pins σ H s) {p : Addr × Obj} (hp : p ∈ X.pn ++ pins) : p.1 < s.heap.objs.size := Heap.lt_size (I.pin p hp).1
/-- the block at its entry: the list at D, the frame at C, both new -/
theorem comp_start {caps : List (Option Nat)} {h' : Heap} {D : Addr} {m : Str → Option Value} {t' n0 : Nat} (I : Inv X pins σ H s) (B : BlockOk X.env sc fr) (hf : ∀ b ∈ fp, FpOk X pins H b) (ho : ∀ b ∈ fp, ∃ o, s.heap.get? b = some o)
    (hC : s.heap.objs.size ≤ C) (hD : s.heap.objs.size ≤ D) (hDC : D ≠ C) (keep : ∀ b o, s.heap.get? b = some o → h'.get? b = some o) (hl : h'.get? D = some { cls := .type "list", data := .seq ([] : List Value).toArray n0 }) (hn : h'.Ns C m)
    (hcap : capChk X.N Nc caps X.env sc fr = true) (hlen : caps.length = Nc.length) :
    Inv (compCx X pins sc fr Nc fp s H C) [] (capS caps σ) (upd H D (.lst [])) { s with heap := h', toks := t' } := by
  have hk : X.env.scope.kind = .function := I.ok.kind
  have fresh : ∀ a, s.heap.objs.size ≤ a → H a = none := fun a ha => I.hok.fresh ha
  refine ⟨comp_ok I B hf ho hC, rfl, I.bare, Un.laid keep hD (fresh D hD), ⟨m, hn, fun i x v e1 e2 e3 => ?_⟩, fun x c h => ?_, ?_, fun x c h => ?_, fun p hp => ?_, ?_, ?_⟩
  · -- a captured name
    have e2' : (caps[i]?).map (fun o => match o with | none => none | some j => (σ[j]?).join) = some (some v) := by
      have : (capS caps σ)[i]? = some (some v) := e2
      unfold capS at this
      rw [List.getElem?_map] at this
      exact this
    cases hc : caps[i]? with
    | none => rw [hc] at e2'; cases e2'
    | some o =>
      rw [hc] at e2'
      cases o with
      | none => simp at e2'
      | some j =>
        have e4 : (σ[j]?).join = some v := by simpa using e2'
        have e5 : σ[j]? = some (some v) := by
          cases q : σ[j]? with
          | none => rw [q] at e4; cases e4
          | some w' => rw [q] at e4; simp at e4; rw [e4]
        have e6 : (Nc.zip caps)[i]? = some (x, some j) := by
          rw [List.getElem?_zip_eq_some]
          exact ⟨e1, hc⟩
        have e7 := List.all_eq_true.mp hcap _ (List.mem_of_getElem? e6)
        simp only [Bool.and_eq_true, beq_iff_eq, List.contains_iff_mem] at e7
        obtain ⟨⟨⟨a1, a2⟩, a3⟩, a4⟩ := e7
        obtain ⟨m0, hn0, hl0⟩ := I.loc
        obtain ⟨u, r, l⟩ := hl0 j x v a1 e5 (.inr (.inl a2))
        refine ⟨u, r, .inr ⟨.inl (relabel_free hk a3 a2), _, clB_in a4, ?_⟩⟩
        rcases l with ⟨z, _⟩ | ⟨_, c, ec, hcell⟩
        · rw [a2] at z; cases z
        · have : (X.env.cells.lookup x).getD 0 = c := by rw [ec]; rfl
          rw [this]
          exact hcell.keeps keep
  · obtain ⟨v, hv⟩ := I.cell x c (B.sub h)
    exact ⟨v, hv.keeps keep⟩
  · show upd H D (.lst []) C = none
    rw [upd_ne (Ne.symm hDC)]; exact fresh C hC
  · obtain ⟨v, hv⟩ := I.cell x c (B.sub h)
    have : c ≠ D := fun z => by have := hv.lt; rw [z] at this; exact absurd (Nat.lt_of_lt_of_le this hD) (Nat.lt_irrefl _)
    rw [upd_ne this]; exact I.freeC x c (B.sub h)
  · have hp' : p ∈ X.pn ++ pins := by simpa using hp
    obtain ⟨e, n, ne, nf, d⟩ := I.pin p hp'
    have hlt := I.pin_lt hp'
    refine ⟨keep _ _ e, ?_, ?_, fun z => ?_, d⟩
    · rw [upd_ne (fun z => by rw [z] at hlt; exact absurd (Nat.lt_of_lt_of_le hlt hD) (Nat.lt_irrefl _))]; exact n
    · intro z
      have z' : p.1 = C := z
      rw [z'] at hlt; exact absurd (Nat.lt_of_lt_of_le hlt hC) (Nat.lt_irrefl _)
    · rcases List.mem_cons.mp (I.stkSub p.1 z) with q | q
      · exact ne q
      · exact nf q
  · exact I.hok.laid keep hD ⟨Nat.zero_le _, [], n0, .nil, hl⟩
  · show (capS caps σ).length = Nc.length
    unfold capS
    rw [List.length_map, hlen]
/-- back in the def -/
theorem comp_back {pl : List (Addr × Obj)} {σ' : St} {H' : Hp} {s' : Shared} (I : Inv X pins σ H s) (hf : ∀ b ∈ fp, FpOk X pins H b) (J : Inv (compCx X pins sc fr Nc fp s H C) pl σ' H' s') : Inv X pins σ H' s' :=
  I.call' J.os J.base J.hok J.bare fun b hb => ⟨(hf b hb).2.2.2.1, (hf b hb).2.1, (hf b hb).2.2.2.2.1, (hf b hb).2.2.2.2.2⟩
/-- .. the block's frame let go -/
theorem comp_gone {pl : List (Addr × Obj)} {σ' σ2 : St} {H' : Hp} {s' : Shared} {h2 : Heap} {t2 : Nat} (I : Inv X pins σ H s) (J : Inv (compCx X pins sc fr Nc fp s H C) pl σ' H' s') (J2 : Inv X pins σ2 H' s') (hs : Heap.SameBut C s'.heap h2) : Inv X pins σ2 H' { s' with heap := h2, toks := t2 } := by
  have hC : s.heap.objs.size ≤ C := J.ok.above
  refine J2.turned (it := C) (fun b o hb e => (hs.2 b hb).trans e) J.free ?_ (.inr (Nat.le_trans I.sz hC)) (fun x c h z => ?_) fun p hp z => ?_
  · intro z
    have := I.lt
    rw [← z] at this
    exact absurd (Nat.lt_of_lt_of_le this hC) (Nat.lt_irrefl _)
  · obtain ⟨v, hv⟩ := I.cell x c h
    have := hv.lt
    rw [z] at this
    exact absurd (Nat.lt_of_lt_of_le this hC) (Nat.lt_irrefl _)
  · have := I.pin_lt hp
    rw [z] at this
    exact absurd (Nat.lt_of_lt_of_le this hC) (Nat.lt_irrefl _)
end
end L2

set_option Elab.async false
set_option linter.all false
set_option maxRecDepth 100000
set_option maxHeartbeats 4000000
namespace L2
open PySem PySem.Spec PyProof.Rows

/-! ### the tests of a clause -/
def tTrue : TT := fun _ H Q => Q true H
structure PIf (X : Cx) (ifs : List Expr) (t : TT) : Prop where
  run : ∀ (pins : List (Addr × Obj)) (s : Shared) (σ : St) (H : Hp) (Q : Bool → Hp → Prop), Inv X pins σ H s → t σ H Q →
    wpAny (model X.prog X.w) X.A (forIn ifs true fun c r => if r = true then do let ok ← isTrue c X.env (eval c X.env); pure (ForInStep.yield ok) else pure (ForInStep.yield r)) (TP X pins σ Q) X.xe s
instance {X : Cx} {ifs : List Expr} {t : TT} : CoeFun (PIf X ifs t) (fun _ => ∀ (pins : List (Addr × Obj)) (s : Shared) (σ : St) (H : Hp) (Q : Bool → Hp → Prop), Inv X pins σ H s → t σ H Q →
    wpAny (model X.prog X.w) X.A (forIn ifs true fun c r => if r = true then do let ok ← isTrue c X.env (eval c X.env); pure (ForInStep.yield ok) else pure (ForInStep.yield r)) (TP X pins σ Q) X.xe s) := ⟨PIf.run⟩

theorem pif_nil {X : Cx} : PIf X [] tTrue := ⟨fun _ _ _ H _ I h => wpAny_tests_nil ⟨H, I, h⟩⟩
theorem pif_one {X : Cx} {c : Expr} {t : TT} (hc : PT X c t) : PIf X [c] t := ⟨fun pins s σ H Q I h => wpAny_tests_one (hc pins s σ H Q I h)⟩

/-! ### targets that write their own slots alone -/
def GOwn (g : TG) (ow : List Nat) : Prop :=
  ∀ (v : V) (σ : St) (H : Hp) (Q : St → Hp → Prop), g v σ H Q → g v σ H fun σ2 H2 => Q σ2 H2 ∧ σ2.length = σ.length ∧ ∀ i, i ∉ ow → σ2[i]? = σ[i]?
theorem gown_name (i : Nat) : GOwn (gName i) [i] := fun v σ H Q h => ⟨h, List.length_set .., fun j hj => List.getElem?_set_ne (fun e => hj (by simp [e]))⟩
/-! ### the loop of a comprehension -/
section
variable {prog : Program} {w : World} {A : Around} {R : Result → Shared → Prop} {s : Shared}
theorem compLoop_any {elt target iter : Expr} {ifs : List Expr} {scope : Scope} {pos : Pos} {it acc : Value} {env : Env} (I : Nat → Shared → Prop)
    (turn : ∀ n s, I n s → wpAny (model prog w) A (pyNext it) (fun r s₁ => match r with
      | none => R (.ok .next) s₁
      | some v => wpAny (model prog w) A (letOwnedTupleGo target it v) (fun _ s₀ => wpAny (model prog w) A (assign target env v) (fun _ s₂ =>
          wpAny (model prog w) A (forIn ifs true fun c r => if r = true then do let ok ← isTrue c env (eval c env); pure (ForInStep.yield ok) else pure (ForInStep.yield r)) (fun ok s₃ =>
            if ok = true then wpAny (model prog w) A (eval elt env) (fun x s₄ =>
              wpAny (model prog w) A (call (.builtin "list.append") [acc, x]) (fun _ s₅ => ∃ m, m < n ∧ I m s₅) (fun _ _ => False) s₄) (fun _ _ => False) s₃
            else ∃ m, m < n ∧ I m s₃) (fun _ _ => False) s₂) (fun _ _ => False) s₀) (fun _ _ => False) s₁) (fun _ _ => False) s)
    (n : Nat) (h : I n s) :
    codeAny (model prog w) A (.compLoop (.ListComp elt [⟨target, iter, ifs, 0⟩] scope pos) 0 it acc env) R s := by
  refine codeAny_loop rfl I (fun n s hI => ?_) n h
  show wpAny _ A ((compTurn (.ListComp elt [⟨target, iter, ifs, 0⟩] scope pos) 0 it acc env).onRaise (fun x => do noteFrame x env; theTreesLotGoes x)) _ _ s
  refine wpAny_noted ?_
  rw [compTurn_list]
  refine wpAny_bind (wpAny_standAt (wpAny_bind (wpAny_mono (turn n s hI) (fun r s₁ h₁ => ?_) fun _ _ z => z.elim)))
  cases r with
  | none => exact wpAny_pure h₁
  | some v =>
    refine wpAny_bind (wpAny_mono h₁ (fun _ s₀ h₀ => ?_) fun _ _ z => z.elim)
    refine wpAny_bind (wpAny_mono h₀ (fun _ s₂ h₂ => wpAny_bind (wpAny_mono h₂ (fun ok s₃ h₃ => ?_) fun _ _ z => z.elim)) fun _ _ z => z.elim)
    cases ok with
    | false => exact wpAny_pure ⟨rfl, h₃⟩
    | true =>
      exact wpAny_bind (wpAny_bind (wpAny_mono h₃ (fun x s₄ h₄ => wpAny_bind (wpAny_mono h₄ (fun _ s₅ h₅ => wpAny_pure (wpAny_pure ⟨rfl, h₅⟩)) fun _ _ z => z.elim)) fun _ _ z => z.elim))
end

/-! ### a list comprehension of one clause -/
/-- what is asked of a block that makes the list at D -/
def LCr (J : It) (caps : List (Option Nat)) (g : TG) (tt : TT) (te : TE) (σ : St) (H1 : Hp) (Q : VK) (D : Addr) : Prop :=
  ∃ W : Nat → Nat → List V → Hp → Prop, (∃ m, W 0 m [] (upd H1 D (.lst []))) ∧ ∀ i m ys H, W i m ys H →
    (J.stop i H ∧ Q (.ref D) H) ∨
    (J.go i H ∧ ∀ x H', J.yld i H x H' → g x (capS caps σ) H' fun σ2 H2 => tt σ2 H2 fun ok H3 =>
      (ok = true → te σ2 H3 fun v H4 => H4 D = some (.lst ys) ∧ ys.length < sizeLine ∧ ∃ m', m' < m ∧ W (i + 1) m' (ys ++ [v]) (upd H4 D (.lst (ys ++ [v])))) ∧
      (ok = false → ∃ m', m' < m ∧ W (i + 1) m' ys H3))
def tLC (wi : TI) (caps : List (Option Nat)) (g : TG) (tt : TT) (te : TE) : TE := fun σ H Q => wi σ H fun J H1 => ∀ D, H1 D = none → LCr J caps g tt te σ H1 Q D
section
variable {X : Cx} {pins : List (Addr × Obj)} {σ : St} {s : Shared} {sc : Scope} {fr Nc : List Str} {caps : List (Option Nat)} {elt tg iter : Expr} {ifs : List Expr} {g : TG} {tt : TT} {te : TE} {ow : List Nat} {pos pos2 : Pos} {E : Value → Shared → Prop}
theorem comp_run {H2 : Hp} {it : Addr} {fp : List Addr} {tn : Nat → Heap → Prop} {J : It} {Q : VK} {RR : Value → Addr → Result → Shared → Prop}
    (hc : X.calm = true) (B : BlockOk X.env sc fr) (go : GOwn g ow) (how : (ow.all fun i => caps[i]? == some none) = true) (hcap : capChk X.N Nc caps X.env sc fr = true) (hlen : caps.length = Nc.length)
    (hb : ∀ (pins : List (Addr × Obj)) (fp : List Addr) (s : Shared) (H : Hp) (C : Addr), PG (compCx X pins sc fr Nc fp s H C) tg g ∧ PIf (compCx X pins sc fr Nc fp s H C) ifs tt ∧ PE (compCx X pins sc fr Nc fp s H C) elt te)
    (I2 : Inv X pins σ H2 s) (T : Turn X.prog X.w X.K tg J fp it tn) (st2 : tn 0 s.heap) (f2 : ∀ b ∈ fp, FpOk X pins H2 b) (h : ∀ D, H2 D = none → LCr J caps g tt te σ H2 Q D)
    (fin : ∀ (D C : Addr) (σ' : St) (H' : Hp) (s' : Shared), Inv (compCx X pins sc fr Nc fp s H2 C) [] σ' H' s' → Q (.ref D) H' → RR (.ref D) C (.ok .next) s') :
    wpAny (model X.prog X.w) X.A (newList []) (fun acc s₃ => wpAny (model X.prog X.w) X.A (newFunctionEnv sc X.env.globals (clB X.env fr) [] X.env.qual none .none (some X.env)) (fun cenv s₄ =>
      codeAny (model X.prog X.w) X.A (.compStart (.ListComp elt [⟨tg, iter, ifs, 0⟩] sc pos) 0 (.ref it) acc { cenv with scope := relabel sc X.env }) (RR acc cenv.locals) s₄) E s₃) E s := by
  have hcell : ∀ y ∈ sc.names, y.2 ≠ .cell := fun y hy => by
    have h3 := List.all_eq_true.mp B.names _ hy
    simp only [Bool.and_eq_true, bne_iff_ne, ne_eq] at h3
    exact h3.1.1
  refine wpAny_newObj_type (wpAny_newFunctionEnv hcell (by intro y hy; simp at hy) (fun h₁ hns₁ hsb₁ => ?_) B.kind)
  dsimp only at hns₁ hsb₁ ⊢
  generalize hH2 : s.heap.push { cls := .type "list", dict := none, data := .seq ([] : List Value).toArray } = H3 at hns₁ hsb₁ ⊢
  have hCs : H3.objs.size = s.heap.objs.size + 1 := by rw [← hH2, Heap.size_push]
  have hDC : s.heap.objs.size ≠ H3.objs.size := by rw [hCs]; exact Nat.ne_of_lt (Nat.lt_succ_self _)
  have hC : s.heap.objs.size ≤ H3.objs.size := by rw [hCs]; exact Nat.le_succ _
  have old : ∀ b o, s.heap.get? b = some o → h₁.get? b = some o := fun b o e =>
    hsb₁.extBut b o (Nat.ne_of_lt (Nat.lt_of_lt_of_le (Heap.lt_size e) hC)) (Heap.get?_push_of_some _ (hH2 ▸ Heap.get?_push_of_some _ e))
  have hD : h₁.get? s.heap.objs.size = some { cls := .type "list", data := .seq ([] : List Value).toArray } := hsb₁.extBut _ _ hDC (Heap.get?_push_of_some _ (hH2 ▸ Heap.get?_push_size _ rfl))
  have ho : ∀ b ∈ fp, ∃ o, s.heap.get? b = some o := fun b hb' => let ⟨o, e, _⟩ := T.obj 0 _ st2 b hb'; ⟨o, e⟩
  have I4 : ∀ t', Inv (compCx X pins sc fr Nc fp s H2 H3.objs.size) [] (capS caps σ) (upd H2 s.heap.objs.size (.lst [])) { s with heap := h₁, toks := t' } := fun t' =>
    comp_start I2 B f2 ho hC (Nat.le_refl _) hDC old hD hns₁ hcap hlen
  have ok := (I4 0).ok
  obtain ⟨hbg, hbt, hbe⟩ := hb pins fp s H2 H3.objs.size
  obtain ⟨W, ⟨m0, w0⟩, turn⟩ := h s.heap.objs.size (I2.hok.fresh (Nat.le_refl _))
  have stat : ∀ {H' : Hp}, (∀ b ∈ fp, H' b = none) → ∀ b ∈ fp, FpOk (compCx X pins sc fr Nc fp s H2 H3.objs.size) [] H' b := fun hn b hb' =>
    ⟨hn b hb', (ok.exf b hb').1, ok.exfs b hb', .inl hb', (ok.exf b hb').2, fun p hp => (f2 b hb').2.2.2.2.2 p (by simpa using hp)⟩
  have hfp0 : ∀ b ∈ fp, upd H2 s.heap.objs.size (.lst []) b = none := fun b hb' => by
    obtain ⟨o, e⟩ := ho b hb'
    rw [upd_ne (Nat.ne_of_lt (Heap.lt_size e))]
    exact (f2 b hb').1
  have loop : ∀ s₃ : Shared, s₃ = { s with heap := h₁, toks := s.toks + ([] : List (Str × Value)).length } →
      codeAny (model X.prog X.w) X.A (.compLoop (.ListComp elt [⟨tg, iter, ifs, 0⟩] sc pos) 0 (.ref it) (.ref s.heap.objs.size) (compEnvC sc (clB X.env fr) H3.objs.size X.env)) (RR (.ref s.heap.objs.size) H3.objs.size) s₃ := by
    rintro s₃ rfl
    refine compLoop_any (fun n s' => ∃ i σ' H' ys, Inv (compCx X pins sc fr Nc fp s H2 H3.objs.size) [] σ' H' s' ∧ tn i s'.heap ∧ (∀ b ∈ fp, H' b = none) ∧ W i n ys H' ∧
      (∀ (k : Nat) (v : V), (capS caps σ)[k]? = some (some v) → σ'[k]? = some (some v))) ?_ m0
      ⟨0, _, _, [], I4 _, T.keep _ _ _ st2 (fun b _ o e => old b o e), hfp0, w0, fun _ _ e => e⟩
    rintro n s3 ⟨i, σ3, H4, ys, I3, st3, fr3, w3, wk3⟩
    have I3' : Inv (compCx X pins sc fr Nc fp s H2 H3.objs.size) [] (capS caps σ) H4 s3 := I3.weak (by rw [I3.len]; exact (I4 0).len) wk3
    rcases turn i n ys H4 w3 with ⟨stop, qn⟩ | ⟨gg, step⟩
    · refine thn (T.done (compCx X pins sc fr Nc fp s H2 H3.objs.size) rfl rfl rfl hc i [] s3 _ H4 (fun _ _ => False) I3' (stat fr3) st3 stop) fun r s4 ⟨hr, I4'⟩ => ?_
      subst hr
      exact fin _ _ _ _ _ I4' qn
    · refine thn (T.item (compCx X pins sc fr Nc fp s H2 H3.objs.size) rfl rfl rfl hc i [] s3 _ H4 (fun _ _ => False) I3' (stat fr3) st3 gg) fun r s4 ⟨u, hr, h4⟩ => ?_
      subst hr
      refine thn h4 fun _ s5 ⟨x, H5, I5, r5, y5, st5, fr5⟩ => ?_
      have I5' := I5.pinned (stat fr5) (T.obj _ _ st5)
      refine thn (hbg _ s5 _ H5 x u _ I5' r5 (go _ _ _ _ (step x H5 y5))) fun _ s6 ⟨σ6, H6, I6, q6, l6, k6⟩ => ?_
      have wk6 : ∀ (k : Nat) (v : V), (capS caps σ)[k]? = some (some v) → σ6[k]? = some (some v) := fun k v e => by
        rw [k6 k fun hk => ?_]
        · exact e
        · have h1 := List.all_eq_true.mp how k hk
          have h2 : caps[k]? = some none := by simpa using h1
          unfold capS at e
          rw [List.getElem?_map, h2] at e
          cases e
      refine thn (hbt _ s6 σ6 H6 _ I6 q6) fun ok s7 ⟨H7, I7, q7⟩ => ?_
      have again : ∀ {H8 : Hp} {s8 : Shared} {ys' : List V}, Inv (compCx X pins sc fr Nc fp s H2 H3.objs.size) ([] ++ pinsAt fp s5.heap) σ6 H8 s8 → (∃ m', m' < n ∧ W (i + 1) m' ys' H8) →
          ∃ m, m < n ∧ ∃ i σ' H' ys, Inv (compCx X pins sc fr Nc fp s H2 H3.objs.size) [] σ' H' s8 ∧ tn i s8.heap ∧ (∀ b ∈ fp, H' b = none) ∧ W i m ys H' ∧ (∀ (k : Nat) (v : V), (capS caps σ)[k]? = some (some v) → σ'[k]? = some (some v)) := fun {H8 s8 ys'} I8 ⟨m', hm, w8⟩ => by
        refine ⟨m', hm, i + 1, σ6, H8, ys', I8.unpinned, T.keep _ _ _ st5 fun b hb' o e => (I8.pin (b, o) (List.mem_append_right _ (List.mem_append_right _ (mem_pinsAt hb' e)))).1, fun b hb' => ?_, w8, wk6⟩
        obtain ⟨o, e, d⟩ := T.obj _ _ st5 b hb'
        exact (I8.pin (b, o) (List.mem_append_right _ (List.mem_append_right _ (mem_pinsAt hb' e)))).2.1
      cases ok with
      | false =>
        rw [if_neg Bool.false_ne_true]
        exact again I7 (q7.2 rfl)
      | true =>
        rw [if_pos rfl]
        refine thn (hbe _ s7 σ6 H7 _ I7 (q7.1 rfl)) fun uv s8 ⟨v, H8, I8, r8, hD8, hz, q8⟩ => ?_
        refine thn (mt_append (X := compCx X pins sc fr Nc fp s H2 H3.objs.size) _ s8 σ6 H8 (.ref s.heap.objs.size) [v] _ [uv] (fun _ H' => H' = upd H8 s.heap.objs.size (.lst (ys ++ [v]))) I8 rfl (.cons r8 .nil) ⟨_, ys, v, rfl, rfl, hD8, hz, rfl⟩) fun _ s9 ⟨_, H9, I9, _, e9⟩ => ?_
        subst e9
        exact again I9 q8
  exact codeAny_compStart_list (loop _ rfl) (T.self _ 0 _ _ _ (T.keep _ _ _ st2 (fun b _ o e => old b o e)) (loop _ rfl))
theorem BlockOk.loc {env : Env} (B : BlockOk env sc fr) : ∀ x ∈ sc.names, x.2 = .local → sc.names.lookup x.1 = some .local := fun y hy e => by
  have h3 := List.all_eq_true.mp B.names _ hy
  simp only [Bool.and_eq_true, Bool.or_eq_true, bne_iff_ne, ne_eq, beq_iff_eq] at h3
  rcases h3.2 with z | z
  · exact absurd e z
  · exact z
theorem pe_lc {wi : TI} (fr Nc : List Str) (caps : List (Option Nat)) (hc : X.calm = true) (B : BlockOk X.env sc fr) (hi : PI X tg iter wi) (go : GOwn g ow) (how : (ow.all fun i => caps[i]? == some none) = true)
    (hcap : capChk X.N Nc caps X.env sc fr = true) (hlen : caps.length = Nc.length)
    (hb : ∀ (pins : List (Addr × Obj)) (fp : List Addr) (s : Shared) (H : Hp) (C : Addr), PG (compCx X pins sc fr Nc fp s H C) tg g ∧ PIf (compCx X pins sc fr Nc fp s H C) ifs tt ∧ PE (compCx X pins sc fr Nc fp s H C) elt te)
    (hs : ∀ x, foldedSetIterable iter X.env x = pure x := by intro _; rfl) : PE X (.ListComp elt [⟨tg, iter, ifs, 0⟩] sc pos) (tLC wi caps g tt te) := by
  refine ⟨?_⟩
  intro pins s σ H Q I h
  rw [eval_ListComp]
  refine wpAny_comprehension_free (use := none) rfl hs B.clos B.kind B.loc (thn (hi pins s σ H _ I h) fun v s1 h1 => thn h1 fun itv s2 h2 => ?_)
  obtain ⟨it, fp, tn, J, H2, e, I2, T, st2, f2, q⟩ := h2
  subst e
  refine comp_run (RR := fun acc C => compPost (model X.prog X.w) X.A X.xe none (EP X pins σ Q) acc C) hc B go how hcap hlen hb I2 T st2 f2 q ?_
  intro D C σ' H' s' J' qq
  obtain ⟨m, hn, _⟩ := J'.loc
  exact ⟨m, hn, fun h' hs' => ⟨.ref D, H', comp_gone I2 J' (comp_back I2 f2 J') hs', rfl, qq⟩⟩
end
end L2

set_option Elab.async false
set_option linter.all false
set_option maxRecDepth 100000
set_option maxHeartbeats 4000000
namespace L2
open PySem PySem.Spec PyProof.Rows

/-! ### the signs of a text -/
def Its (z : Str) : It := ⟨fun i _ => i < z.cps.size, fun i H x H' => H' = H ∧ ∃ c, z.cps[i]? = some c ∧ x = .str ⟨#[c]⟩, fun i _ => z.cps.size ≤ i⟩
theorem turn_str {P : Program} {w : World} {K : PySem.W.Frag} {tg : Expr} (it : Addr) (z : Str) (t : Tok) : Turn P w K tg (Its z) [it] it (fun i h => h.IsStrIter it (strIterType z) z t i) where
  mem := by simp
  obj := fun i h st b hb => by
    have e : b = it := by simpa using hb
    subst e
    obtain ⟨o, e, _, d⟩ := st
    exact ⟨o, e, fun v q => by rw [d] at q; cases q⟩
  keep := fun i h h' st k => by
    obtain ⟨o, e, r⟩ := st
    exact ⟨o, k it (by simp) o e, r⟩
  item := by
    intro X hP hw hK hc i pins s σ H E I hf st hg
    subst hP hw hK
    obtain ⟨f0, f1, f2, f3, f4, f5⟩ := hf it (by simp)
    have hi : i < z.cps.size := hg
    have hx : z.cps[i]? = some z.cps[i] := by simp [hi]
    have fin : ∀ h', h'.IsStrIter it (strIterType z) z t (i + 1) → Heap.SameBut it s.heap h' →
        ∃ u, some (Value.str ⟨#[z.cps[i]]⟩ s.toks) = some u ∧ wpAny (model X.prog X.w) X.A (letOwnedTupleGo tg (.ref it) u) (fun _ s2 => ∃ x H', Inv X pins σ H' s2 ∧ RelV x u ∧ (Its z).yld i H x H' ∧ s2.heap.IsStrIter it (strIterType z) z t (i + 1) ∧ ∀ b ∈ [it], H' b = none) E { s with heap := h', toks := s.toks + 1 } := fun h' hit hs => by
      have I1 : Inv X pins σ H { s with heap := h', toks := s.toks + 1 } := I.turned (fun b o hb e => (hs.2 b hb).trans e) f0 f1 f3 f4 f5
      obtain ⟨o, e1, e2, e3⟩ := id hit
      refine ⟨_, rfl, go_of (s := { s with heap := h', toks := s.toks + 1 }) e1 e2 e3 ?_ ⟨.str ⟨#[z.cps[i]]⟩, H, I1, ⟨_, rfl⟩, ⟨rfl, _, hx, rfl⟩, hit, fun b hb => (hf b hb).1⟩⟩
      unfold strIterType
      split <;> decide
    cases ha : z.cps.all (· < 128)
    · have e : strIterType z = "str_iterator" := by simp [strIterType, ha]
      rw [e] at st
      exact wpAny_pyNext_wide_item st hx fun h' a b => fin h' (e.symm ▸ a) b
    · have e : strIterType z = "str_ascii_iterator" := by simp [strIterType, ha]
      rw [e] at st
      exact wpAny_pyNext_ascii_item st hx fun h' a b => fin h' (e.symm ▸ a) b
  done := by
    intro X hP hw hK hc i pins s σ H E I hf st hg
    subst hP hw hK
    obtain ⟨f0, f1, f2, f3, f4, f5⟩ := hf it (by simp)
    have hi : z.cps.size ≤ i := hg
    have hx : z.cps[i]? = none := by simp [hi]
    have fin : ∀ h', Heap.ExtBut it s.heap h' → (none : Option Value) = none ∧ Inv X pins σ H { s with heap := h' } := fun h' eb => ⟨rfl, I.turned (t' := s.toks) (fun b o hb e => eb b o hb e) f0 f1 f3 f4 f5⟩
    cases ha : z.cps.all (· < 128)
    · have e : strIterType z = "str_iterator" := by simp [strIterType, ha]
      rw [e] at st
      exact wpAny_pyNext_wide_end (I.ok.hd hc) st hx fin
    · have e : strIterType z = "str_ascii_iterator" := by simp [strIterType, ha]
      rw [e] at st
      exact wpAny_pyNext_ascii_end (I.ok.hd hc) st hx fin
  self := fun A i s Q E st h => by
    cases ha : z.cps.all (· < 128)
    · have e : strIterType z = "str_iterator" := by simp [strIterType, ha]
      rw [e] at st
      exact wpAny_pyIter_striter_wide st h
    · have e : strIterType z = "str_ascii_iterator" := by simp [strIterType, ha]
      rw [e] at st
      exact wpAny_pyIter_striter_ascii st h
section
variable {X : Cx} {tg : Expr}
def iStr (tl : TE) : TI := fun σ H R => tl σ H fun x H1 => ∃ z, x = .str z ∧ R (Its z) H1
theorem pi_str {l : Expr} {tl : TE} (hl : PE X l tl) : PI X tg l (iStr tl) := by
  refine ⟨?_⟩
  intro pins s σ H R I h
  refine thn (hl pins s σ H _ I h) fun v s1 ⟨x, H1, I1, r1, q1⟩ => ?_
  obtain ⟨z, e, q⟩ := q1
  subst e
  obtain ⟨t, rfl⟩ := r1
  refine wpAny_pyIter_strU ?_
  refine ⟨s1.heap.objs.size, [s1.heap.objs.size], _, _, H1, rfl, I1.kept (t' := s1.toks) fun b o e => Heap.get?_push_of_some _ e, turn_str _ z t, ⟨_, Heap.get?_push_size _ rfl, rfl, rfl⟩, fun b hb => ?_, q⟩
  have e : b = s1.heap.objs.size := by simpa using hb
  subst e
  exact I1.fpOk (Nat.le_refl _) (I1.hok.fresh (Nat.le_refl _))

/-! ### t[lo:hi] of a text -/
/-! ### all(xs), a list of bools -/
theorem call_allB (hc : X.calm = true) : CallR X (.builtin "all") (fun xs H Q => ∃ (p : Addr) (bs : List Bool), xs = [.ref p] ∧ SqL X.K H p (bs.map V.bl) ∧ Q (.bl (bs.all id)) H) := by
  intro pins s σ H xs us Q I r h
  obtain ⟨p, bs, rfl, hS, q⟩ := h
  obtain ⟨u, rfl, ru⟩ := vals1 r
  cases ru
  obtain ⟨its, rv, hp, hz⟩ := I.list hS
  have hlen : its.length = bs.length := by rw [← rv.length, List.length_map]
  have hne : p ≠ s.heap.objs.size := Nat.ne_of_lt (by obtain ⟨_, e, _⟩ := hp.isList; exact Heap.lt_size e)
  refine call_all_walk (wpAny_pyIter_list hp.isList ?_)
  refine ⟨s.heap.objs.size, _, _, _, _, _, fun i => bs.getD i false, rfl, Walks.list (A := X.A.in1) (I.ok.hd hc) s.heap.objs.size p hne its.toArray, ⟨⟨_, Heap.get?_push_size _ rfl, rfl, rfl⟩, hp.isList.push _⟩, ?_, fun h' tk k => ?_⟩
  · intro i v s' Q' E' hP hQ
    have hv : its[i]? = some v := by simpa using hP
    have hi : i < bs.length := by rw [← hlen]; exact (List.getElem?_eq_some_iff.mp hv).1
    obtain ⟨u', e1, e2⟩ := rv.get (i := i) (x := V.bl bs[i]) (by rw [List.getElem?_map, List.getElem?_eq_getElem hi]; rfl)
    rw [hv] at e1
    cases e1
    cases e2
    refine wpAny_truthy_bool ?_
    have : bs.getD i false = bs[i] := by rw [List.getD_eq_getElem?_getD, List.getElem?_eq_getElem hi]; rfl
    rw [← this]
    exact hQ
  · have e : ((List.range its.toArray.size).all fun i => bs.getD i false) = bs.all id := by
      rw [List.size_toArray, hlen, Bool.eq_iff_iff, List.all_eq_true, List.all_eq_true]
      constructor
      · intro hh b hb
        obtain ⟨i, hi, rfl⟩ := List.getElem_of_mem hb
        have := hh i (List.mem_range.mpr hi)
        rw [List.getD_eq_getElem?_getD, List.getElem?_eq_getElem hi] at this
        exact this
      · intro hh i hi
        have hi' := List.mem_range.mp hi
        rw [List.getD_eq_getElem?_getD, List.getElem?_eq_getElem hi']
        exact hh _ (List.getElem_mem hi')
    rw [e]
    exact ⟨.bl (bs.all id), H, I.kept (h' := h') (t' := tk) (fun b o q => k b o (fun hm => by
      have e : b = s.heap.objs.size := by simpa using hm
      exact absurd (Heap.lt_size q) (by rw [e]; exact Nat.lt_irrefl _)) (Heap.get?_push_of_some _ q)), rfl, q⟩

/-! ### str.upper -/
/-! ### is, is not a written truth -/
/-! ### isinstance(x, T) -/
theorem call_isinst : CallR X (.builtin "isinstance") (fun xs H Q => ∃ x T t b, xs = [x, .ty T] ∧ TyOf X.K H x t ∧ PySem.W.kitOne X.K t (.type T) = some b ∧ Q (.bl b) H) := by
  intro pins s σ H xs us Q I r h
  obtain ⟨x, T, t, b, rfl, ty, e, q⟩ := h
  obtain ⟨u, w', rfl, ru, rw'⟩ := vals2 r
  cases rw'
  exact isinst_ok I ru ty e fun tk => ⟨.bl b, H, I.tok tk, rfl, q⟩
end
end L2

set_option Elab.async false
set_option linter.all false
set_option maxRecDepth 100000
set_option maxHeartbeats 4000000
namespace L2
open PySem PySem.Spec PyProof.Rows

/-! ### argument lists without stars, by their heads alone -/
def isSt : Expr → Bool
  | .Starred .. => true
  | _ => false
theorem star_cons {e : Expr} {es : List Expr} {env : Env} (h : isSt e = false) : starEach (e :: es) env = (false, eval e env) :: starEach es env := by
  cases e <;> first | rfl | cases h
theorem star_any {env : Env} {pos : Pos} : ∀ {es : List Expr}, es.any isSt = false → (backTo pos (starEach es env)).any (·.1) = false
  | [], _ => rfl
  | e :: es, h => by
    rw [List.any_cons, Bool.or_eq_false_iff] at h
    rw [star_cons h.1]
    show (false || (backTo pos (starEach es env)).any (·.1)) = false
    rw [star_any h.2]
    rfl
section
variable {X : Cx} {CX : CXT} {k : Nat} {f C : Addr} {fd : FuncData} {ps : List Str} {sp : Sp} {dvs : List V} {ds : List Value} {E : XK} {x m : Str} {p pos apos : Pos} {e o : Expr} {es : List Expr} {te ta : TE} {t : TA} {id T : String} {r : List V → Hp → VK → Prop}
theorem ac (ha : PE X e te) (hr : PA X es t) (h : isSt e = false := by rfl) : PA X (e :: es) (tCons te t) := pa_cons ha hr (star_cons h)
theorem cB (hc : CallR X (.builtin id) r) (hm : X.mg x = none) (hv : bootBuiltins x = some (.builtin id)) (ha : PA X (e :: es) t) (hg : Gl X x := by rfl) (hn : x ≠ "__name__" := by decide) (hdb : (x == ("__debug__" : Str)) = false := by decide)
    (h1 : isSt e = false := by rfl) (h2 : es.any isSt = false := by rfl) : PE X (.Call (.Name x p) (e :: es) [] pos) (tCB r t) := pe_callB hc hg hm hv ha hn hdb (star_cons h1) (star_any h2)
theorem cTy (hc : CallR X (.type T) r) (hm : X.mg x = none) (hv : bootBuiltins x = some (.type T)) (ha : PA X (e :: es) t) (hg : Gl X x := by rfl) (hn : x ≠ "__name__" := by decide) (hdb : (x == ("__debug__" : Str)) = false := by decide)
    (h1 : isSt e = false := by rfl) (h2 : es.any isSt = false := by rfl) : PE X (.Call (.Name x p) (e :: es) [] pos) (tCB r t) := pe_callTy hc hg hm hv ha hn hdb (star_cons h1) (star_any h2)
/-- a def of the text as callers have it -/
structure Callee (P : Program) (w : World) (K : PySem.W.Frag) (mg : Str → Option Value) (base : Heap) (k : Nat) (x : Str) (f : Addr) (fd : FuncData) (ps : List Str) (sp : Sp) : Prop where
  ok : FnOk P w K mg base CX0 k f fd ps sp
  mg : mg x = some (.ref f)
  kp : PySem.W.keepIn K (.ref f) = true
  bd : Binds K fd ps []
theorem cF (c : Callee X.prog X.w X.K X.mg X.base k x f fd ps sp) (hr : Room k X.A) (ha : PA X (e :: es) t) (hg : Gl X x := by rfl) (hdb : (x == ("__debug__" : Str)) = false := by decide)
    (h1 : isSt e = false := by rfl) (h2 : es.any isSt = false := by rfl) : PE X (.Call (.Name x p) (e :: es) [] pos) (tCall sp [] E0 t) :=
  pe_call c.ok hr hg c.mg c.kp c.bd .nil pass0 ha hdb (star_cons h1) (star_any h2)
end
end L2

set_option maxRecDepth 100000
set_option maxHeartbeats 4000000
namespace L2
open PySem PyProof.Rows
/-! ### isinstance of built-in kinds -/
theorem kt_NoneType_str (K : PySem.W.Frag) : PySem.W.kitOne K (.type "NoneType") (.type "str") = some false := by kernel_rfl
theorem kt_int_str (K : PySem.W.Frag) : PySem.W.kitOne K (.type "int") (.type "str") = some false := by kernel_rfl
theorem kt_bool_str (K : PySem.W.Frag) : PySem.W.kitOne K (.type "bool") (.type "str") = some false := by kernel_rfl
theorem kt_bool_bool (K : PySem.W.Frag) : PySem.W.kitOne K (.type "bool") (.type "bool") = some true := by kernel_rfl
theorem kt_str_str (K : PySem.W.Frag) : PySem.W.kitOne K (.type "str") (.type "str") = some true := by kernel_rfl
theorem kt_list_str (K : PySem.W.Frag) : PySem.W.kitOne K (.type "list") (.type "str") = some false := by kernel_rfl
theorem kt_tuple_str (K : PySem.W.Frag) : PySem.W.kitOne K (.type "tuple") (.type "str") = some false := by kernel_rfl
theorem kt_dict_str (K : PySem.W.Frag) : PySem.W.kitOne K (.type "dict") (.type "str") = some false := by kernel_rfl
end L2

set_option Elab.async false
set_option linter.all false
set_option maxRecDepth 100000
set_option maxHeartbeats 4000000
namespace L2
open PySem PySem.Spec PyProof.Rows

/-! ### data: what a value says, lists and tuples within -/
inductive Dt where
  | non | bl (b : Bool) | int (i : Int) | str (z : Str) | tup (ds : List Dt) | lst (ds : List Dt)
def FlatD : V → Dt → Prop
  | .non, .non => True
  | .bl a, .bl b => a = b
  | .int a, .int b => a = b
  | .str a, .str b => a = b
  | _, _ => False
/-- at most n deep; the lists within stand at addresses that are ok -/
def Says (K : PySem.W.Frag) (ok : Addr → Prop) (H : Hp) : Nat → V → Dt → Prop
  | 0, x, d => FlatD x d
  | n + 1, x, d => FlatD x d ∨ (∃ a xs ds, x = .ref a ∧ d = .tup ds ∧ SqT K H a xs ∧ Paired (Says K ok H n) xs ds) ∨ (∃ a xs ds, x = .ref a ∧ d = .lst ds ∧ ok a ∧ H a = some (.lst xs) ∧ Paired (Says K ok H n) xs ds)
section
variable {K : PySem.W.Frag} {ok ok' : Addr → Prop} {H H' : Hp}
theorem Says.flat {n : Nat} {x : V} {d : Dt} (h : FlatD x d) : Says K ok H n x d := by
  cases n with
  | zero => exact h
  | succ n => exact .inl h
theorem Says.int {n : Nat} {i : Int} : Says K ok H n (.int i) (.int i) := .flat rfl
theorem Says.bl {n : Nat} {b : Bool} : Says K ok H n (.bl b) (.bl b) := .flat rfl
theorem Says.lst {n : Nat} {a : Addr} {xs : List V} {ds : List Dt} (o : ok a) (h : H a = some (.lst xs)) (r : Paired (Says K ok H n) xs ds) : Says K ok H (n + 1) (.ref a) (.lst ds) := .inr (.inr ⟨a, xs, ds, rfl, rfl, o, h, r⟩)
theorem Paired.get {α β : Type} {F : α → β → Prop} : ∀ {l₁ : List α} {l₂ : List β} {i : Nat} {a : α}, Paired F l₁ l₂ → l₁[i]? = some a → ∃ b, l₂[i]? = some b ∧ F a b
  | _, _, _, _, .nil, e => by simp at e
  | _, _, 0, _, .cons r _, e => by simp at e; subst e; exact ⟨_, rfl, r⟩
  | _, _, i + 1, a, .cons _ t, e => by
    obtain ⟨b, h1, h2⟩ := Paired.get (i := i) (a := a) t (by simpa using e)
    exact ⟨b, by simpa using h1, h2⟩
end
section
variable {X : Cx} {pins : List (Addr × Obj)} {σ : St} {H : Hp} {s : Shared} {ok ok' : Addr → Prop}
theorem flat_same {A : Around} {x y : V} {d : Dt} {u v : Value} (hx : FlatD x d) (hy : FlatD y d) (ru : RelV x u) (rv : RelV y v) : SeqAt.EqAt A s u v true := by
  cases d with
  | non =>
    cases x <;> try exact hx.elim
    cases y <;> try exact hy.elim
    cases ru; cases rv; exact SeqAt.EqAt.same _
  | bl b =>
    cases x <;> try exact hx.elim
    cases y <;> try exact hy.elim
    rename_i a c
    obtain rfl : a = b := hx
    obtain rfl : c = a := hy
    cases ru; cases rv; exact SeqAt.EqAt.same _
  | int b =>
    cases x <;> try exact hx.elim
    cases y <;> try exact hy.elim
    rename_i a c
    obtain rfl : a = b := hx
    obtain rfl : c = a := hy
    obtain ⟨t, rfl⟩ := ru
    obtain ⟨t', rfl⟩ := rv
    have := SeqAt.EqAt.int_int (A := A) (s := s) c t c t'
    simpa using this
  | str b =>
    cases x <;> try exact hx.elim
    cases y <;> try exact hy.elim
    rename_i a c
    obtain rfl : a = b := hx
    obtain rfl : c = a := hy
    obtain ⟨t, rfl⟩ := ru
    obtain ⟨t', rfl⟩ := rv
    have := SeqAt.EqAt.str_str (A := A) (s := s) c t c t'
    simpa using this
  | tup ds => cases x <;> exact hx.elim
  | lst ds => cases x <;> exact hx.elim
theorem flat_ref {a : Addr} {d : Dt} (h : FlatD (.ref a) d) : False := by cases d <;> exact h
theorem all_true (n : Nat) : ((List.range n).all fun _ => true) = true := by rw [List.all_eq_true]; intro _ _; rfl
/-- two values that say the same are equal -/
theorem eqAt_same (I : Inv X pins σ H s) : ∀ (n : Nat) {A : Around} {x y : V} {d : Dt} {u v : Value}, Says X.K ok H n x d → Says X.K ok' H n y d → RelV x u → RelV y v → A.units + n < cLine → SeqAt.EqAt A s u v true
  | 0, A, x, y, d, u, v, hx, hy, ru, rv, _ => flat_same hx hy ru rv
  | n + 1, A, x, y, d, u, v, hx, hy, ru, rv, hu => by
    have hin : A.in1.units + n < cLine := by show A.units + 1 + n < cLine; omega
    rcases hx with hx | ⟨a, xs, ds, rfl, rfl, hx, r⟩ | ⟨a, xs, ds, rfl, rfl, _, hx, r⟩
    · rcases hy with hy | ⟨b, ys, es, rfl, rfl, hy, q⟩ | ⟨b, ys, es, rfl, rfl, _, hy, q⟩
      · exact flat_same hx hy ru rv
      · cases x <;> exact hx.elim
      · cases x <;> exact hx.elim
    · rcases hy with hy | ⟨b, ys, es, rfl, e2, hy, q⟩ | ⟨b, ys, es, rfl, e2, _, hy, q⟩
      · cases y <;> exact hy.elim
      · cases e2
        cases ru; cases rv
        by_cases hab : a = b
        · subst hab; exact SeqAt.EqAt.same _
        · obtain ⟨ia, va, pa, _⟩ := I.tuple hx
          obtain ⟨ib, vb, pb, _⟩ := I.tuple hy
          have la : ia.length = ds.length := by rw [← va.length, r.length]
          have lb : ib.length = ds.length := by rw [← vb.length, q.length]
          have := SeqAt.RcAt.tuples (A := A) (s := s) (e := fun _ => true) (show s.heap.IsTuple a ia.toArray from pa) (show s.heap.IsTuple b ib.toArray from pb) (by omega) (fun j h1 h2 => by
            have j1 : j < ia.length := by simpa using h1
            have j2 : j < ib.length := by simpa using h2
            have hxl : j < xs.length := by rw [va.length]; exact j1
            have hyl : j < ys.length := by rw [vb.length]; exact j2
            obtain ⟨u', e1, e2⟩ := va.get (i := j) (List.getElem?_eq_getElem hxl)
            obtain ⟨v', e3, e4⟩ := vb.get (i := j) (List.getElem?_eq_getElem hyl)
            obtain ⟨d1, f1, f2⟩ := Paired.get r (List.getElem?_eq_getElem hxl)
            obtain ⟨d2, f3, f4⟩ := Paired.get q (List.getElem?_eq_getElem hyl)
            rw [f1] at f3
            cases f3
            rw [List.getElem?_eq_getElem j1] at e1
            rw [List.getElem?_eq_getElem j2] at e3
            cases e1; cases e3
            simpa using eqAt_same I n f2 f4 e2 e4 hin)
          rw [all_true] at this
          have z : (ia.toArray.size == ib.toArray.size) = true := by simp [la, lb]
          rw [z] at this
          exact SeqAt.EqAt.of_refs hab this
      · cases e2
    · rcases hy with hy | ⟨b, ys, es, rfl, e2, hy, q⟩ | ⟨b, ys, es, rfl, e2, _, hy, q⟩
      · cases y <;> exact hy.elim
      · cases e2
      · cases e2
        cases ru; cases rv
        by_cases hab : a = b
        · subst hab; exact SeqAt.EqAt.same _
        · obtain ⟨ia, va, pa, _⟩ := I.list (SqL.of hx)
          obtain ⟨ib, vb, pb, _⟩ := I.list (SqL.of hy)
          have la : ia.length = ds.length := by rw [← va.length, r.length]
          have lb : ib.length = ds.length := by rw [← vb.length, q.length]
          have := SeqAt.RcAt.lists (A := A) (s := s) (e := fun _ => true) pa.isList pb.isList (by simp [la, lb]) (by omega) (fun j h1 h2 => by
            have j1 : j < ia.length := by simpa using h1
            have j2 : j < ib.length := by simpa using h2
            have hxl : j < xs.length := by rw [va.length]; exact j1
            have hyl : j < ys.length := by rw [vb.length]; exact j2
            obtain ⟨u', e1, e2⟩ := va.get (i := j) (List.getElem?_eq_getElem hxl)
            obtain ⟨v', e3, e4⟩ := vb.get (i := j) (List.getElem?_eq_getElem hyl)
            obtain ⟨d1, f1, f2⟩ := Paired.get r (List.getElem?_eq_getElem hxl)
            obtain ⟨d2, f3, f4⟩ := Paired.get q (List.getElem?_eq_getElem hyl)
            rw [f1] at f3
            cases f3
            rw [List.getElem?_eq_getElem j1] at e1
            rw [List.getElem?_eq_getElem j2] at e3
            cases e1; cases e3
            simpa using eqAt_same I n f2 f4 e2 e4 hin)
          rw [all_true] at this
          exact SeqAt.EqAt.of_refs hab this
end
end L2

set_option Elab.async false
set_option linter.all false
set_option maxRecDepth 100000
set_option maxHeartbeats 4000000
namespace L2
open PySem PySem.Spec PyProof.Rows
/-! ### == and != of two objects that say the same -/
section
variable {X : Cx} {pins : List (Addr × Obj)} {σ : St} {H : Hp} {s : Shared} {ok ok' : Addr → Prop}
theorem rc_same (I : Inv X pins σ H s) {n : Nat} {A : Around} {a b : Addr} {d : Dt} (hx : Says X.K ok H (n + 1) (.ref a) d) (hy : Says X.K ok' H (n + 1) (.ref b) d) (hu : A.units + n + 1 < cLine) :
    SeqAt.RcAt A s (.ref a) (.ref b) true ∧ SeqAt.RcNeAt A s (.ref a) (.ref b) false := by
  have hin : A.in1.units + n < cLine := by show A.units + 1 + n < cLine; omega
  rcases hx with hx | ⟨a, xs, ds, e0, rfl, hx, r⟩ | ⟨a, xs, ds, e0, rfl, _, hx, r⟩
  · exact (flat_ref hx).elim
  · cases e0
    rcases hy with hy | ⟨b, ys, es, e1, e2, hy, q⟩ | ⟨b, ys, es, e1, e2, _, hy, q⟩
    · exact (flat_ref hy).elim
    · cases e1; cases e2
      obtain ⟨ia, va, pa, _⟩ := I.tuple hx
      obtain ⟨ib, vb, pb, _⟩ := I.tuple hy
      have la : ia.length = ds.length := by rw [← va.length, r.length]
      have lb : ib.length = ds.length := by rw [← vb.length, q.length]
      have el : ∀ j (h1 : j < ia.toArray.size) (h2 : j < ib.toArray.size), SeqAt.EqAt A.in1 s ia.toArray[j] ib.toArray[j] true := fun j h1 h2 => by
        have j1 : j < ia.length := by simpa using h1
        have j2 : j < ib.length := by simpa using h2
        have hxl : j < xs.length := by rw [va.length]; exact j1
        have hyl : j < ys.length := by rw [vb.length]; exact j2
        obtain ⟨u', e1, e2⟩ := va.get (i := j) (List.getElem?_eq_getElem hxl)
        obtain ⟨v', e3, e4⟩ := vb.get (i := j) (List.getElem?_eq_getElem hyl)
        obtain ⟨d1, f1, f2⟩ := Paired.get r (List.getElem?_eq_getElem hxl)
        obtain ⟨d2, f3, f4⟩ := Paired.get q (List.getElem?_eq_getElem hyl)
        rw [f1] at f3
        cases f3
        rw [List.getElem?_eq_getElem j1] at e1
        rw [List.getElem?_eq_getElem j2] at e3
        cases e1; cases e3
        simpa using eqAt_same I n f2 f4 e2 e4 hin
      have z : (ia.toArray.size == ib.toArray.size) = true := by simp [la, lb]
      have t1 := SeqAt.RcAt.tuples (A := A) (s := s) (e := fun _ => true) (show s.heap.IsTuple a ia.toArray from pa) (show s.heap.IsTuple b ib.toArray from pb) (by omega) el
      have t2 := SeqAt.RcNeAt.tuples (A := A) (s := s) (e := fun _ => true) (show s.heap.IsTuple a ia.toArray from pa) (show s.heap.IsTuple b ib.toArray from pb) (by omega) el
      rw [all_true, z] at t1 t2
      exact ⟨t1, t2⟩
    · cases e1; cases e2
  · cases e0
    rcases hy with hy | ⟨b, ys, es, e1, e2, hy, q⟩ | ⟨b, ys, es, e1, e2, _, hy, q⟩
    · exact (flat_ref hy).elim
    · cases e1; cases e2
    · cases e1; cases e2
      obtain ⟨ia, va, pa, _⟩ := I.list (SqL.of hx)
      obtain ⟨ib, vb, pb, _⟩ := I.list (SqL.of hy)
      have la : ia.length = ds.length := by rw [← va.length, r.length]
      have lb : ib.length = ds.length := by rw [← vb.length, q.length]
      have el : ∀ j (h1 : j < ia.toArray.size) (h2 : j < ib.toArray.size), SeqAt.EqAt A.in1 s ia.toArray[j] ib.toArray[j] true := fun j h1 h2 => by
        have j1 : j < ia.length := by simpa using h1
        have j2 : j < ib.length := by simpa using h2
        have hxl : j < xs.length := by rw [va.length]; exact j1
        have hyl : j < ys.length := by rw [vb.length]; exact j2
        obtain ⟨u', e1, e2⟩ := va.get (i := j) (List.getElem?_eq_getElem hxl)
        obtain ⟨v', e3, e4⟩ := vb.get (i := j) (List.getElem?_eq_getElem hyl)
        obtain ⟨d1, f1, f2⟩ := Paired.get r (List.getElem?_eq_getElem hxl)
        obtain ⟨d2, f3, f4⟩ := Paired.get q (List.getElem?_eq_getElem hyl)
        rw [f1] at f3
        cases f3
        rw [List.getElem?_eq_getElem j1] at e1
        rw [List.getElem?_eq_getElem j2] at e3
        cases e1; cases e3
        simpa using eqAt_same I n f2 f4 e2 e4 hin
      have t1 := SeqAt.RcAt.lists (A := A) (s := s) (e := fun _ => true) pa.isList pb.isList (by simp [la, lb]) (by omega) el
      have t2 := SeqAt.RcNeAt.lists (A := A) (s := s) (e := fun _ => true) pa.isList pb.isList (by simp [la, lb]) (by omega) el
      rw [all_true] at t1 t2
      exact ⟨t1, t2⟩
def rSame (K : PySem.W.Frag) (b : Bool) : R2 := fun x y H Q => ∃ (a c : Addr) (n : Nat) (d : Dt) (ok ok' : Addr → Prop), x = .ref a ∧ y = .ref c ∧ n ≤ 20 ∧ Says K ok H (n + 1) x d ∧ Says K ok' H (n + 1) y d ∧ Q (.bl b) H
theorem op_eqS (hu : X.A.units + 64 < cLine) : OpR X (compareOp .Eq) (rSame X.K true) := by
  intro pins s σ H x y v u Q I rx ry h
  obtain ⟨a, c, n, d, ok, ok', rfl, rfl, hn, hx, hy, q⟩ := h
  cases rx; cases ry
  exact (rc_same (A := X.A) I hx hy (by omega)).1 X.prog X.w X.xe _ ⟨.bl true, H, I, rfl, q⟩
theorem op_neS (hu : X.A.units + 64 < cLine) : OpR X (compareOp .NotEq) (rSame X.K false) := by
  intro pins s σ H x y v u Q I rx ry h
  obtain ⟨a, c, n, d, ok, ok', rfl, rfl, hn, hx, hy, q⟩ := h
  cases rx; cases ry
  exact (rc_same (A := X.A) I hx hy (by omega)).2 X.prog X.w X.xe _ ⟨.bl false, H, I, rfl, q⟩
end

/-! ### enumerate over a list -/
def Ite (K : PySem.W.Frag) (a : Addr) : It :=
  ⟨fun i H => ∃ xs x, SqL K H a xs ∧ xs[i]? = some x, fun i H x H' => ∃ (p : Addr) (y : V), x = .ref p ∧ H p = none ∧ (∀ xs, SqL K H a xs → xs[i]? = some y) ∧ H' = upd H p (.tup [.int i, y]), fun i H => ∃ xs, SqL K H a xs ∧ xs.length ≤ i⟩
theorem turn_enum {P : Program} {w : World} {K : PySem.W.Frag} {elts : List Expr} {x1 : Nat} {tpos : Pos} (a e it : Addr) (hne : e ≠ it) :
    Turn P w K (.Tuple elts x1 tpos) (Ite K a) [e, it] e (fun i h => (∃ old, IsEnum h e it (i : Int) old) ∧ h.IsListIter it a i) where
  mem := by simp
  obj := fun i h st b hb => by
    rcases List.mem_cons.mp hb with rfl | hb
    · obtain ⟨⟨old, he⟩, _⟩ := st
      exact ⟨_, he, fun v q => by cases q⟩
    · have e' : b = it := by simpa using hb
      subst e'
      obtain ⟨_, o, ho, _, hd⟩ := st
      exact ⟨o, ho, fun v q => by rw [hd] at q; cases q⟩
  keep := fun i h h' st k => by
    obtain ⟨⟨old, he⟩, o, ho, r⟩ := st
    exact ⟨⟨old, k e (by simp) _ he⟩, o, k it (by simp) o ho, r⟩
  item := by
    intro X hP hw hK hc i pins s σ H E I hf st hg
    subst hP hw hK
    obtain ⟨f0, f1, f2, f3, f4, f5⟩ := hf e (by simp)
    obtain ⟨g0, g1, g2, g3, g4, g5⟩ := hf it (by simp)
    obtain ⟨⟨old, he⟩, hit⟩ := st
    obtain ⟨xs, x, hS, hx⟩ := hg
    obtain ⟨its, rv, hp, hz⟩ := I.list hS
    obtain ⟨u, hu, ru⟩ := rv.get hx
    refine wpAny_pyNext_enum_item he hit hp.isList (x := u) (by simpa using hu) hne fun h' he' hit' htup hsz hk => ?_
    have I0 : Inv X pins σ H { s with heap := h', toks := s.toks + 1 } := by
      refine I.step (g' := s.gens) (d' := s.drawn) (ch := [e, it]) (fun b hb => ?_) (fun b o _ _ hc' e1 _ => hk b o (fun z => hc' (by simp [z])) (fun z => hc' (by simp [z])) e1) (fun b o _ _ hc' e1 _ => ⟨o.slots, hk b o (fun z => hc' (by simp [z])) (fun z => hc' (by simp [z])) e1⟩) (fun _ _ _ _ n => n)
        (fun b o hc' e1 => ⟨o, hk b o (fun z => hc' (by simp [z])) (fun z => hc' (by simp [z])) e1⟩) (fun _ _ e1 => e1) (fun _ _ _ e1 => e1) (fun b ps e1 => ⟨#[], by rw [e1]; simp⟩) (fun m hm => ?_) (fun b u' e1 => ?_) I.bare
      · rcases List.mem_cons.mp hb with rfl | hb
        · exact ⟨f3, f1, f4, f5⟩
        · have e' : b = it := by simpa using hb
          subst e'
          exact ⟨g3, g1, g4, g5⟩
      · obtain ⟨o, es, ep, ho, r⟩ := hm
        exact ⟨o, es, ep, hk _ o (Ne.symm f1) (Ne.symm g1) ho, r⟩
      · have nit : ∀ c v', H c = some v' → c ≠ e ∧ c ≠ it := fun c v' q => ⟨fun z => (by rw [z, f0] at q; cases q), fun z => (by rw [z, g0] at q; cases q)⟩
        refine (I.hok b u' e1).stay (fun c v' hc' q => ?_) (fun _ q => q) fun _ _ q => q
        rcases hc' with z | z
        · subst z; exact hk c v' (nit c _ e1).1 (nit c _ e1).2 q
        · exact hk c v' (nit c _ z).1 (nit c _ z).2 q
    have hfr : H s.heap.objs.size = none := I.hok.fresh (Nat.le_refl _)
    have I1 : Inv X pins σ (upd H s.heap.objs.size (.tup [.int i, x])) { s with heap := h', toks := s.toks + 1 } := by
      have hok : HOk X.prog X.w (upd H s.heap.objs.size (.tup [.int i, x])) h' := fun b o q => by
        by_cases hb : b = s.heap.objs.size
        · subst hb
          rw [upd_same] at q; cases q
          exact ⟨by show 2 ≤ sizeLine; decide, [.int i s.toks, u], .cons ⟨_, rfl⟩ (.cons ru .nil), ⟨_, htup, rfl, _, rfl⟩⟩
        · rw [upd_ne hb] at q
          exact (I0.hok b o q).stay (fun _ _ _ z => z) (fun c z => by rw [upd_ne (ne_of_none z hfr)]; exact z) fun c xs' z => by rw [upd_ne (ne_of_none z hfr)]; exact z
      refine I0.step (s := { s with heap := h', toks := s.toks + 1 }) (g' := s.gens) (d' := s.drawn) (h' := h') (t' := s.toks + 1) (ch := [s.heap.objs.size]) (fun b hb => ?_) (fun b o _ _ _ e1 _ => e1) (fun b o _ _ _ e1 _ => ⟨o.slots, e1⟩) (fun b o hb e1 n => by rw [upd_ne (fun z => hb (by simp [z]))]; exact n)
        (fun b o _ e1 => ⟨o, e1⟩) (fun b xs' e1 => by rw [upd_ne (ne_of_none e1 hfr)]; exact e1) (fun b o' u' e1 => by rw [upd_ne (ne_of_none e1 hfr)]; exact e1) (fun b ps e1 => ⟨#[], by rw [upd_ne (ne_of_none e1 hfr), e1]; simp⟩) (fun m hm => hm) hok I0.bare
      have e' : b = s.heap.objs.size := by simpa using hb
      subst e'
      refine ⟨.inr I.sz, fun z => ?_, fun y c h z => ?_, fun p hp' z => ?_⟩
      · have := I.lt; rw [← z] at this; exact absurd this (Nat.lt_irrefl _)
      · obtain ⟨v', hv⟩ := I.cell y c h
        have := hv.lt; rw [z] at this; exact absurd this (Nat.lt_irrefl _)
      · have := I.pin_lt hp'; rw [z] at this; exact absurd this (Nat.lt_irrefl _)
    refine ⟨_, rfl, wpAny_letOwnedTupleGo_enum he' fun h2 he2 hs2 => ?_⟩
    have nes : s.heap.objs.size ≠ e := fun z => by
      have := Heap.lt_size (show s.heap.get? e = some _ from he)
      rw [← z] at this; exact absurd this (Nat.lt_irrefl _)
    have nis : s.heap.objs.size ≠ it := fun z => by
      obtain ⟨o, ho, _⟩ := hit
      have := Heap.lt_size ho
      rw [← z] at this; exact absurd this (Nat.lt_irrefl _)
    have I2 : Inv X pins σ (upd H s.heap.objs.size (.tup [.int i, x])) { s with heap := h2, toks := s.toks + 1 } :=
      I1.turned (s := { s with heap := h', toks := s.toks + 1 }) (t' := s.toks + 1) (it := e) (fun b o hb q => (hs2.2 b hb).trans q) (by rw [upd_ne nes.symm]; exact f0) f1 f3 f4 f5
    refine ⟨.ref s.heap.objs.size, _, I2, rfl, ⟨_, x, rfl, hfr, fun xs' h' => ?_, rfl⟩, ⟨⟨_, by simpa using he2⟩, ?_⟩, fun b hb => ?_⟩
    · rw [I.list_inj h' hS]; exact hx
    · obtain ⟨o, ho, r⟩ := hit'
      exact ⟨o, (hs2.2 it (Ne.symm hne)).trans ho, r⟩
    · rcases List.mem_cons.mp hb with rfl | hb
      · rw [upd_ne nes.symm]; exact f0
      · have e' : b = it := by simpa using hb
        subst e'
        rw [upd_ne nis.symm]; exact g0
  done := by
    intro X hP hw hK hc i pins s σ H E I hf st hg
    subst hP hw hK
    obtain ⟨⟨old, he⟩, hit⟩ := st
    obtain ⟨g0, g1, g2, g3, g4, g5⟩ := hf it (by simp)
    obtain ⟨xs, hS, hle⟩ := hg
    obtain ⟨its, rv, hp, hz⟩ := I.list hS
    have hx : its.toArray[i]? = none := by simp [← rv.length, hle]
    exact wpAny_pyNext_enum_end (I.ok.hd hc) he hit hp.isList hx fun h' eb => ⟨rfl, I.turned (t' := s.toks) (fun b o hb e1 => eb b o hb e1) g0 g1 g3 g4 g5⟩
  self := fun A i s Q E st h => by
    obtain ⟨⟨old, he⟩, _⟩ := st
    exact wpAny_pyIter_enum he h
section
variable {X : Cx} {elts : List Expr} {x1 : Nat} {tpos : Pos}
def iEnum (K : PySem.W.Frag) (ta : TA) : TI := fun σ H R => ta σ H fun vs H1 => ∃ a, vs = [.ref a] ∧ (∃ xs, SqL K H1 a xs) ∧ R (Ite K a) H1
theorem pi_enum {l : Expr} {ta : TA} {p pos : Pos} (hg : Gl X "enumerate") (hm : X.mg "enumerate" = none) (ha : PA X [l] ta) (hl : isSt l = false := by rfl) : PI X (.Tuple elts x1 tpos) (.Call (.Name "enumerate" p) [l] [] pos) (iEnum X.K ta) := by
  refine ⟨?_⟩
  intro pins s σ H R I h
  refine Call_ (ld_blt I hg hm PyProof.Rows.boot_enumerate (PyProof.Rows.callWith_type1 (thn (ha pos pins s σ H _ I h) fun us s1 ⟨vs, H1, I1, r1, q1⟩ => ?_) (star_cons hl) rfl))
  obtain ⟨a, e, ⟨xs, hS⟩, q⟩ := q1
  subst e
  obtain ⟨u, rfl, ru⟩ := vals1 r1
  cases ru
  obtain ⟨its, rv, hp, hz⟩ := I1.list hS
  refine call_enumerate_list hp.isList fun h' he hit hsz hk => ?_
  refine wpAny_pyIter_enum he ?_
  have hfr : ∀ b, s1.heap.objs.size ≤ b → H1 b = none := fun b hb => I1.hok.fresh hb
  have I2 : Inv X pins σ H1 { s1 with heap := h' } := I1.kept (t' := s1.toks) hk
  refine ⟨s1.heap.objs.size + 1, [s1.heap.objs.size + 1, s1.heap.objs.size], _, _, H1, rfl, I2, turn_enum a _ _ (Nat.succ_ne_self _), ⟨⟨_, he⟩, hit⟩, fun b hb => ?_, q⟩
  rcases List.mem_cons.mp hb with rfl | hb
  · exact I1.fpOk (Nat.le_succ _) (hfr _ (Nat.le_succ _))
  · have e' : b = s1.heap.objs.size := by simpa using hb
    subst e'
    exact I1.fpOk (Nat.le_refl _) (hfr _ (Nat.le_refl _))
end
end L2

set_option Elab.async false
set_option linter.all false
set_option maxRecDepth 100000
set_option maxHeartbeats 4000000
namespace Att
open PySem PySem.W PySem.Calls PyProof.Rows
/-! ### the script's numbers have at most 2 ^ 20 bits each -/
end Att
namespace L2
open PySem PySem.Spec PyProof.Rows
section
variable {X : Cx}
end
end L2

set_option Elab.async false
set_option linter.all false
set_option maxRecDepth 100000
set_option maxHeartbeats 4000000
namespace L2
open PySem PySem.Spec PyProof.Rows
/-! ### defs with defaults; an instance made with keywords -/
/-- a def or method whose defaults are these values -/
structure FunD (K : PySem.W.Frag) (x qual : Str) (st : Stmt) (f : Addr) (fd : FuncData) (items : List Value) : Prop where
  ex : ∃ (oc : Value) (od : Option Addr) (T : Addr) (kV doc pm : Value) (an : Option Addr) (cdv ct : Value) (osl : Array (Option Value)) (o : Obj) (n : Nat),
    fd = PySem.W.fnOf x qual (defArgs st) (defBody st) (defScope st) (.ref T) kV doc pm an cdv ct ∧ K.lookup f = some ⟨oc, od, .func fd, osl⟩ ∧ PySem.W.codeIn K cdv qual = true ∧ K.lookup T = some o ∧ o.data = .seq items.toArray n
  kp : PySem.W.keepIn K (.ref f) = true
section
variable {P : Program} {w : World} {K : PySem.W.Frag} {mg : Str → Option Value} {base : Heap}
/-- how it binds: h is «fun _ _ _ _ _ _ _ => ⟨_, rfl, rfl⟩» -/
theorem FunD.bindsTo {x qual : Str} {st : Stmt} {f : Addr} {fd : FuncData} {items : List Value} (F : FunD K x qual st f fd items) {args : Args} {bs : List (Str × Value)}
    (h : ∀ (T : Addr) (kV doc pm : Value) (an : Option Addr) (cdv ct : Value), ∃ k : Option (Array Value) → Sem (List (Str × Value)),
      bindArgs (PySem.W.fnOf x qual (defArgs st) (defBody st) (defScope st) (.ref T) kV doc pm an cdv ct) args = seqItems? (.ref T) >>= k ∧ k (some items.toArray) = pure bs) {s : Shared} (KX : K.In s.heap) : BindsTo s fd args bs := by
  obtain ⟨oc, od, T, kV, doc, pm, an, cdv, ct, osl, o, n, rfl, lk, hcd, lt, hs⟩ := F.ex
  obtain ⟨k, h1, h2⟩ := h T kV doc pm an cdv ct
  exact BindsTo.of_defaults (T := T) (n := n) rfl (KX _ _ lt) hs h1 h2
theorem funD_mk {x qual : Str} {st : Stmt} {f T : Addr} {oc : Value} {od an : Option Addr} {osl : Array (Option Value)} {kV doc pm cdv ct : Value} {o : Obj} {n : Nat} {items : List Value}
    (l : K.lookup f = some ⟨oc, od, .func (PySem.W.fnOf x qual (defArgs st) (defBody st) (defScope st) (.ref T) kV doc pm an cdv ct), osl⟩)
    (c : PySem.W.codeIn K cdv qual = true) (k : PySem.W.keepIn K (.ref f) = true) (lT : K.lookup T = some o) (hs : o.data = .seq items.toArray n) :
    FunD K x qual st f (PySem.W.fnOf x qual (defArgs st) (defBody st) (defScope st) (.ref T) kV doc pm an cdv ct) items := ⟨⟨oc, od, T, kV, doc, pm, an, cdv, ct, osl, o, n, rfl, l, c, lT, hs⟩, k⟩
end
section
variable {X : Cx} {CX : CXT} {k : Nat} {f C : Addr} {fd : FuncData} {ps ks : List Str} {sp : Sp} {E : XK} {x : Str} {p pos : Pos} {e : Expr} {es : List Expr} {kws : List Keyword} {t tk : TA}
  {g : List Value → List Value → List Value} {gV : List V → List V → List V}
end
/-! ### a statement and what follows, with what holds between them; comprehensions over a list -/
theorem seq_via {t u : TS} {D : Ends} {σ : St} {H : Hp} (R : St → Hp → Prop) (h2 : ∀ σ H, R σ H → u D σ H) (h1 : (∀ σ H, R σ H → u D σ H) → t { D with nx := u D } σ H) : tSeq t u D σ H := h1 h2
/-- what a turn of a block that makes the list at D asks of its item -/
def lcN (n i : Nat) (D : Addr) (Pv : Nat → List V → Hp → Prop) (ys : List V) : VK := fun v H4 => H4 D = some (.lst ys) ∧ ys.length < sizeLine ∧ ∃ m', m' < n - i ∧ m' = n - (i + 1) ∧ i + 1 ≤ n ∧ Pv (i + 1) (ys ++ [v]) (upd H4 D (.lst (ys ++ [v])))
def lcS (n i : Nat) (Pv : Nat → List V → Hp → Prop) (ys : List V) : Hp → Prop := fun H4 => ∃ m', m' < n - i ∧ m' = n - (i + 1) ∧ i + 1 ≤ n ∧ Pv (i + 1) ys H4
theorem lcN.mk {n i : Nat} {D : Addr} {Pv : Nat → List V → Hp → Prop} {ys : List V} {v : V} {H4 : Hp} (hi : i < n) (hn : n ≤ sizeLine) (hD : H4 D = some (.lst ys)) (hy : ys.length ≤ i) (p : Pv (i + 1) (ys ++ [v]) (upd H4 D (.lst (ys ++ [v])))) : lcN n i D Pv ys v H4 :=
  ⟨hD, by omega, n - (i + 1), by omega, rfl, hi, p⟩
theorem lcS.mk {n i : Nat} {Pv : Nat → List V → Hp → Prop} {ys : List V} {H4 : Hp} (hi : i < n) (p : Pv (i + 1) ys H4) : lcS n i Pv ys H4 := ⟨n - (i + 1), by omega, rfl, hi, p⟩
theorem lc_list {K : PySem.W.Frag} {a : Addr} {xs : List V} {caps : List (Option Nat)} {g : TG} {tt : TT} {te : TE} {σ : St} {H1 : Hp} {Q : VK} {D : Addr} (Pv : Nat → List V → Hp → Prop) (h0 : Pv 0 [] (upd H1 D (.lst [])))
    (hl : ∀ i ys H, Pv i ys H → SqL K H a xs)
    (hs : ∀ i x ys H, i < xs.length → xs[i]? = some x → Pv i ys H → g x (capS caps σ) H fun σ2 H2 => tt σ2 H2 fun ok H3 => (ok = true → te σ2 H3 (lcN xs.length i D Pv ys)) ∧ (ok = false → lcS xs.length i Pv ys H3))
    (hd : ∀ ys H, Pv xs.length ys H → Q (.ref D) H) : LCr (Itl K a) caps g tt te σ H1 Q D := by
  refine ⟨fun i m ys H => m = xs.length - i ∧ i ≤ xs.length ∧ Pv i ys H, ⟨xs.length, by simp, Nat.zero_le _, h0⟩, ?_⟩
  rintro i m ys H ⟨rfl, hi, p⟩
  have q := hl i ys H p
  by_cases hlt : i < xs.length
  · refine .inr ⟨⟨xs, xs[i], q, by simp [hlt]⟩, fun x H' y => ?_⟩
    obtain ⟨e, y⟩ := y
    subst e
    exact hs i x ys _ hlt (y xs q) p
  · have e : i = xs.length := by omega
    subst e
    exact .inl ⟨⟨xs, q, Nat.le_refl _⟩, hd ys H p⟩
theorem same_make0 {H : Hp} {x dx : Addr} {o1 : HO} (hx : H x = none) (hd : H dx = none) : Same H (upd (upd H dx (.own x)) x o1) := fun b u q => by
  rw [upd_ne (ne_of_none q hx), upd_ne (ne_of_none q hd)]
  exact q
theorem same_new {H : Hp} {p : Addr} (h : H p = none) (o : HO) : Same H (upd H p o) := fun b u q => by rw [upd_ne (ne_of_none q h)]; exact q
end L2

set_option Elab.async false
set_option linter.all false
set_option maxRecDepth 100000
set_option maxHeartbeats 4000000
namespace L2
open PySem PySem.Spec PyProof.Rows
/-! ### comprehensions over a range, over enumerate -/
theorem lc_range {lo : Int} {n : Nat} {caps : List (Option Nat)} {g : TG} {tt : TT} {te : TE} {σ : St} {H1 : Hp} {Q : VK} {D : Addr} (Pv : Nat → List V → Hp → Prop) (h0 : Pv 0 [] (upd H1 D (.lst [])))
    (hs : ∀ i ys H, i < n → Pv i ys H → g (.int (lo + i)) (capS caps σ) H fun σ2 H2 => tt σ2 H2 fun ok H3 => (ok = true → te σ2 H3 (lcN n i D Pv ys)) ∧ (ok = false → lcS n i Pv ys H3))
    (hd : ∀ ys H, Pv n ys H → Q (.ref D) H) : LCr (Itr lo n) caps g tt te σ H1 Q D := by
  refine ⟨fun i m ys H => m = n - i ∧ i ≤ n ∧ Pv i ys H, ⟨n, by simp, Nat.zero_le _, h0⟩, ?_⟩
  rintro i m ys H ⟨rfl, hi, p⟩
  by_cases hlt : i < n
  · refine .inr ⟨hlt, fun x H' y => ?_⟩
    obtain ⟨e, y⟩ := y
    subst e y
    exact hs i ys _ hlt p
  · have e : i = n := by omega
    subst e
    exact .inl ⟨Nat.le_refl _, hd ys H p⟩
theorem for_enum {K : PySem.W.Frag} {a : Addr} {xs : List V} {g : TG} {tb : TS} {D : Ends} {σ : St} {H : Hp} (Pv : Nat → St → Hp → Prop) (h0 : Pv 0 σ H) (hl : ∀ i σ H, i ≤ xs.length → Pv i σ H → SqL K H a xs)
    (hs : ∀ i x p σ H, xs[i]? = some x → Pv i σ H → H p = none → g (.ref p) σ (upd H p (.tup [.int i, x])) fun σ2 H2 => tb { D with nx := Pv (i + 1), ct := Pv (i + 1), bk := D.nx } σ2 H2) (hd : ∀ σ H, Pv xs.length σ H → D.nx σ H) :
    ∃ W : Nat → Nat → St → Hp → Prop, (∃ m, W 0 m σ H) ∧ ∀ i m σ H, W i m σ H →
      ((Ite K a).stop i H ∧ D.nx σ H) ∨ ((Ite K a).go i H ∧ ∃ N : St → Hp → Prop, (∀ σ' H', N σ' H' → ∃ m', m' < m ∧ W (i + 1) m' σ' H') ∧ ∀ x H', (Ite K a).yld i H x H' → g x σ H' fun σ2 H2 => tb { D with nx := N, ct := N, bk := D.nx } σ2 H2) := by
  refine ⟨fun i m σ H => m = xs.length - i ∧ i ≤ xs.length ∧ Pv i σ H, ⟨xs.length, by simp, Nat.zero_le _, h0⟩, ?_⟩
  rintro i m σ H ⟨rfl, hi, p⟩
  have q := hl i σ H hi p
  by_cases hlt : i < xs.length
  · refine .inr ⟨⟨xs, xs[i], q, by simp [hlt]⟩, Pv (i + 1), fun σ' H' p' => ⟨xs.length - (i + 1), by omega, rfl, hlt, p'⟩, fun x H' y => ?_⟩
    obtain ⟨pp, y, rfl, hp, y2, rfl⟩ := y
    exact hs i y pp σ H (y2 xs q) p hp
  · have e : i = xs.length := by omega
    subst e
    exact .inl ⟨⟨xs, q, Nat.le_refl _⟩, hd σ H p⟩
/-! ### places within a sequence; fewer bits -/
/-! ### isinstance of a tuple that is read -/
end L2

set_option Elab.async false
set_option linter.all false
set_option maxRecDepth 100000
set_option maxHeartbeats 4000000
namespace L2
open PySem PySem.Spec PyProof.Rows
/-! ### an exception in flight -/
/-- it left a callee: behind it lies the heap s', tracked by H'; the frames at outer still run -/
structure Fly (P : Program) (w : World) (outer : List Env) (H : Hp) (s : Shared) (cls : Value) (H' : Hp) (ea : Addr) (s' : Shared) : Prop where
  os : s'.os = s.os
  bare : AllBare s'.gens
  un : Un (frs outer) [] H H' s.heap s'.heap
  hok : HOk P w H' s'.heap
  nt : H' ea = none
  fly : ∃ B a0, Heap.FlyingW B outer ea cls a0 s'.heap ∧ (∀ b u, H' b = some u → ∃ o, B.get? b = some o) ∧ (∀ b o, s.heap.get? b = some o → H b = none → b ∉ frs outer → B.get? b = some o) ∧
    ∀ b o, s.heap.get? b = some o → b ∉ frs outer → ∃ o', B.get? b = some o'
abbrev CXe (P : Program) (w : World) : CXT := fun outer H s E e s' => ∃ ea cls H', e = .ref ea ∧ Fly P w outer H s cls H' ea s' ∧ E cls none H'
section
variable {X : Cx} {pins : List (Addr × Obj)} {σ : St} {H H' : Hp} {s s' : Shared} {ea : Addr} {cls : Value} {vs : List Value} {h' : Heap} {M : Model} {E : Value → Shared → Prop}
theorem frs_stack (hstk : X.stack = X.env :: X.outer) (hfl : X.env.frame = some X.env.locals) : frs X.stack = X.env.locals :: frs X.outer := by
  rw [hstk]
  unfold frs
  rw [List.filterMap_cons, hfl]
theorem HOk.sameAt {P : Program} {w : World} {h h' : Heap} (x : HOk P w H h) (k : ∀ b u o, H b = some u → h.get? b = some o → h'.get? b = some o) : HOk P w H h' := fun a o e =>
  (x a o e).stay (fun b u hb q => by
    rcases hb with z | z
    · exact k b o u (by rw [z]; exact e) q
    · exact k b _ u z q) (fun _ q => q) fun _ _ q => q
theorem HOk.rec {P : Program} {w : World} {h : Heap} (x : HOk P w H h) {b : Addr} {u : HO} (e : H b = some u) : ∃ o, h.get? b = some o := by
  have q := x b u e
  cases u with
  | lst xs => obtain ⟨_, _, _, _, e⟩ := q; exact ⟨_, e⟩
  | tup xs => obtain ⟨_, _, _, o, e, _⟩ := q; exact ⟨_, e⟩
  | dK kvs => obtain ⟨_, _, _, _, o, _, _, e, _⟩ := q; exact ⟨_, e⟩
  | dT kvs => obtain ⟨_, _, _, _, o, _, _, e, _⟩ := q; exact ⟨_, e⟩
  | set S n => obtain ⟨o, _, _, _, e, _⟩ := q; exact ⟨_, e⟩
  | ins C dx fs => obtain ⟨_, _, _, e, _⟩ := q; exact ⟨_, e⟩
  | own y => exact q
  | xd fs => obtain ⟨_, ⟨o, _, _, e, _⟩, _⟩ := q; exact ⟨_, e⟩
  | rng lo hi => obtain ⟨_, _, _, e⟩ := q; exact ⟨_, e⟩
  | frz ob u => obtain ⟨e, _⟩ := q; exact ⟨_, e⟩
  | tbl ps => exact ⟨_, q⟩
  | met f y => exact ⟨_, q⟩
  | ext φ => exact q.2.1
/-- a new exception leaves the frame -/
theorem fly_made (I : Inv X pins σ H s) (hstk : X.stack = X.env :: X.outer) (hfl : X.env.frame = some X.env.locals) (hex : X.ex = []) (hx : Heap.MadeExcOf s.heap h' ea cls vs) :
    wpAny M X.A (leaving X.env (.ref ea)) (fun _ s'' => Fly X.prog X.w X.outer X.H₀ X.s₀ cls H ea s'') E { s with heap := h' } := by
  have fr := frs_stack hstk hfl
  have fl : s.heap.FunFrames (PySem.W.hideAll s.heap (frs X.stack)) (X.env :: X.outer) := by
    have := I.stack
    rw [hstk] at this
    refine PySem.W.funFrames_hide this fun env he b hb => ?_
    rw [hstk]
    exact List.mem_filterMap.mpr ⟨env, he, hb⟩
  have fr0 := I.ok.frames
  rw [hstk] at fr0
  have neL : ∀ b o, X.s₀.heap.get? b = some o → b ≠ X.env.locals := fun b o e => Nat.ne_of_lt (Nat.lt_of_lt_of_le (Heap.lt_size e) I.ok.above)
  have noEx : ∀ b : Addr, b ∉ X.ex := fun b => by rw [hex]; simp
  have inB : ∀ b o, s.heap.get? b = some o → b ∉ frs X.stack → (PySem.W.hideAll s.heap (frs X.stack)).get? b = some o := fun b o e n => PySem.W.hideAll_get _ e n
  have trB : ∀ b u, H b = some u → b ∉ frs X.stack := fun b u e n => by rw [I.stkFree b n] at e; cases e
  refine wpAny_leaves_madeW (base := PySem.W.hideAll s.heap (frs X.stack)) fr0 hfl (fun b o q => PySem.W.of_hideAll _ q) fl hx fun h2 t x1 x2 x3 x4 => ?_
  have stay : ∀ b o, s.heap.get? b = some o → b ∉ frs X.stack → h2.get? b = some o := fun b o e n => x1.1 b o (inB b o e n)
  have up : ∀ b o, s.heap.get? b = some o → (∀ vs, o.data ≠ .fields vs) → ∃ sl, h2.get? b = some { o with slots := sl } := fun b o e n => x4 b o (hx.keeps b o e) n
  refine ⟨I.os, I.bare, ⟨fun b o e n hb _ => ?_, fun b o e n hb _ => ?_, fun b o e n _ => I.base.free b o e n (noEx b), fun b o e _ => ?_, I.base.tups, I.base.frzs, I.base.tbls⟩, I.hok.sameAt fun b u o e q => stay b o q (trB b u e), ?_, ?_⟩
  · refine stay b o (I.base.keep b o e n hb (noEx b)) ?_
    rw [fr]
    exact fun z => (List.mem_cons.mp z).elim (neL b o e) hb
  · obtain ⟨sl, e1⟩ := I.base.slot b o e n hb (noEx b)
    obtain ⟨_, o', ho', hd⟩ := I.funs.mem hb
    rw [e1] at ho'
    cases ho'
    obtain ⟨sl2, e2⟩ := up b _ e1 hd
    exact ⟨sl2, e2⟩
  · obtain ⟨o1, e1⟩ := I.base.there b o e (noEx b)
    by_cases hb : b ∈ frs X.stack
    · obtain ⟨_, o', ho', hd⟩ := I.stack.mem hb
      obtain ⟨sl2, e2⟩ := up b o' ho' hd
      exact ⟨_, e2⟩
    · exact ⟨o1, stay b o1 e1 hb⟩
  · cases q : H ea with
    | none => rfl
    | some u =>
      obtain ⟨o, e⟩ := I.hok.rec q
      rw [hx.new] at e; cases e
  · refine ⟨_, _, x1, fun b u e => ?_, fun b o e n hb => ?_, fun b o e hb => ?_⟩
    · obtain ⟨o, q⟩ := I.hok.rec e
      exact ⟨o, inB b o q (trB b u e)⟩
    · refine inB b o (I.base.keep b o e n hb (noEx b)) ?_
      rw [fr]
      exact fun z => (List.mem_cons.mp z).elim (neL b o e) hb
    · obtain ⟨o1, e1⟩ := I.base.there b o e (noEx b)
      refine ⟨o1, inB b o1 e1 ?_⟩
      rw [fr]
      exact fun z => (List.mem_cons.mp z).elim (neL b o e) hb
/-- an exception of a callee leaves the frame -/
theorem fly_on (I : Inv X pins σ H s) (hstk : X.stack = X.env :: X.outer) (hfl : X.env.frame = some X.env.locals) (hex : X.ex = []) (F : Fly X.prog X.w X.stack H s cls H' ea s') :
    wpAny M X.A (leaving X.env (.ref ea)) (fun _ s'' => Fly X.prog X.w X.outer X.H₀ X.s₀ cls H' ea s'') E s' := by
  have fr := frs_stack hstk hfl
  have fr0 := I.ok.frames
  rw [hstk] at fr0
  obtain ⟨B, a0, fl, tr, old, olds⟩ := F.fly
  have neL : ∀ b o, X.s₀.heap.get? b = some o → b ≠ X.env.locals := fun b o e => Nat.ne_of_lt (Nat.lt_of_lt_of_le (Heap.lt_size e) I.ok.above)
  have noEx : ∀ b : Addr, b ∉ X.ex := fun b => by rw [hex]; simp
  have nst : ∀ b o, X.s₀.heap.get? b = some o → b ∉ frs X.outer → b ∉ frs X.stack := fun b o e hb => by
    rw [fr]
    exact fun z => (List.mem_cons.mp z).elim (neL b o e) hb
  have fl' := fl
  rw [hstk] at fl'
  refine wpAny_leaves_onW fr0 hfl fl' fun h2 x1 x2 => ?_
  have oldB : ∀ b o, X.s₀.heap.get? b = some o → X.H₀ b = none → b ∉ frs X.outer → B.get? b = some o := fun b o e n hb =>
    old b o (I.base.keep b o e n hb (noEx b)) (I.base.free b o e n (noEx b)) (nst b o e hb)
  refine ⟨F.os.trans I.os, F.bare, ⟨fun b o e n hb _ => x1.1 b o (oldB b o e n hb), fun b o e n hb _ => ?_, fun b o e n _ => ?_, fun b o e _ => ?_, fun b xs e => F.un.tups b xs (I.base.tups b xs e), fun b o u e => F.un.frzs b o u (I.base.frzs b o u e), fun b ps e => ?_⟩, F.hok.sameAt fun b u o e q => ?_, F.nt, ⟨B, a0, x1, tr, oldB, fun b o e hb => ?_⟩⟩
  · obtain ⟨sl, e1⟩ := I.base.slot b o e n hb (noEx b)
    obtain ⟨sl1, e2⟩ := F.un.any e1 (I.base.free b o e n (noEx b)) (by simp)
    have hd : ∀ vs, o.data ≠ .fields vs := by
      obtain ⟨_, o', ho', hd⟩ := I.funs.mem hb
      rw [e1] at ho'
      cases ho'
      exact hd
    obtain ⟨sl2, e3⟩ := x2 b _ e2 hd
    exact ⟨sl2, e3⟩
  · obtain ⟨o', e1⟩ := I.base.there b o e (noEx b)
    exact F.un.free b o' e1 (I.base.free b o e n (noEx b)) (by simp)
  · obtain ⟨o1, e1⟩ := I.base.there b o e (noEx b)
    obtain ⟨o2, e2⟩ := F.un.there b o1 e1 (by simp)
    by_cases hb : b ∈ frs X.stack
    · obtain ⟨_, o', ho', hd⟩ := fl.2.2.1.mem hb
      obtain ⟨sl2, e3⟩ := x2 b o' ho' hd
      exact ⟨_, e3⟩
    · obtain ⟨o3, e3⟩ := olds b o1 e1 hb
      exact ⟨o3, x1.1 b o3 e3⟩
  · obtain ⟨m1, e1⟩ := I.base.tbls b ps e
    obtain ⟨m2, e2⟩ := F.un.tbls b _ e1
    exact ⟨m1 ++ m2, by rw [e2, Array.append_assoc]⟩
  · obtain ⟨o3, e3⟩ := tr b u e
    have e4 := fl.1 b o3 e3
    rw [q] at e4
    cases e4
    exact x1.1 b o e3
  · obtain ⟨o1, e1⟩ := I.base.there b o e (noEx b)
    exact olds b o1 e1 (nst b o e hb)
end
end L2

set_option Elab.async false
set_option linter.all false
set_option maxRecDepth 100000
set_option maxHeartbeats 4000000
namespace L2
open PySem PySem.Spec PyProof.Rows
/-! ### raise C(..) -/
/-- what is wanted of a new exception that this code raises -/
def Raises (X : Cx) (E : XK) : Prop := ∀ (pins : List (Addr × Obj)) (σ : St) (H : Hp) (s : Shared) (ea : Addr) (cls : Value) (vs : List Value) (h' : Heap), Inv X pins σ H s → Heap.MadeExcOf s.heap h' ea cls vs → E cls none H → X.xe (.ref ea) { s with heap := h' }
def tRaise (C : Addr) (E : XK) (t : TA) : TS := fun _ σ H => t σ H fun vs H1 => vs.length ≤ sizeLine ∧ E (.ref C) none H1
section
variable {X : Cx} {E : XK} {x : Str} {C : Addr} {B Bn newId nid initId inN : String} {bm bmN : List Value} {np cpos pos : Pos} {e : Expr} {es : List Expr} {t : TA}
theorem ps_raise (hX : Raises X E) (O : OwnCls x C bm newId X.mg X.base) (Fn : ExcBaseFacts Bn newId inN bmN) (hBn : bm.contains (.type Bn) = true) (FB : ExcBaseFacts B nid initId bm) (hc : X.calm = true) (ha : PA X (e :: es) t)
    (hg : Gl X x := by rfl) (hd : (x == ("__debug__" : Str)) = false := by decide) (h1 : isSt e = false := by rfl) (h2 : es.any isSt = false := by rfl) :
    PS X (.Raise (some (.Call (.Name x np) (e :: es) [] cpos)) none pos) (tRaise C E t) := by
  refine ⟨?_⟩
  intro pins s σ H D I h
  obtain ⟨tl, N, nm, q, bs, hdct, sn, sub, ab, col, dd, k0, k1, k2, k3, k5, mN, hC, hN, hni, T⟩ := O.obj
  have hst : starEach (e :: es) X.env = (false, eval e X.env) :: starEach es X.env := star_cons h1
  refine wpAny_Raise_call_subU (C := C) (nm := nm) (q := q) (N := N) (bs := bs) (bm := tl) (hdct := hdct) (sn := sn) (sub := sub) (ab := ab) (col := col) (dd := dd) (k0 := k0) (k1 := k1) (k2 := k2) (k3 := k3) (k5 := k5)
    Fn hBn FB (mN := mN) (T.hasType FB.hasBase) (I.ok.hd hc) (by rw [hst]; show (false || (backTo cpos (starEach es X.env)).any (·.1)) = false; rw [star_any h2]; rfl) hni (ld_glob I hg O.bound ⟨rfl, ?_⟩ hd)
  rw [hst]
  refine Calls.evalArgs_plain ?_
  have hA := ha cpos pins s σ H _ I h
  rw [hst] at hA
  refine thn hA fun us s2 ⟨vs, H1, I1, r, hl, q1⟩ => ⟨rfl, by rw [← r.length]; exact hl, I1.bk _ _ hC, hN.keeps I1.bk, T.keeps I1.bk, fun h' ea hm => ?_⟩
  exact hX pins σ H1 s2 ea _ _ h' I1 hm q1
end
/-! ### a def that may raise -/
section
variable {P : Program} {w : World} {K : PySem.W.Frag} {mg : Str → Option Value} {base : Heap} {N : List Str} {qual : Str} {scope : Scope} {f : Addr} {cd : Value} {A : Around} {outer : List Env} {s : Shared} {H : Hp} {E E' : XK}
theorem raises_cx : Raises (cxOf (CXe P w) P w K mg base N qual scope f cd A outer s H E) E := fun pins σ H1 s1 ea cls vs h' I hm q => by
  refine wpAny_mono (fly_made I rfl rfl rfl hm) (fun _ s2 F => ?_) fun _ _ z => z
  exact ⟨ea, cls, H1, rfl, F, q⟩
theorem passE (hE : ∀ c d H, E' c d H → E c d H) : Passes (CXe P w) (cxOf (CXe P w) P w K mg base N qual scope f cd A outer s H E) E' := fun pins σ H1 s1 e s' I q => by
  obtain ⟨ea, cls, H', rfl, F, q⟩ := q
  refine wpAny_mono (fly_on I rfl rfl rfl F) (fun _ s2 F2 => ?_) fun _ _ z => z
  exact ⟨ea, cls, H', rfl, F2, hE _ _ _ q⟩
theorem Fun.okE {x : Str} {st : Stmt} {fd : FuncData} {ps : List Str} {k : Nat} {sp : Sp} (F : Fun K x qual st f fd) (S : FnScope N ps (defScope st)) (len : ∀ vs H Q E, sp vs H Q E → vs.length = ps.length)
    (hbody : ∀ (cdv : Value) (A : Around) (outer : List Env) (s : Shared) (H : Hp) (vs : List V) (Q : VK) (E : XK), Room k (A.deeper (envOfC qual (defScope st) s.heap.objs.size f cdv)) → sp vs H Q E →
      ∃ t, PSs (cxOf (CXe P w) P w K mg base N qual (defScope st) f cdv A outer s H E) (defBody st) t ∧ t { nx := fun _ H' => Q .non H', rt := Q } (start N vs) H) : FnOk P w K mg base (CXe P w) (k + 1) f fd ps sp := by
  obtain ⟨oc, od, kV, doc, pm, an, cdv, ct, osl, rfl, lk, hcd⟩ := F.ex
  exact fn_of lk hcd S len fun A outer s H vs Q E hr hsp => hbody cdv A outer s H vs Q E hr hsp
end
section
variable {X : Cx} {k : Nat} {f : Addr} {fd : FuncData} {ps : List Str} {sp : Sp} {E : XK} {x : Str} {p pos : Pos} {e : Expr} {es : List Expr} {t : TA}
end
end L2

set_option Elab.async false
set_option linter.all false
set_option maxRecDepth 100000
set_option maxHeartbeats 4000000
namespace L2
open PySem PySem.Spec PyProof.Rows
/-! ### an exception that is caught -/
def ExcAt (ea : Addr) (cls : Value) (h : Heap) : Prop := ∃ oe vs, h.get? ea = some oe ∧ oe.cls = cls ∧ oe.data = .fields vs
section
variable {X : Cx} {pins : List (Addr × Obj)} {σ : St} {H H' : Hp} {s s' : Shared} {ea a : Addr} {cls : Value} {o : HO} {h5 : Heap}
/-- an untracked thing is tracked from now on -/
theorem Inv.track (I : Inv X pins σ H s) (hn : H a = none) (new : ObjOk X.prog X.w (upd H a o) s.heap a o) (h0 : ∀ u, X.s₀.heap.get? a = some u → X.H₀ a = none → a ∉ X.ex → False) (hL : X.env.locals ≠ a)
    (hc : ∀ x c, X.env.cells.lookup x = some c → c ≠ a) (hp : ∀ p ∈ X.pn ++ pins, p.1 ≠ a) : Inv X pins σ (upd H a o) s := by
  refine ⟨I.ok, I.os, I.bare, ⟨I.base.keep, I.base.slot, fun b u e n x => ?_, I.base.there, fun b xs e => ?_, fun b u v e => ?_, fun b ps e => ?_⟩, I.loc, I.cell, ?_, fun x c e => ?_, fun p hp' => ?_, fun b u e => ?_, I.len⟩
  · have hb : b ≠ a := fun z => by subst z; exact h0 u e n x
    rw [upd_ne hb]
    exact I.base.free b u e n x
  · have e1 := I.base.tups b xs e
    rw [upd_ne (ne_of_none e1 hn)]; exact e1
  · have e1 := I.base.frzs b u v e
    rw [upd_ne (ne_of_none e1 hn)]; exact e1
  · obtain ⟨more, e1⟩ := I.base.tbls b ps e
    exact ⟨more, by rw [upd_ne (ne_of_none e1 hn)]; exact e1⟩
  · rw [upd_ne hL]; exact I.free
  · rw [upd_ne (hc x c e)]; exact I.freeC x c e
  · obtain ⟨q1, q2, q3⟩ := I.pin p hp'
    exact ⟨q1, by rw [upd_ne (hp p hp')]; exact q2, q3⟩
  · by_cases hb : b = a
    · subst hb; rw [upd_same] at e; cases e; exact new
    · rw [upd_ne hb] at e
      exact (I.hok b u e).stay (fun _ _ _ q => q) (fun c q => by rw [upd_ne (ne_of_none q hn)]; exact q) fun c xs q => by rw [upd_ne (ne_of_none q hn)]; exact q
end
end L2

set_option Elab.async false
set_option linter.all false
set_option maxRecDepth 100000
set_option maxHeartbeats 4000000
namespace L2
open PySem PySem.Spec PyProof.Rows
section
variable {X : Cx} {pins : List (Addr × Obj)} {σ : St} {H : Hp} {s : Shared} {M : Model} {A : Around} {E : Value → Shared → Prop} {i : Nat} {n : Str} {pos : Pos}
end
/-! ### code that may raise, at known values of the names -/
structure PE1 (X : Cx) (pins : List (Addr × Obj)) (σ : St) (e : Expr) (t : TE) : Prop where
  run : ∀ (s : Shared) (H : Hp) (Q : VK), Inv X pins σ H s → t σ H Q → wpAny (model X.prog X.w) X.A (eval e X.env) (EP X pins σ Q) X.xe s
structure PS1 (X : Cx) (pins : List (Addr × Obj)) (σ : St) (st : Stmt) (t : TS) : Prop where
  run : ∀ (s : Shared) (H : Hp) (D : Ends), Inv X pins σ H s → t D σ H → wpAny (model X.prog X.w) X.A (exec st X.env) (SP X pins D) X.xe s
section
variable {X : Cx} {pins : List (Addr × Obj)} {σ : St} {e : Expr} {es : List Expr} {te ta : TE} {t tr : TA} {E : XK} {x m : Str} {p pos apos : Pos} {k : Nat} {f C : Addr} {fd : FuncData} {ps : List Str} {sp : Sp} {o : Expr} {dvs : List V} {ds : List Value}
end
/-! ### try: one statement; except C as n: suite -/
abbrev Cx.suite (X : Cx) (ea : Addr) : Cx := { X with A := X.A.mark (some (.ref ea)), calm := false, xe := fun _ _ => False }
section
variable {X : Cx} {pins : List (Addr × Obj)} {σ : St} {H : Hp} {s : Shared} {ea : Addr}
theorem Inv.suite (I : Inv X pins σ H s) (ea : Addr) : Inv (X.suite ea) pins σ H s :=
  ⟨⟨I.ok.mod, I.ok.kind, I.ok.glob, I.ok.blt, I.ok.above, I.ok.inj, I.ok.has, I.ok.cab, (fun z => Bool.noConfusion z), I.ok.frames, I.ok.stk, I.ok.exf, I.ok.bs, I.ok.bsz, I.ok.noex, I.ok.exfs, I.ok.funs, I.ok.frf⟩, I.os, I.bare, I.base, I.loc, I.cell, I.free, I.freeC, I.pin, I.hok, I.len⟩
theorem Inv.unsuite (hok : X.Ok) (I : Inv (X.suite ea) pins σ H s) : Inv X pins σ H s :=
  ⟨hok, I.os, I.bare, I.base, I.loc, I.cell, I.free, I.freeC, I.pin, I.hok, I.len⟩
/-- behind the suite the name is gone -/
def endsN (D : Ends) (i : Nat) : Ends := { nx := fun σ H => D.nx (σ.set i none) H, rt := D.rt, bk := fun σ H => D.bk (σ.set i none) H, ct := fun σ H => D.ct (σ.set i none) H }
/-- what becomes of an exception within a try -/
abbrev tryXe (X : Cx) (pins : List (Addr × Obj)) (D : Ends) (hs : List ExceptHandler) : Value → Shared → Prop := fun e s₁ =>
  wpAny (model X.prog X.w) X.A (noteFrame e X.env) (fun _ s₂ => wpAny (model X.prog X.w) X.A (setFlight e none) (fun _ s₃ => wpAny (model X.prog X.w) X.A (handleBy e X.env hs) (SP X pins D) X.xe s₃) X.xe s₂) X.xe s₁
variable {st b₀ : Stmt} {suite : List Stmt} {c n : Str} {np hpos pos : Pos} {C : Addr} {i : Nat} {tb : XK → TS} {ts : TS} {ok : Value → Prop}
end
end L2

set_option Elab.async false
set_option linter.all false
set_option maxRecDepth 100000
set_option maxHeartbeats 4000000
namespace L2
open PySem PySem.W PySem.Builtin PySem.Builtin.ObjectAttr PySem.Builtin.Getset_descriptor PySem.Spec PyProof.Rows
/-! ### isinstance of an exception -/
structure ExcCls (K : PySem.W.Frag) (D : Addr) : Prop where
  cd : (clsIn K D).isSome = true
  ga : findIn K (.ref D) "__getattribute__" = some (some (.builtin "BaseException.__getattribute__"))
  no : findIn K (.ref D) "__getattr__" = some none
  cl : findIn K (.ref D) "__class__" = some (some (.builtin "object.__class__"))
  gt : specialIn K (.builtin "object.__class__") "__get__" = some (some (.builtin "getset_descriptor.__get__"))
  tk : takesIn K (.builtin "object.__class__") = some true
  be : mroIn K D (.type "BaseException") = some true
  ob : mroIn K D (.type "object") = some true
section
variable {prog : Program} {w : World} {A : Around} {E : Value → Shared → Prop} {s : Shared} {K : PySem.W.Frag} {x D : Addr}
theorem ExcAt.ty {M : Model} {h : Heap} (e : ExcAt x (.ref D) h) : Looks M h (typeOf (.ref x)) (.ref D) := by
  obtain ⟨oe, vs, h1, h2, h3⟩ := e
  exact h2 ▸ (Looks.ld h1).andThen .now
theorem exc_get {R : Result → Shared → Prop} {tp : Value} (c : ExcCls K D) (X : K.In s.heap) (e : ExcAt x (.ref D) s.heap) (h : R (.ok (.ret (.ref D))) s) :
    codeAny (model prog w) A (.call (.builtin "getset_descriptor.__get__") ⟨[.builtin "object.__class__", .ref x, tp], []⟩) R s := by
  obtain ⟨hh, g, dr, t, os⟩ := s
  have LT := e.ty (M := model prog w)
  have LM := looks_mroIn (M := model prog w) X c.ob
  refine codeAny_call_builtin KF.slot_gs.plain KF.entry_gs ?_
  refine KF.slot_gs.check _ _ _ _ _ _ _ _ KF.type_class (KF.args_gs _ _ _) ?_
  unfold Builtin.«getset_descriptor.__get__»
  unfold descrGet
  rw [dga_obj (.builtin "object.__class__") tp x]
  refine wpAny_bind (wpAny_pure ?_)
  unfold descrGetter
  unfold descrCheckInstance descrNameAndClass
  unfold isInstance
  simp only [KF.owner_class]
  repeat lk
  refine ⟨Code.quiet_builtin _ (by decide +kernel), ?_⟩
  refine codeAny_builtin KF.entry_class ?_
  unfold Builtin.«object.__class__»
  unfold shownTypeOf
  repeat lk
  exact h
theorem exc_class {Q : Option Value → Shared → Prop} (c : ExcCls K D) (X : K.In s.heap) (e : ExcAt x (.ref D) s.heap) (h : Q (some (.ref D)) { s with toks := s.toks + 1 }) : wpAny (model prog w) A (getAttr? (.ref x) "__class__") Q E s := by
  obtain ⟨hh, g, dr, t, os⟩ := s
  have LT := e.ty (M := model prog w)
  have LG := looks_findIn (M := model prog w) X c.ga
  have LN := looks_findIn (M := model prog w) X c.no
  have LC := looks_findIn (M := model prog w) X c.cl
  have LB := looks_mroIn (M := model prog w) X c.be
  have L2 := looks_specialIn (M := model prog w) X c.gt
  have L3 := looks_takesIn (M := model prog w) X c.tk
  unfold getAttr?
  unfold getAttrBy? getAttrBy
  refine wpAny_bind (wpAny_mkText (wpAny_bind (wpAny_attempt ?_)))
  refine wpAny_holding (wpAny_bind (LT.at (wpAny_bind (LG.at ?_))))
  have hne : (onTheHeap (Value.ref D) && Value.builtin "BaseException.__getattribute__" == Value.builtin "object.__getattribute__") = false := by
    rw [show (Value.builtin "BaseException.__getattribute__" == Value.builtin "object.__getattribute__") = false from by decide +kernel, Bool.and_false]
  dsimp only
  rw [hne]
  rw [if_neg Bool.false_ne_true]
  unfold getAttrByItsOwn hookBefore
  rw [if_pos (show onTheHeap (Value.ref D) = true from rfl)]
  refine wpAny_bind (LN.at (wpAny_bind (wpAny_attempt (wpAny_holding ?_))))
  unfold callGetattribute boundAndCalled
  rw [if_neg (by simp)]
  have fb := PySem.F.attrBase_ValueError.ga
  rw [fb.bind (.ref x)]
  refine wpAny_bind (wpAny_pure ?_)
  refine wpAny_call (codeAny_call_builtin fb.plain F.entry_bexc_ga ?_)
  have ck : ∀ (Q' : Unit → Shared → Prop) (E' : Value → Shared → Prop) (A' : Around), Q' () ⟨hh, g, dr, t + 1, os⟩ → wpAny (model prog w) A' (checkBuiltinCall "BaseException.__getattribute__" ⟨[.ref x, .str "__class__" t], []⟩) Q' E' ⟨hh, g, dr, t + 1, os⟩ := by
    intro Q' E' A' q'
    have k1 : builtinKind "BaseException.__getattribute__" = some .slot := by decide +kernel
    have k2 : splitId "BaseException.__getattribute__" = some ("BaseException", "__getattribute__") := by decide +kernel
    have k3 := F.args_bexc_ga (.ref x) (.str "__class__" t)
    simp only [checkBuiltinCall, k1, k2]
    refine wpAny_bind ?_
    unfold isInstance
    repeat (first | lk | wp_step)
    exact q'
  refine ck _ _ _ ?_
  unfold Builtin.«object.__getattribute__»
  unfold find getOf dataDescriptor?
  repeat (first | lk | wp_step)
  refine wpAny_run (exc_get (s := ⟨hh, g, dr, t + 1, os⟩) c X e ?_)
  refine wpAny_pure (wpAny_pure ?_)
  show wpAny _ _ (handedOut (Value.ref D)) _ _ _
  rw [handedOut_of (show handedIn (Value.ref D) = true from rfl)]
  exact wpAny_pure (wpAny_pure h)
theorem kitx_exc (c : ExcCls K D) : KitX K (.ref x) (.ref D) (ExcAt x (.ref D)) where
  ty := fun _ _ _ e => e.ty
  it := fun _ _ X _ => by
    obtain ⟨cd, hc⟩ := Option.isSome_iff_exists.mp c.cd
    unfold clsIn at hc
    split at hc
    · rename_i c' d' cd' sl' ho
      intro A' Q' E' s' k q
      unfold isType
      unfold loadHead
      exact wpAny_bind (wpAny_loadPart (k _ _ (X _ _ ho)) (wpAny_pure q))
    · cases hc
  ne := fun h tp dd its n sl X htp => by
    obtain ⟨cd, hc⟩ := Option.isSome_iff_exists.mp c.cd
    refine Bool.eq_false_iff.mpr fun q => ?_
    have z : D = tp := Value.ref.inj (beq_iff_eq.mp q)
    subst z
    unfold clsIn at hc
    split at hc
    · rename_i c' d' cd' sl' ho
      have w := (X _ _ ho).symm.trans htp
      cases w
    · cases hc
  ca := fun X e k => exc_class c X e k
end
end L2

set_option Elab.async false
set_option linter.all false
set_option maxRecDepth 100000
set_option maxHeartbeats 4000000
namespace L2
open PySem PySem.Spec PyProof.Rows
section
variable {X : Cx}
end
/-! ### defs that are called within an except suite -/
structure RoomM (k : Nat) (A : Around) : Prop where
  dp : A.depth + 3 * k + 5 < recursionLimit
  un : A.units + 16 * k + 200 < cLine
theorem Room.m {k : Nat} {A : Around} (r : Room k A) : RoomM k A := ⟨r.dp, r.un⟩
theorem RoomM.mark {k : Nat} {A : Around} (r : RoomM k A) (h : Option Value) : RoomM k (A.mark h) := ⟨r.dp, r.un⟩
theorem RoomM.deeper {k : Nat} {A : Around} (r : RoomM (k + 1) A) (env : Env) : RoomM k (A.deeper env) :=
  ⟨by have := r.dp; show A.depth + 1 + 3 * k + 5 < _; omega, by have := r.un; show A.units + 3 + 16 * k + 200 < _; omega⟩
theorem RoomM.depth {k : Nat} {A : Around} (r : RoomM k A) : A.depth < recursionLimit := by have := r.dp; omega
structure FnOkM (P : Program) (w : World) (K : PySem.W.Frag) (mg : Str → Option Value) (base : Heap) (k : Nat) (f : Addr) (fd : FuncData) (ps : List Str) (sp : Sp) : Prop where
  len : ∀ vs H Q E, sp vs H Q E → vs.length = ps.length
  run : ∀ (A : Around) (outer : List Env) (s : Shared) (H : Hp) (args : Args) (us : List Value) (vs : List V) (Q : VK), RoomM k A → Env0 P w K mg base A outer s H → BindsTo s fd args (ps.zip us) → Vals vs us → sp vs H Q E0 →
    codeAny (model P w) A (.call (.ref f) args) (CR CX0 outer P w H s Q E0) s
abbrev cxOfM (P : Program) (w : World) (K : PySem.W.Frag) (mg : Str → Option Value) (base : Heap) (N : List Str) (qual : Str) (scope : Scope) (f : Addr) (cd : Value) (A : Around) (outer : List Env) (s : Shared) (H : Hp) : Cx :=
  { cxOf CX0 P w K mg base N qual scope f cd A outer s H E0 with calm := false, xe := fun _ _ => False }
section
variable {P : Program} {w : World} {K : PySem.W.Frag} {mg : Str → Option Value} {base : Heap}
theorem inv_startM {N ps : List Str} {qual : Str} {scope : Scope} {f : Addr} {cd : Value} {A : Around} {outer : List Env} {s s1 : Shared} {H : Hp} {us : List Value} {vs : List V}
    (S : FnScope N ps scope) (e0 : Env0 P w K mg base A outer s H) (hl : vs.length = ps.length) (r : Vals vs us)
    (x : InCallC s s.heap.objs.size (bindL (envOfC qual scope s.heap.objs.size f cd).kindOf (ps.zip us) fun _ => none) (cellsFrom (s.heap.objs.size + 1) scope.names []) (bindC (envOfC qual scope s.heap.objs.size f cd).kindOf (ps.zip us) fun _ => none) s1) :
    Inv (cxOfM P w K mg base N qual scope f cd A outer s H) [] (start N vs) H s1 := by
  have e1 : Env0 P w K mg base { A with handled := none } outer s H := ⟨e0.frames, e0.mod, e0.bs, e0.bsz, e0.funs, e0.frf, e0.hok, e0.bare⟩
  have I : Inv (cxOf CX0 P w K mg base N qual scope f cd { A with handled := none } outer s H E0) [] (start N vs) H s1 := inv_start S rfl e1 hl r x
  exact ⟨⟨I.ok.mod, I.ok.kind, I.ok.glob, I.ok.blt, I.ok.above, I.ok.inj, I.ok.has, I.ok.cab, (fun z => Bool.noConfusion z), Around.frames_deeper e0.frames, I.ok.stk, I.ok.exf, I.ok.bs, I.ok.bsz, I.ok.noex, I.ok.exfs, I.ok.funs, I.ok.frf⟩, I.os, I.bare, I.base, I.loc, I.cell, I.free, I.freeC, I.pin, I.hok, I.len⟩
theorem Fun.okM {x qual : Str} {st : Stmt} {f : Addr} {fd : FuncData} {N ps : List Str} {k : Nat} {sp : Sp} (F : Fun K x qual st f fd) (S : FnScope N ps (defScope st)) (len : ∀ vs H Q E, sp vs H Q E → vs.length = ps.length)
    (hbody : ∀ (cdv : Value) (A : Around) (outer : List Env) (s : Shared) (H : Hp) (vs : List V) (Q : VK), RoomM k (A.deeper (envOfC qual (defScope st) s.heap.objs.size f cdv)) → sp vs H Q E0 →
      ∃ t, PSs (cxOfM P w K mg base N qual (defScope st) f cdv A outer s H) (defBody st) t ∧ t { nx := fun _ H' => Q .non H', rt := Q } (start N vs) H) : FnOkM P w K mg base (k + 1) f fd ps sp := by
  obtain ⟨oc, od, kV, doc, pm, an, cdv, ct, osl, rfl, lk, hcd⟩ := F.ex
  refine ⟨len, fun A outer s H args us vs Q hr e0 hb r hsp => ?_⟩
  have hl := len _ _ _ _ hsp
  have KX : K.In s.heap := e0.mod.kin.keeps fun b o e => (e0.bs b o e).1
  have lim : s.heap.NoLimit := e0.mod.nolimit.keeps fun b o e => (e0.bs b o e).1
  have hkind : ∀ y ∈ ps.zip us, (defScope st).names.lookup y.1 = some .local ∨ ((defScope st).names.lookup y.1 = some .cell ∧ ((cellsFrom (s.heap.objs.size + 1) (defScope st).names []).lookup y.1).isSome = true) := fun ⟨n, v⟩ hy => by
    rcases S.par n (List.of_mem_zip hy).1 with q | q
    · exact .inl q
    · exact .inr ⟨q, PySem.W.cellsFrom_some _ _ _ (.inl q)⟩
  refine codeAny_call_function hr.depth (KX _ _ lk) rfl S.co S.gen rfl (PySem.W.codeRec_of KX hcd) (hb _ _ _ _ ?_)
  refine wpAny_newFunctionEnv_cells S.kind hkind fun env he s1 x => ?_
  subst he
  refine ⟨lim.keeps x.toInCall.keep, codeAny_func ?_⟩
  obtain ⟨t, ht, hq⟩ := hbody cdv A outer s H vs Q (hr.deeper _) hsp
  have I : Inv (cxOfM P w K mg base N qual (defScope st) f cdv A outer s H) [] (start N vs) H s1 := inv_startM S e0 hl r x
  refine wpAny_mono (ht [] s1 (start N vs) H _ I hq) (fun fl s' hs => ?_) fun e s' hs => hs.elim
  have fin : ∀ {σ' : St} {H' : Hp} {v : V} {u : Value}, Inv (cxOfM P w K mg base N qual (defScope st) f cdv A outer s H) [] σ' H' s' → RelV v u → Q v H' → CE outer P w H s Q u s' :=
    fun {σ' H' v u} J rv q => ⟨v, H', J.os, J.bare, J.base, J.hok, rv, q⟩
  cases fl with
  | ret u =>
    obtain ⟨v, σ', H', J, rv, q⟩ := hs
    exact fin J rv q
  | next =>
    obtain ⟨σ', H', J, q⟩ := hs
    exact fin (v := V.non) (u := Value.none) J rfl q
  | brk =>
    obtain ⟨_, _, _, q⟩ := hs
    exact False.elim q
  | cont =>
    obtain ⟨_, _, _, q⟩ := hs
    exact False.elim q
end
structure CalleeM (P : Program) (w : World) (K : PySem.W.Frag) (mg : Str → Option Value) (base : Heap) (k : Nat) (x : Str) (f : Addr) (fd : FuncData) (ps : List Str) (sp : Sp) : Prop where
  ok : FnOkM P w K mg base k f fd ps sp
  mg : mg x = some (.ref f)
  kp : PySem.W.keepIn K (.ref f) = true
  bd : Binds K fd ps []
section
variable {X : Cx} {k : Nat} {f : Addr} {fd : FuncData} {ps : List Str} {sp : Sp} {x : Str} {p pos : Pos} {e : Expr} {es : List Expr} {t : TA}
theorem cM (c : CalleeM X.prog X.w X.K X.mg X.base k x f fd ps sp) (hr : RoomM k X.A) (ha : PA X (e :: es) t) (hg : Gl X x := by rfl) (hdb : (x == ("__debug__" : Str)) = false := by decide)
    (h1 : isSt e = false := by rfl) (h2 : es.any isSt = false := by rfl) : PE X (.Call (.Name x p) (e :: es) [] pos) (tCall sp [] E0 t) := by
  refine ⟨?_⟩
  intro pins s σ H Q I h
  refine wpAny_Call_Name_kw (ld_glob I hg c.mg ?_ hdb)
  refine PySem.W.callWith_K (h₀ := X.base) I.ok.mod.kin c.kp (thn (ha pos pins s σ H _ I h) fun us s1 ⟨vs, H1, I1, r, q⟩ => ⟨I1.kIn, ?_⟩) (star_cons h1) (star_any h2)
  have r2 : Vals (vs ++ []) (us ++ []) := r.append .nil
  have hl : (us ++ []).length = ps.length := by rw [← r2.length]; exact c.ok.len _ _ _ _ q
  refine wpAny_call (codeAny_mono (c.ok.run X.A X.stack s1 H1 ⟨us, []⟩ (us ++ []) (vs ++ []) Q hr I1.env0 (c.bd s1 us I1.kIn hl) r2 q) fun r s' hq => ?_)
  cases r with
  | error e => exact False.elim hq
  | ok fl =>
    cases fl with
    | ret u => exact I1.after hq
    | next => exact False.elim hq
    | brk => exact False.elim hq
    | cont => exact False.elim hq
end
end L2

set_option Elab.async false
set_option linter.all false
set_option maxRecDepth 100000
set_option maxHeartbeats 4000000
namespace L2
open PySem PySem.Spec PyProof.Rows
/-! ### reversed(range(n)) -/
section
variable {prog : Program} {w : World} {A : Around} {E : Value → Shared → Prop} {s : Shared} {r : Addr} {n : Int} {t u v : Tok}
end
section
variable {X : Cx} {tg : Expr}
end
end L2

set_option Elab.async false
set_option linter.all false
set_option maxRecDepth 100000
set_option maxHeartbeats 4000000
namespace L2
open PySem PySem.Spec PyProof.Rows
section
variable {X : Cx} {o i : Expr} {to ti : TE} {pos tpos : Pos}
/-! ### del xs[i] -/
/-! ### == of two lists that are not of one length -/
end
end L2

set_option Elab.async false
set_option linter.all false
set_option maxRecDepth 100000
set_option maxHeartbeats 4000000
namespace L2
open PySem PySem.Spec PyProof.Rows
section
variable {X : Cx} {pins : List (Addr × Obj)} {σ : St} {e : Expr} {te : TE} {pos p : Pos} {C : Addr} {x : Str}
/-- an expression as a statement, within a try -/
theorem s1_expr (he : PE1 X pins σ e te) (hs : swapsWith e none pos.line X.env = pure false := by rfl) : PS1 X pins σ (.Expr e pos) (tDrop te) := by
  refine ⟨fun s H D I h => ?_⟩
  exact wpAny_Expr_any (thn (he.run s H _ I h) fun v s1 ⟨x, H1, I1, r1, q1⟩ => ⟨σ, H1, I1, q1⟩) I.quiet hs
/-! ### an instance of a class without an __init__ of its own -/
end
theorem passF {P : Program} {w : World} {X : Cx} : Passes (CXe P w) X (fun _ _ _ => False) := fun pins σ H1 s1 e s' I q => by
  obtain ⟨_, _, _, _, _, q⟩ := q
  exact q.elim
theorem same_after {H H1 : Hp} {x dx : Addr} {o1 o2 : HO} (hx : H x = none) (hd : H dx = none) (s : Same (upd (upd H dx (.own x)) x o1) H1) : Same H (upd H1 x o2) := fun b u q => by
  rw [upd_ne (ne_of_none q hx)]
  exact s _ _ (same_make0 hx hd b u q)
/-- a class as its makers have it -/
structure Ctor (P : Program) (w : World) (K : PySem.W.Frag) (mg : Str → Option Value) (base : Heap) (CX : CXT) (k : Nat) (x : Str) (C i : Addr) (fd : FuncData) (ps : List Str) (ds : List Value) (sp : Sp) : Prop where
  mkr : Mk K C i
  ok : FnOk P w K mg base CX k i fd ps sp
  mg : mg x = some (.ref C)
  bd : Binds K fd ps ds
section
variable {X : Cx} {CX : CXT} {k : Nat} {C i f : Addr} {fd : FuncData} {ps ks : List Str} {sp : Sp} {E : XK} {x m : Str} {p pos apos : Pos} {e : Expr} {es : List Expr} {t tk : TA} {ds : List Value} {dvs : List V} {kws : List Keyword}
  {g : List Value → List Value → List Value} {gV : List V → List V → List V}
theorem cMk (c : Ctor X.prog X.w X.K X.mg X.base CX k x C i fd ps ds sp) (hd : Vals dvs ds) (hp : Passes CX X E) (hr : Room (k + 1) X.A) (ha : PA X (e :: es) t) (hg : Gl X x := by rfl) (hdb : (x == ("__debug__" : Str)) = false := by decide)
    (h1 : isSt e = false := by rfl) (h2 : es.any isSt = false := by rfl) : PE X (.Call (.Name x p) (e :: es) [] pos) (tMake C sp dvs E t) := pe_make c.mkr c.ok hr hg c.mg c.bd hd hp ha hdb (star_cons h1) (star_any h2)
/-! ### C(e, .., k = v, ..) -/
/-! ### C.m(e, ..), C a class, m a def of it -/
structure ClsFn (K : PySem.W.Frag) (C : Addr) (m : Str) (f : Addr) : Prop where
  ga : PySem.W.specialIn K (.ref C) "__getattribute__" = some (some (.builtin "type.__getattribute__"))
  rd : PySem.W.readsIn K C (.type "type") = true
  fc : PySem.W.findCls K (.ref C) (.type "type") m = some (.val (.ref f))
  kp : PySem.W.keepIn K (.ref f) = true
theorem pe_cm {pl : Sem Bool} (B : ClsFn X.K C m f) (hm : X.mg x = some (.ref C)) (F : FnOk X.prog X.w X.K X.mg X.base CX k f fd ps sp) (hr : Room k X.A) (hb : Binds X.K fd ps []) (hx : Passes CX X E) (ha : PA X (e :: es) t) (hg : Gl X x := by rfl)
    (hdb : (x == ("__debug__" : Str)) = false := by decide) (h1 : isSt e = false := by rfl) (h2 : es.any isSt = false := by rfl)
    (ht : eval (.Call (.Attribute (.Name x p) m apos) (e :: es) [] pos) X.env = (do
      let ov ← eval (.Name x p) X.env
      standAt apos.atName
      let (f, first) ← holding [ov] (getMethod ov m pl)
      callWith pos f first (backTo pos (starEach (e :: es) X.env)) (backToKw pos (keywordEach [] X.env))) := by rfl) :
    PE X (.Call (.Attribute (.Name x p) m apos) (e :: es) [] pos) (tCall sp [] E t) := by
  refine ⟨?_⟩
  intro pins s σ H Q I h
  refine PySem.W.methodCall_KW (pl := pl) (ld_glob I hg hm ?_ hdb) ht
  refine PySem.W.method_cls I.kIn B.ga (PySem.W.cls_value I.kIn B.rd B.fc rfl ?_)
  have It := I.tok (s.toks + 1)
  refine PySem.W.callWith_K (first := []) (h₀ := X.base) I.ok.mod.kin B.kp (thn (ha pos pins _ σ H _ It h) fun us s2 ⟨vs, H2, I2, r, q2⟩ => ⟨I2.kIn, ?_⟩) (star_cons h1) (star_any h2)
  exact run_fn F hr hb .nil hx I2 r q2
end
theorem FunD.okE {P : Program} {w : World} {K : PySem.W.Frag} {mg : Str → Option Value} {base : Heap} {x qual : Str} {st : Stmt} {f : Addr} {fd : FuncData} {items : List Value} {N ps : List Str} {k : Nat} {sp : Sp} (F : FunD K x qual st f fd items) (S : FnScope N ps (defScope st)) (len : ∀ vs H Q E, sp vs H Q E → vs.length = ps.length)
    (hbody : ∀ (cdv : Value) (A : Around) (outer : List Env) (s : Shared) (H : Hp) (vs : List V) (Q : VK) (E : XK), Room k (A.deeper (envOfC qual (defScope st) s.heap.objs.size f cdv)) → sp vs H Q E →
      ∃ t, PSs (cxOf (CXe P w) P w K mg base N qual (defScope st) f cdv A outer s H E) (defBody st) t ∧ t { nx := fun _ H' => Q .non H', rt := Q } (start N vs) H) : FnOk P w K mg base (CXe P w) (k + 1) f fd ps sp := by
  obtain ⟨oc, od, T, kV, doc, pm, an, cdv, ct, osl, o, n, rfl, lk, hcd, _, _⟩ := F.ex
  exact fn_of lk hcd S len fun A outer s H vs Q E hr hsp => hbody cdv A outer s H vs Q E hr hsp
end L2

set_option Elab.async false
set_option linter.all false
set_option maxRecDepth 100000
set_option maxHeartbeats 4000000
namespace L2
open PySem PySem.Spec PyProof.Rows
/-- a statement that is never reached -/
theorem ps_dead {X : Cx} {st : Stmt} : PS X st (fun _ _ _ => False) := ⟨fun _ _ _ _ _ _ h => h.elim⟩
/-! ### a set of texts -/
def SetT (P : Program) (w : World) (a : Addr) (S : Str → Bool) (n : Nat) (h : Heap) : Prop := h.SetOf (strKind P w) a S n
abbrev setO (P : Program) (w : World) (a : Addr) (S : Str → Bool) (n : Nat) : HO := .ext (SetT P w a S n)
theorem setO_ok {P : Program} {w : World} {H : Hp} {h : Heap} {a : Addr} {S : Str → Bool} {n : Nat} (e : h.SetOf (strKind P w) a S n) : ObjOk P w H h a (setO P w a S n) :=
  ⟨e, let ⟨o, _, _, _, h1, _⟩ := e; ⟨o, h1⟩, fun g1 g2 q k => let ⟨o, es, ep, t, h1, c⟩ := q; ⟨o, es, ep, t, k o h1, c⟩⟩
section
variable {X : Cx}
theorem call_set0 : CallR X (.type "set") (fun xs H Q => xs = [] ∧ ∀ p, H p = none → Q (.ref p) (upd H p (setO X.prog X.w p (fun _ => false) 0))) := by
  intro pins s σ H xs us Q I r h
  obtain ⟨rfl, q⟩ := h
  cases r
  refine call_set_0 fun led => ?_
  have hf : H s.heap.objs.size = none := I.hok.fresh (Nat.le_refl _)
  refine ⟨.ref s.heap.objs.size, _, I.laid (t' := s.toks) (fun b u e => Heap.get?_push_of_some _ e) (Nat.le_refl _) (setO_ok ?_), rfl, q _ hf⟩
  exact (setObjOf_fresh led).setOf (Heap.get?_push_size _ rfl) (by decide)
theorem op_in_setT : OpR X (compareOp .In) (fun x y H Q => ∃ (a : Addr) (S : Str → Bool) (n : Nat) (z : Str), x = .str z ∧ y = .ref a ∧ H a = some (setO X.prog X.w a S n) ∧ Q (.bl (S z)) H) := by
  intro pins s σ H x y v u Q I rx ry h
  obtain ⟨a, S, n, z, rfl, rfl, e, q⟩ := h
  obtain ⟨t, rfl⟩ := rx
  cases ry
  have hS : s.heap.SetOf (strKind X.prog X.w) a S n := (I.hok a _ e).1
  exact wpAny_inSet_of (strKind_is X.prog X.w z t) rfl hS ⟨.bl (S z), H, I.tok _, rfl, q⟩
def tSAdd (P : Program) (w : World) (to te : TE) : TE := fun σ H Q => to σ H fun x H1 => ∃ (a : Addr) (S : Str → Bool) (n : Nat), x = .ref a ∧ H1 a = some (setO P w a S n) ∧ te σ H1 fun y H2 => ∃ (S : Str → Bool) (n : Nat) (z : Str), y = .str z ∧ H2 a = some (setO P w a S n) ∧ n + 1 < scanBound ∧
  Q .non (upd H2 a (setO P w a (fun k => S k || decide (k = z)) (if S z then n else n + 1)))
theorem pe_sadd {o e : Expr} {apos cpos : Pos} {to te : TE} (ho : PE X o to) (he : PE X e te) (m : M1 X o "add" apos e cpos) : PE X (.Call (.Attribute o "add" apos) [e] [] cpos) (tSAdd X.prog X.w to te) := by
  refine ⟨?_⟩
  intro pins s σ H Q I h
  refine wpAny_Call_method m.base m.few m.line PySem.F.plainAttrs_set PySem.F.slot_set_add PySem.F.type_set_add (thn (ho pins s σ H _ I h) fun u s1 ⟨x, H1, I1, rx, a, S, n, ex, d, q1⟩ => ?_)
  subst ex
  obtain rfl : u = Value.ref a := rx
  have hS : s1.heap.SetOf (strKind X.prog X.w) a S n := (I1.hok a _ d).1
  refine ⟨hS.typeIs, hS.noDict, ?_⟩
  rw [m.trees]
  refine Calls.callWith_builtin rfl (Calls.evalArgs_plain (Calls.spliced_cons (thn (he pins s1 σ H1 _ I1 q1) fun iv s2 ⟨y, H2, I2, ry, S2, n2, z, ey, e2, hn, q2⟩ => Calls.spliced_nil ?_)))
  subst ey
  obtain ⟨t, rfl⟩ := ry
  have hS2 : s2.heap.SetOf (strKind X.prog X.w) a S2 n2 := (I2.hok a _ e2).1
  refine call_set_add (strKind_is X.prog X.w z t) rfl hS2 hn fun h' hs hS3 => ⟨.non, _, ?_, rfl, q2⟩
  refine I2.write (x := a) (e := a) (by rw [e2]; exact True.intro) (.inl rfl) (fun b q hb z => (hs.2 b hb).trans z) (let ⟨o, _, _, _, h1, _⟩ := hS3; ⟨o, h1⟩) (setO_ok hS3)
/-! ### o.m() of an instance of one of several classes -/
def tMethP (Cs : Addr → Prop) (m : Str) (sp : Sp) (E : XK) (ta : TE) : TE := fun σ H Q => ta σ H fun x H1 => ∃ a C dx fs, x = .ref a ∧ Cs C ∧ H1 a = some (.ins C dx fs) ∧ fs.lookup m = none ∧ sp [x] H1 Q E
theorem pe_methP {CX : CXT} {k : Nat} {f : Addr} {fd : FuncData} {ps : List Str} {sp : Sp} {E : XK} {m : Str} {pos apos : Pos} {o : Expr} {ta : TE} {Cs : Addr → Prop} {pl : Sem Bool} (he : PE X o ta) (hC : ∀ C, Cs C → Cls X.K C ∧ Meth X.K C m f) (F : FnOk X.prog X.w X.K X.mg X.base CX k f fd ps sp) (hr : Room k X.A) (hb : Binds X.K fd ps []) (hx : Passes CX X E)
    (ht : eval (.Call (.Attribute o m apos) [] [] pos) X.env = (do
      let ov ← eval o X.env
      standAt apos.atName
      let (f, first) ← holding [ov] (getMethod ov m pl)
      callWith pos f first (backTo pos (starEach [] X.env)) (backToKw pos (keywordEach [] X.env))) := by rfl) :
    PE X (.Call (.Attribute o m apos) [] [] pos) (tMethP Cs m sp E ta) := by
  refine ⟨?_⟩
  intro pins s σ H Q I h
  refine PySem.W.methodCall_KW (pl := pl) (thn (he pins s σ H _ I h) fun u s1 ⟨x, H1, I1, rx, a, C, dx, fs, ex, hc, ea, l, q⟩ => ?_) ht
  subst ex
  obtain rfl : u = Value.ref a := rx
  obtain ⟨c, hm⟩ := hC C hc
  refine getmeth_ok I1 ea c hm l ?_
  exact PySem.W.callWith_K0 (first := [.ref a]) I1.kIn hm.kp (run_fn (us := [.ref a]) (vs := [.ref a]) F hr hb .nil hx I1 (.cons rfl .nil) q)
/-! ### D[e], D a written dict of the text with texts as keys -/
structure KTab (w : World) (K : PySem.W.Frag) (a : Addr) (f : Str → Option V) : Prop where
  obj : ∃ es n, K.lookup a = some ⟨.type "dict", none, .dict es n, #[]⟩ ∧ PySem.W.KeysLit w.params es.toList
  vals : ∀ x v, f x = some v → ∃ u, PySem.W.nsIn K a x = some (some u) ∧ RelV v u
theorem pe_kget {e : Expr} {d : Str} {p pos : Pos} {a : Addr} {f : Str → Option V} {te : TE} (T : KTab X.w X.K a f) (hm : X.mg d = some (.ref a)) (he : PE X e te) (hg : Gl X d := by rfl) (hs : NoSl e := by first | exact fun _ _ => rfl | decide | rfl) (hdb : (d == ("__debug__" : Str)) = false := by decide) :
    PE X (.Subscript (.Name d p) e pos) (fun σ H Q => te σ H fun y H1 => ∃ x v, y = .str x ∧ f x = some v ∧ Q v H1) := by
  refine ⟨?_⟩
  intro pins s σ H Q I h
  obtain ⟨es, n, hl, hk⟩ := T.obj
  refine subD_of PySem.F.slot_dict_getitem.lookup hs (ld_glob I hg hm (thn (he pins s σ H _ I h) fun iv s2 ⟨y, H2, I2, ry, x, v, ey, ef, q2⟩ => ?_) hdb)
  subst ey
  obtain ⟨t, rfl⟩ := ry
  obtain ⟨u, eu, ru⟩ := T.vals x v ef
  have hmap := PySem.W.mapOf_K (prog := X.prog) (w := X.w) I2.kIn hl hk
  exact ⟨hmap.typeIs, wpAny_getItem_of (strKind_is X.prog X.w x t) hmap (PySem.W.find_K hl eu) ⟨v, H2, I2.tok _, ru, q2⟩⟩
end
end L2

set_option Elab.async false
set_option linter.all false
set_option maxRecDepth 100000
set_option maxHeartbeats 4000000
namespace L2
open PySem PySem.Spec PyProof.Rows
section
variable {X : Cx} {pins : List (Addr × Obj)} {σ : St} {H : Hp} {s : Shared} {sc : Scope} {fr Nc : List Str} {fp : List Addr} {C : Addr}
end
section
variable {prog : Program} {w : World} {A : Around} {R : Result → Shared → Prop} {s : Shared}
end
section
variable {X : Cx} {pins : List (Addr × Obj)} {σ : St} {s : Shared} {sc : Scope} {fr Nc : List Str} {caps : List (Option Nat)} {kx vx tg iter : Expr} {ifs : List Expr} {g : TG} {tt : TT} {tk tv : TE} {ow : List Nat} {pos pos2 : Pos} {E : Value → Shared → Prop}
end
end L2

set_option Elab.async false
set_option linter.all false
set_option maxRecDepth 100000
set_option maxHeartbeats 4000000
namespace L2
open PySem PySem.Spec PyProof.Rows
/-! ### xs[::-1] -/
/-! ### xs.index(t): tuples of flat items -/
end L2

set_option Elab.async false
set_option linter.all false
set_option maxRecDepth 100000
set_option maxHeartbeats 4000000
namespace L2
open PySem PySem.Spec PyProof.Rows
/-! ### a dict that is only read from now on -/
section
variable {X : Cx} {pins : List (Addr × Obj)} {σ : St} {H : Hp} {s : Shared}
end
/-! ### for k, v in d.items(), d only read -/
section
variable {X : Cx} {elts : List Expr} {x1 : Nat} {tpos : Pos}
end
/-! ### == of tuples of flat items -/
end L2

set_option Elab.async false
set_option linter.all false
set_option maxRecDepth 100000
set_option maxHeartbeats 4000000
namespace L2
open PySem PySem.Spec PyProof.Rows
/-! ### set(xs), xs a list of texts -/
def seen (val : Nat → Str) (T : Str → Bool) : Nat → Nat → Str → Bool
  | _, 0, z => T z
  | i, k + 1, z => seen val (fun y => T y || decide (y = val i)) (i + 1) k z
section
variable {P : Program} {w : World} {A : Around} {R : Result → Shared → Prop} {I : Addr} {fp wr : List Addr} {G : Array GenState → Array GenState → Prop} {n : Nat} {Pr : Nat → Value → Prop} {Sg : Nat → Shared → Prop}
end
end L2

set_option Elab.async false
set_option linter.all false
set_option maxRecDepth 100000
set_option maxHeartbeats 4000000
namespace L2
open PySem PySem.Spec PyProof.Rows
end L2

set_option Elab.async false
set_option linter.all false
set_option maxRecDepth 100000
set_option maxHeartbeats 4000000
namespace L2
open PySem PySem.Spec PyProof.Rows
section
variable {X : Cx}
/-! ### any(xs), a list of bools -/
end
end L2

set_option Elab.async false
set_option linter.all false
set_option maxRecDepth 100000
set_option maxHeartbeats 4000000
namespace L2
open PySem PySem.Spec PyProof.Rows
/-! ### range(n) as a thing, list(range(n)) -/
section
variable {X : Cx}
end
end L2

set_option Elab.async false
set_option linter.all false
set_option maxRecDepth 100000
set_option maxHeartbeats 4000000
namespace L2
open PySem PySem.W PySem.Builtin PySem.Builtin.ObjectAttr PySem.Spec PyProof.Rows
/-! ### an own exception class whose instances an own __init__ makes ready -/
def xmIn (K : PySem.W.Frag) (C : Addr) : Bool :=
  match K.lookup C with
  | some ⟨.type "type", _, .cls cd, sl⟩ =>
    match cd.mro, sl.toList with
    | .ref C' :: bm, [_, _, _, _, some (.builtin n), _] => C' == C && n == "ValueError.__new__" && !cd.hasDel && cd.hasDict && bm.contains (.type "ValueError") && bm.contains (.type "BaseException") && !bm.contains (.type "AttributeError") && !bm.contains (.type "NameError")
    | _, _ => false
  | _ => false
structure XObj (h : Heap) (C : Addr) : Prop where
  ob : ∃ nm q N bs bm sn sub ab col dd k0 k1 k2 k3 k5, h.get? C = some (excClassObj nm q C N bs bm true sn sub ab col dd k0 k1 k2 k3 k5 "ValueError.__new__") ∧ bm.contains (.type "ValueError") = true ∧ bm.contains (.type "BaseException") = true ∧ bm.contains (.type "AttributeError") = false ∧ bm.contains (.type "NameError") = false
theorem xobj_of {K : PySem.W.Frag} {h : Heap} {C : Addr} (X : K.In h) (q : xmIn K C = true) : XObj h C := by
  simp only [xmIn] at q
  split at q
  case h_2 => cases q
  rename_i dd cd sl ho
  obtain ⟨nm, bs, mro, ns, qn, hd, sn, sub, ab, col, del⟩ := cd
  obtain ⟨l⟩ := sl
  dsimp only at q
  split at q
  case h_2 => cases q
  rename_i C' m k0 k1 k2 k3 n k5
  simp only [Bool.and_eq_true, beq_iff_eq, Bool.not_eq_true'] at q
  obtain ⟨⟨⟨⟨⟨⟨⟨rfl, rfl⟩, rfl⟩, rfl⟩, h1⟩, h2⟩, h3⟩, h4⟩ := q
  exact ⟨_, _, _, _, _, _, _, _, _, _, _, _, _, _, _, X _ _ ho, h1, h2, h3, h4⟩
abbrev excNew (C t : Addr) : Obj := { cls := .ref C, data := .fields #[.ref t, .none, .none, .none, .bool false, .none] }
abbrev tupNew (us : List Value) : Obj := { cls := .type "tuple", data := .seq us.toArray }
section
variable {prog : Program} {w : World} {A : Around} {E : Value → Shared → Prop} {s : Shared} {K : PySem.W.Frag} {C f : Addr} {us : List Value}
theorem exc_new {R : Result → Shared → Prop} (m : XObj s.heap C) (hl : us.length ≤ sizeLine)
    (h : R (.ok (.ret (.ref (s.heap.objs.size + 1)))) { s with heap := (s.heap.push (tupNew us)).push (excNew C s.heap.objs.size) }) :
    codeAny (model prog w) A (.call (.builtin "ValueError.__new__") ⟨.ref C :: us, []⟩) R s := by
  obtain ⟨hh, g, d, t, os⟩ := s
  obtain ⟨nm, q, N, bs, bm, sn, sub, ab, col, dd, k0, k1, k2, k3, k5, hC, b1, b2, b3, b4⟩ := m.ob
  have F := PySem.F.excBase_ValueError
  refine codeAny_call_builtin_code (Code.quiet_builtin _ F.toExcCallFacts.quiet) ?_
  have k1' := F.newKind
  have k2' := F.newSplit
  have k3' := F.newRow
  simp only [checkBuiltinCall, k1', k2', k3']
  rw [if_pos (by decide +kernel)]
  refine wpAny_bind (ks_wpAny_isType_cls hC rfl ?_)
  rw [if_neg (by decide)]
  refine wpAny_bind (wpAny_isSubtype_exc hC ?_)
  rw [show (Value.ref C :: bm).contains (.type "ValueError") = true by rw [List.contains_cons, b1, Bool.or_true], if_neg (by decide)]
  refine wpAny_bind (wpAny_staticBase_exc hC (wpAny_bind (wpAny_madeBy_exc hC ?_)))
  dsimp only
  rw [if_neg (by decide +kernel)]
  rw [show Bind.checkArgs "ValueError.__new__" { machinery := Manifest.Machinery.any, full := "ValueError", short := "ValueError", receiver := Manifest.Receiver.cls, params := [{ name := "args", kind := Manifest.ParamKind.varPos, required := false }, { name := "kwargs", kind := Manifest.ParamKind.varKw, required := false }] } { pos := Value.ref C :: us } = pure () from rfl]
  refine wpAny_pure (PyProof.Rows.codeAny_builtin_at F.toExcCallFacts.toExcNewFacts.entry ?_)
  unfold Builtin.«BaseException.__new__»
  refine PyProof.Rows.wpAt_bind (PyProof.Rows.wpAt_owner rfl F.toExcCallFacts.toExcNewFacts.ends (PyProof.Rows.wpAt_of_any ?_))
  rw [F.toExcCallFacts.toExcNewFacts.owner]
  dsimp only
  refine wpAny_bind (ks_wpAny_isType_cls hC rfl ?_)
  rw [if_neg (by decide)]
  refine wpAny_bind (wpAny_isSubtype_exc hC ?_)
  rw [show (Value.ref C :: bm).contains (.type "ValueError") = true by rw [List.contains_cons, b1, Bool.or_true], if_neg (by decide)]
  refine wpAny_bind (wpAny_madeHere_exc F.canon hC ?_)
  have c3 : (Value.ref C :: bm).contains (.type "AttributeError") = false := by rw [List.contains_cons, b3]; rfl
  have c4 : (Value.ref C :: bm).contains (.type "NameError") = false := by rw [List.contains_cons, b4]; rfl
  refine wpAny_bind (?_ : wpAny _ _ (do
      let x ← isSubtype (.ref C) (.type "AttributeError")
      if x = true then pure 2
      else do
        let y ← isSubtype (.ref C) (.type "NameError")
        if y = true then pure 1 else pure 0 : Sem Nat) _ _ _)
  refine wpAny_bind (wpAny_isSubtype_exc hC ?_)
  rw [c3, if_neg Bool.false_ne_true]
  refine wpAny_bind (wpAny_isSubtype_exc hC ?_)
  rw [c4, if_neg Bool.false_ne_true]
  refine wpAny_pure (wpAny_bind (wpAny_newTuple ?_ hl))
  have hC2 := Heap.get?_push_of_some (tupNew us) hC
  unfold newObj
  dsimp only
  rw [if_neg (by show ¬ 6 > sizeLine + 2; decide)]
  unfold newObjAsIs
  refine wpAny_bind (wpAny_bind (wpAny_alloc ?_))
  dsimp only
  refine wpAny_bind ?_
  unfold classHasDel
  refine wpAny_bind (wpAny_load (Heap.get?_push_of_some _ hC2) ?_)
  dsimp only
  refine wpAny_pure ?_
  rw [if_neg Bool.false_ne_true]
  refine wpAny_pure (wpAny_pure ?_)
  have e1 : (hh.push (tupNew us)).objs.size = hh.objs.size + 1 := Heap.size_push _ _
  show R (.ok (.ret (.ref (hh.push (tupNew us)).objs.size))) _
  rw [e1]
  exact h
structure XCall (K : PySem.W.Frag) (C f : Addr) : Prop where
  ob : xmIn K C = true
  init : findIn K (.ref C) "__init__" = some (some (.ref f))
  fn : isFn K (.ref f) = true
  call : specialIn K (.ref C) "__call__" = some (some (.builtin "type.__call__"))
  typ : instIn K (.ref C) (.type "type") = some true
  kp : keepIn K (.ref C) = true
theorem exc_call {R : Result → Shared → Prop} (X : K.In s.heap) (m : XCall K C f) (hl : us.length ≤ sizeLine)
    (h : codeAny (model prog w) (A.under (.builtin "type.__call__" ⟨.ref C :: us, []⟩)) (.call (.ref f) ⟨.ref (s.heap.objs.size + 1) :: us, []⟩) (InitBack (s.heap.objs.size + 1) R)
      { s with heap := (s.heap.push (tupNew us)).push (excNew C s.heap.objs.size) }) : codeAny (model prog w) A (.call (.ref C) ⟨us, []⟩) R s := by
  have mo := xobj_of X m.ob
  have LC := looks_specialIn (M := model prog w) X m.call
  have LT := looks_instIn (M := model prog w) X m.typ
  obtain ⟨hh, g, d, t, os⟩ := s
  obtain ⟨nm, q, N, bs, bm, sn, sub, ab, col, dd, k0, k1, k2, k3, k5, hC, b1, b2, b3, b4⟩ := mo.ob
  refine codeAny_of_own ?_
  show wpOwn _ _ _ (callAny (.ref C) ⟨us, []⟩) _ _ _
  unfold callAny
  refine wpOwn_of_wpAny ?_
  dsimp only
  refine wpAny_bind (wpAny_load hC ?_)
  dsimp only
  unfold callAny.viaDunder
  refine wpAny_bind (LC.at ?_)
  dsimp only
  rw [show bindSpecial (.builtin "type.__call__") (.ref C) = pure (.builtin "type.__call__", [.ref C]) from by with_unfolding_all rfl]
  refine wpAny_bind (wpAny_pure ?_)
  dsimp only
  rw [show callAny.plainCallee (.builtin "type.__call__") = pure true from by with_unfolding_all rfl]
  refine wpAny_bind (wpAny_pure ?_)
  rw [if_pos rfl]
  refine wpAny_pure ⟨rfl, ?_⟩
  refine codeAny_call_builtin_code (Code.quiet_builtin _ (by decide +kernel)) ?_
  have k1' : builtinKind "type.__call__" = some .slot := by decide +kernel
  have k2' : splitId "type.__call__" = some ("type", "__call__") := by decide +kernel
  simp only [checkBuiltinCall, k1', k2', List.cons_append, List.nil_append]
  refine wpAny_bind (LT.at ?_)
  rw [if_neg (by decide)]
  have k3' : Manifest.signature? "type.__call__" = some { machinery := .hand, full := "wrapper __call__", short := "", receiver := .self, params := [] } := by with_unfolding_all rfl
  rw [k3']
  dsimp only
  rw [show Bind.checkArgs "type.__call__" { machinery := .hand, full := "wrapper __call__", short := "", receiver := .self, params := [] } { pos := Value.ref C :: us } = pure () from rfl]
  refine wpAny_pure (codeAny_builtin (b := Builtin.«type.__call__») rfl ?_)
  unfold Builtin.«type.__call__»
  dsimp only
  rw [if_neg (show ¬ (Value.ref C == Value.type "type") = true from fun z => by cases z)]
  refine wpAny_bind (wpAny_mroOf_exc hC ?_)
  rw [if_neg (show ¬ (Value.ref C :: bm).isEmpty = true from Bool.false_ne_true)]
  refine wpAny_bind (wpAny_madeBy_exc hC ?_)
  dsimp only
  refine wpAny_bind (wpAny_pure (wpAny_bind (wpAny_holding (wpAny_call (exc_new mo hl ?_)))))
  dsimp only at h ⊢
  have kp : ∀ b o, hh.get? b = some o → ((hh.push (tupNew us)).push (excNew C hh.objs.size)).get? b = some o := fun b o e => Heap.get?_push_of_some _ (Heap.get?_push_of_some _ e)
  have X2 : K.In ((hh.push (tupNew us)).push (excNew C hh.objs.size)) := X.keeps kp
  have eo : ((hh.push (tupNew us)).push (excNew C hh.objs.size)).get? (hh.objs.size + 1) = some (excNew C hh.objs.size) := by
    have := Heap.get?_push_size (hh.push (tupNew us)) (o := excNew C hh.objs.size) rfl
    rwa [Heap.size_push] at this
  have LI := looks_findIn (M := model prog w) X2 m.init
  have LB := bind_fn (M := model prog w) X2 (.ref (hh.objs.size + 1)) (beq_iff_eq.mp m.fn)
  generalize (hh.push (tupNew us)).push (excNew C hh.objs.size) = h2 at h kp X2 eo LI LB ⊢
  unfold isInstance
  have LTy : Looks (model prog w) h2 (typeOf (.ref (hh.objs.size + 1))) (.ref C) := (Looks.ld eo).andThen .now
  refine wpAny_bind (wpAny_bind (LTy.at (wpAny_isSubtype_exc (kp _ _ hC) ?_)))
  rw [show (Value.ref C :: bm).contains (.ref C) = true by rw [List.contains_cons, beq_self_eq_true, Bool.true_or], if_neg (by decide)]
  refine wpAny_bind (wpAny_holding ?_)
  unfold callSpecial? specialOf
  refine wpAny_bind (wpAny_bind (LTy.at (LI.at ?_)))
  dsimp only
  refine wpAny_holding (wpAny_bind (LB.at ?_))
  dsimp only
  refine wpAny_bind (wpAny_call (codeAny_mono h fun r s' hq => ?_))
  cases r with
  | error e => exact hq
  | ok fl =>
    cases fl with
    | ret u =>
      obtain ⟨rfl, hq⟩ := hq
      refine wpAny_pure ?_
      dsimp only
      rw [if_neg (by decide)]
      exact wpAny_pure hq
    | next => exact False.elim hq
    | brk => exact False.elim hq
    | cont => exact False.elim hq
end
end L2

set_option Elab.async false
set_option linter.all false
set_option maxRecDepth 100000
set_option maxHeartbeats 4000000
namespace L2
open PySem PySem.W PySem.Builtin PySem.Builtin.ObjectAttr PySem.Spec PyProof.Rows
/-! ### the own dict of an exception: self.x = v -/
def veMro : List Value := [.type "ValueError", .type "Exception", .type "BaseException", .type "object"]
def refsThen : List Value → Bool
  | .ref _ :: l => refsThen l
  | l => l == veMro
def xtIn (K : PySem.W.Frag) (C : Addr) : Bool := (clsIn K C).any fun cd => cd.hasDict && refsThen cd.mro
section
variable {prog : Program} {w : World} {A : Around} {E : Value → Shared → Prop} {s : Shared} {K : PySem.W.Frag} {C x : Addr} {us : List Value}
theorem over_loop {M : Model} {Q : Option Unit × Unit → Shared → Prop} {self : Value} : ∀ (l : List Value), refsThen l = true → (Q (some (), ()) s) →
    wpAny M A (forIn l ((none, ()) : Option Unit × Unit) fun c __s =>
        match c with
        | Value.type n =>
          if (n == "_thread._local") = true then do
            rule "setattr.thread-local-passed-by"
            pure (ForInStep.yield (none, ()))
          else
            if (n == "_pickle.Pickler" || n == "_pickle.Unpickler") = true then do
              rule "setattr.pickle-types-passed-by"
              pure (ForInStep.yield (none, ()))
            else do
              let own ← classOwn c (Str.ofString "__setattr__")
              if own.isSome = true then
                  have __do_jp := fun (__r : Unit) => pure (ForInStep.done (some (), ()));
                  if (!isObjects n (Str.ofString "__setattr__").toString) = true then do
                    rule "setattr.built-in-override"
                    let tn ← PySem.typeNameOf self
                    let __r ←
                      raiseErrorMade "TypeError"
                          (toString "can't apply this " ++ toString (Str.ofString "__setattr__").toString ++ toString " to " ++
                              toString tn ++
                            toString " object")
                    __do_jp __r
                  else __do_jp ()
                else pure (ForInStep.yield (none, ()))
        | x => pure (ForInStep.yield (none, ()))) Q E s := by
  intro l
  have o1 : classOwn (.type "ValueError") (Str.ofString "__setattr__") = pure none := by with_unfolding_all rfl
  have o2 : classOwn (.type "Exception") (Str.ofString "__setattr__") = pure none := by with_unfolding_all rfl
  have o3 : classOwn (.type "BaseException") (Str.ofString "__setattr__") = pure none := by with_unfolding_all rfl
  have o4 := F.own_object_setattr
  induction l with
  | nil => intro h; exact absurd h (by decide)
  | cons c l ih =>
    intro h q
    rw [List.forIn_cons]
    cases c with
    | ref a => exact wpAny_bind (wpAny_pure (ih h q))
    | type n =>
      have e : Value.type n :: l = veMro := by
        have : (Value.type n :: l == veMro) = true := h
        exact eq_of_beq this
      unfold veMro at e
      injection e with e1 e2
      injection e1 with e1
      subst e1 e2
      have n1 : ∀ n : String, n ∈ ["ValueError", "Exception", "BaseException", "object"] → (n == "_thread._local") = false ∧ (n == "_pickle.Pickler" || n == "_pickle.Unpickler") = false := by decide +kernel
      simp only [List.forIn_cons, n1 "ValueError" (by decide), n1 "Exception" (by decide), n1 "BaseException" (by decide), n1 "object" (by decide), o1, o2, o3, o4, Bool.false_eq_true, if_false]
      refine wpAny_bind (wpAny_bind (wpAny_pure ?_))
      refine wpAny_pure ?_
      refine wpAny_bind (wpAny_bind (wpAny_pure ?_))
      refine wpAny_pure ?_
      refine wpAny_bind (wpAny_bind (wpAny_pure ?_))
      refine wpAny_pure ?_
      refine wpAny_bind (wpAny_bind (wpAny_pure ?_))
      rw [if_pos (show (some (Value.builtin "object.__setattr__")).isSome = true from rfl), if_neg (show ¬ (!isObjects "object" (Str.ofString "__setattr__").toString) = true by unfold isObjects; simp)]
      exact wpAny_pure (wpAny_pure q)
    | _ => exact absurd h (by simp [refsThen, veMro])
theorem wp_eq {α : Type} {M : Model} {A : Around} {t t' : Sem α} {Q : α → Shared → Prop} {E : Value → Shared → Prop} {s : Shared} (e : t = t') (h : wpAny M A t' Q E s) : wpAny M A t Q E s := e ▸ h
structure XSet (K : PySem.W.Frag) (C : Addr) : Prop where
  t : xtIn K C = true
  sa : findIn K (.ref C) "__setattr__" = some (some (.builtin "object.__setattr__"))
  ob : mroIn K C (.type "object") = some true
theorem XSet.cd (m : XSet K C) : ∃ cd, clsIn K C = some cd ∧ cd.hasDict = true ∧ refsThen cd.mro = true := by
  have := m.t
  unfold xtIn at this
  cases e : clsIn K C with
  | none => rw [e] at this; cases this
  | some cd =>
    rw [e] at this
    have h2 : (cd.hasDict && refsThen cd.mro) = true := this
    exact ⟨cd, rfl, (Bool.and_eq_true _ _ ▸ h2).1, (Bool.and_eq_true _ _ ▸ h2).2⟩
theorem set_exc {oe : Obj} {vs : Array Value} {name : Str} {v : Value} {Q : Unit → Shared → Prop} (X : K.In s.heap) (m : XSet K C) (ha : findIn K (.ref C) name = some none) (he : s.heap.get? x = some oe) (hc : oe.cls = .ref C) (hd : oe.data = .fields vs) (hn : oe.dict = none)
    (h : ∀ h' : Heap, (∀ b o, b ≠ x → s.heap.get? b = some o → h'.get? b = some o) → h'.get? x = some { oe with dict := some s.heap.objs.size } → h'.Ns1 s.heap.objs.size (fun y => if y = name then some v else none) → Q () { s with heap := h', toks := s.toks + 2 }) :
    wpAny (model prog w) A (setAttr (.ref x) name v) Q E s := by
  obtain ⟨cd, hcd, hdict, hmro⟩ := m.cd
  have IA : InstAt s.heap x oe C none := ⟨he, hc, by unfold notCls; rw [hd], by rw [hn]; trivial⟩
  refine set_plain X IA m.sa ?_
  have LO := looks_mroIn (M := model prog w) X m.ob
  have LF := looks_findIn (M := model prog w) X ha
  have LCd := looks_clsIn (M := model prog w) X hcd
  have LTy : Looks (model prog w) s.heap (typeOf (.ref x)) (.ref C) := hc ▸ (Looks.ld he).andThen .now
  obtain ⟨hh, g, d, t, os⟩ := s
  dsimp only at *
  refine codeAny_call_builtin F.slot_object_setattr.plain F.entry_object_setattr ?_
  have k1 := F.bk_object_setattr
  have k2 := F.sp_object_setattr
  simp only [checkBuiltinCall, k1, k2]
  refine wpAny_bind ?_
  unfold isInstance
  refine wpAny_bind (LTy.at ?_)
  refine LO.at ?_
  rw [if_neg (by decide)]
  have k3 := F.args_object_setattr_3 (.ref x) (.str name t) v
  refine wp_eq k3 (wpAny_pure ?_)
  unfold Builtin.«object.__setattr__»
  rw [if_neg (show ¬ (!(⟨[Value.ref x, Value.str name t, v], []⟩ : Args).kw.isEmpty) = true from Bool.false_ne_true)]
  dsimp only
  unfold refuseIfOverridden
  refine wpAny_bind (wpAny_bind (LTy.at (wpAny_bind ?_)))
  unfold mroOf
  refine wpAny_bind (LCd.at (wpAny_pure (wpAny_bind (over_loop _ hmro ?_))))
  dsimp only
  refine wpAny_pure (wpAny_bind ?_)
  unfold attrName
  refine wpAny_pure (wpAny_bind (LTy.at (wpAny_bind (LF.at (wpAny_bind ?_)))))
  unfold storeTaker?
  refine wpAny_pure ?_
  dsimp only
  unfold storeInOwnDict ownStreamTells
  refine wpAny_bind (wpAny_pure ?_)
  rw [if_neg (show ¬ (Value.ref C == Value.type "module") = true from fun z => by cases z)]
  unfold ownDictForStores instanceDict
  refine wpAny_bind (wpAny_bind (wpAny_loadPart he ?_))
  rw [hc]
  dsimp only
  refine wpAny_bind (LCd.at ?_)
  rw [hdict, hn, hd]
  dsimp only
  rw [if_neg (by decide), if_neg (show ¬ (!true || !typeHasDict (Value.ref C)) = true from Bool.false_ne_true)]
  refine wpAny_bind (wpAny_alloc (wpAny_bind (wpAny_update (Heap.get?_push_of_some _ he) ?_)))
  unfold dictMade
  refine wpAny_pure ?_
  dsimp only
  unfold storeInDict newKeyGuard
  refine wpAny_bind (wpAny_pure (wpAny_bind ?_))
  have xlt : x ≠ hh.objs.size := Nat.ne_of_lt (Heap.lt_size he)
  have u1 : ((hh.push { cls := .type "dict", data := .dict #[] }).update x fun o => { cls := o.cls, dict := some hh.objs.size, data := o.data, slots := o.slots }).get? hh.objs.size = some { cls := .type "dict", data := .dict #[] } := by
    rw [Heap.get?_update_ne _ _ _ _ (Ne.symm xlt)]
    exact Heap.get?_push_size hh rfl
  have n1 : ((hh.push { cls := .type "dict", data := .dict #[] }).update x fun o => { cls := o.cls, dict := some hh.objs.size, data := o.data, slots := o.slots }).Ns1 hh.objs.size (fun _ => none) := Heap.Ns1.of_empty ⟨_, #[], _, u1, rfl, (fun e he => absurd he (by simp)), fun _ => rfl⟩
  refine wpAny_nsSet1 n1 fun h' hn2 hs2 => ?_
  have wi : PySem.Within (fun y => if y = name then some v else none) [name] := fun y hy => by
    by_cases e : y = name
    · rw [e]; exact List.mem_singleton.mpr rfl
    · exact absurd (if_neg e) hy
  obtain ⟨oD, esD, epD, hoD, hdD, hcD⟩ := hn2.count wi
  refine wpAny_bind (wpAny_lookBehind hoD (by rw [hdD]; exact pastItsLine_dict (Nat.le_trans hcD (by show 1 ≤ sizeLine + 1; decide))) ?_)
  refine wpAny_pure ?_
  have ux : ((hh.push { cls := .type "dict", data := .dict #[] }).update x fun o => { cls := o.cls, dict := some hh.objs.size, data := o.data, slots := o.slots }).get? x = some { oe with dict := some hh.objs.size } :=
    Heap.get?_update_self _ (Heap.get?_push_of_some _ he) (by unfold Obj.isFreed; rw [hd])
  refine h h' (fun b o hb e => ?_) ?_ hn2
  · have hb2 : b ≠ hh.objs.size := Nat.ne_of_lt (Heap.lt_size e)
    rw [hs2.2 b hb2, Heap.get?_update_ne _ _ _ _ hb]
    exact Heap.get?_push_of_some _ e
  · rw [hs2.2 x xlt]
    exact ux
end
end L2

set_option Elab.async false
set_option linter.all false
set_option maxRecDepth 100000
set_option maxHeartbeats 4000000
namespace L2
open PySem PySem.W PySem.Builtin PySem.Builtin.ObjectAttr PySem.Builtin.Getset_descriptor PySem.Spec PyProof.Rows
/-! ### e.x, e an exception with an own dict -/
section
variable {prog : Program} {w : World} {A : Around} {E : Value → Shared → Prop} {s : Shared} {K : PySem.W.Frag} {C D x dx : Addr} {us : List Value}
theorem get_exc {oe : Obj} {vs : Array Value} {name : Str} {v : Value} {mA : Str → Option Value} {b : Bool} {Q : Value → Shared → Prop} (c : ExcCls K D) (m : XSet K D) (X : K.In s.heap) (ha : findIn K (.ref D) name = some none) (he : s.heap.get? x = some oe) (hc : oe.cls = .ref D) (hd : oe.data = .fields vs) (hx : oe.dict = some dx)
    (hn : s.heap.Ns1 dx mA) (hv : mA name = some v) (hv' : handedIn v = true) (h : Q v { s with toks := s.toks + 1 }) : wpAny (model prog w) A (getAttr (.ref x) name b) Q E s := by
  obtain ⟨cd, hcd, hdict, hmro⟩ := m.cd
  obtain ⟨hh, g, dr, t, os⟩ := s
  have LT : Looks (model prog w) hh (typeOf (.ref x)) (.ref D) := hc ▸ (Looks.ld he).andThen .now
  have LG := looks_findIn (M := model prog w) X c.ga
  have LN := looks_findIn (M := model prog w) X c.no
  have LC := looks_findIn (M := model prog w) X ha
  have LB := looks_mroIn (M := model prog w) X c.be
  have LCd := looks_clsIn (M := model prog w) X hcd
  unfold getAttr
  refine wpAny_bind (wpAny_mkText ?_)
  unfold getAttrBy
  dsimp only
  refine wpAny_holding (wpAny_bind (LT.at (wpAny_bind (LG.at ?_))))
  have hne : (onTheHeap (Value.ref D) && Value.builtin "BaseException.__getattribute__" == Value.builtin "object.__getattribute__") = false := by
    rw [show (Value.builtin "BaseException.__getattribute__" == Value.builtin "object.__getattribute__") = false from by decide +kernel, Bool.and_false]
  dsimp only
  rw [hne]
  rw [if_neg Bool.false_ne_true]
  unfold getAttrByItsOwn hookBefore
  rw [if_pos (show onTheHeap (Value.ref D) = true from rfl)]
  refine wpAny_bind (LN.at (wpAny_bind (wpAny_attempt (wpAny_holding ?_))))
  unfold callGetattribute boundAndCalled
  rw [if_neg (show ¬ (b && onTheHeap (Value.builtin "BaseException.__getattribute__")) = true from by rw [show onTheHeap (Value.builtin "BaseException.__getattribute__") = false from rfl, Bool.and_false]; exact Bool.false_ne_true)]
  have fb := PySem.F.attrBase_ValueError.ga
  rw [fb.bind (.ref x)]
  refine wpAny_bind (wpAny_pure ?_)
  refine wpAny_call (codeAny_call_builtin fb.plain F.entry_bexc_ga ?_)
  have k1 : builtinKind "BaseException.__getattribute__" = some .slot := by decide +kernel
  have k2 : splitId "BaseException.__getattribute__" = some ("BaseException", "__getattribute__") := by decide +kernel
  have k3 := F.args_bexc_ga (.ref x) (.str name t)
  simp only [checkBuiltinCall, k1, k2, List.cons_append, List.nil_append]
  refine wpAny_bind ?_
  unfold isInstance
  refine wpAny_bind (LT.at (LB.at ?_))
  rw [if_neg (by decide)]
  refine wp_eq k3 (wpAny_pure ?_)
  unfold Builtin.«object.__getattribute__»
  obtain ⟨od, hod, hlk⟩ := lookIn_ns hn
  have IA : InstAt hh x oe D (some od) := ⟨he, hc, by unfold notCls; rw [hd], by rw [hx]; exact hod⟩
  have hD : hasDictIn K D = true := by unfold hasDictIn; rw [hcd]; exact hdict
  have LFi := looks_find (M := model prog w) X IA (findObj_own hD ha rfl (by rw [hlk, hv]))
  rw [show slotArgs "__getattribute__" 1 { pos := [Value.ref x, Value.str name t] } = pure (.ref x, [.str name t]) from rfl]
  refine wpAny_bind (wpAny_pure (wpAny_bind ?_))
  unfold attrName
  refine wpAny_pure (wpAny_bind (LT.at (wpAny_bind (LFi.at ?_))))
  refine wpAny_pure ?_
  show wpAny _ _ (handedOut v) _ _ _
  rw [handedOut_of hv']
  exact wpAny_pure h
end
end L2

set_option Elab.async false
set_option linter.all false
set_option maxRecDepth 100000
set_option maxHeartbeats 4000000
namespace L2
open PySem PySem.Spec PyProof.Rows
/-! ### exceptions as things: made, their attributes set and read -/
/-- the exception at ea, as it was made (its dict, its args at t), not yet raised -/
abbrev excX (ea C : Addr) (od : Option Addr) (t : Addr) : HO := .ext fun h => h.get? ea = some { cls := .ref C, dict := od, data := .fields #[.ref t, .none, .none, .none, .bool false, .none] }
theorem excX_ok {P : Program} {w : World} {H : Hp} {h : Heap} {ea C t : Addr} {od : Option Addr} (e : h.get? ea = some { cls := .ref C, dict := od, data := .fields #[.ref t, .none, .none, .none, .bool false, .none] }) : ObjOk P w H h ea (excX ea C od t) :=
  ⟨e, ⟨_, e⟩, fun g1 g2 q k => k _ q⟩
section
variable {X : Cx} {pins : List (Addr × Obj)} {σ : St} {H : Hp} {s : Shared} {x C t : Addr} {f : Str} {y : V} {u : Value} {A : Around} {E : Value → Shared → Prop}
theorem excX_at {od : Option Addr} (I : Inv X pins σ H s) (e : H x = some (excX x C od t)) : s.heap.get? x = some { cls := .ref C, dict := od, data := .fields #[.ref t, .none, .none, .none, .bool false, .none] } := (I.hok x _ e).1
theorem setX_ok {Q : Unit → Shared → Prop} (I : Inv X pins σ H s) (e : H x = some (excX x C none t)) (m : XSet X.K C) (n : NoAttr X.K C f) (ry : RelV y u)
    (h : ∀ dx s', H dx = none → Inv X pins σ (upd (upd H x (excX x C (some dx) t)) dx (.xd [(f, y)])) s' → Q () s') : wpAny (model X.prog X.w) A (setAttr (.ref x) f u) Q E s := by
  have hx := excX_at I e
  have hsz : H s.heap.objs.size = none := I.hok.fresh (Nat.le_refl _)
  refine set_exc I.kIn m n hx rfl rfl rfl fun h' k e1 ns => h s.heap.objs.size _ hsz ?_
  have I1 : Inv X pins σ (upd H x (excX x C (some s.heap.objs.size) t)) { s with heap := h', toks := s.toks + 2 } :=
    I.write (by rw [e]; exact True.intro) (.inl rfl) k ⟨_, e1⟩ (excX_ok e1)
  have nx : s.heap.objs.size ≠ x := Ne.symm (Nat.ne_of_lt (Heap.lt_size hx))
  refine I1.track (by rw [upd_ne nx]; exact hsz) ⟨_, ns, fun g => ?_⟩ (fun v e2 _ _ => ?_) (fun z => ?_) (fun z c e2 z2 => ?_) fun p hp z => ?_
  · show RelO (List.lookup g [(f, y)]) (if g = f then some u else none)
    by_cases q : g = f
    · subst q; rw [List.lookup_cons_self, if_pos rfl]; exact ry
    · rw [List.lookup_cons, beq_eq_false_iff_ne.mpr q, if_neg q]; trivial
  · exact absurd (Heap.lt_size e2) (Nat.not_lt.mpr I.sz)
  · have := I.lt
    rw [z] at this
    exact absurd this (Nat.lt_irrefl _)
  · obtain ⟨v, oc, hoc, _⟩ := I.cell z c e2
    rw [z2] at hoc
    exact absurd (Heap.lt_size hoc) (Nat.lt_irrefl _)
  · have := (I.pin p hp).1
    rw [z] at this
    exact absurd (Heap.lt_size this) (Nat.lt_irrefl _)
theorem getX_ok {b : Bool} {dx : Addr} {fs : List (Str × V)} {v : V} {Q : Value → Shared → Prop} (I : Inv X pins σ H s) (e : H x = some (excX x C (some dx) t)) (ed : H dx = some (.xd fs)) (c : ExcCls X.K C) (m : XSet X.K C) (n : NoAttr X.K C f) (l : fs.lookup f = some v)
    (h : ∀ u s', Inv X pins σ H s' → RelV v u → Q u s') : wpAny (model X.prog X.w) A (getAttr (.ref x) f b) Q E s := by
  have hx := excX_at I e
  obtain ⟨mA, ns, r⟩ := I.hok dx _ ed
  obtain ⟨u, hu, ru⟩ := RelO.some_of (v := v) (o := mA f) (by rw [← l]; exact r f)
  exact get_exc c m I.kIn n hx rfl rfl rfl ns hu (handed_of ru) (h u _ (I.tok _) ru)
end
/-! the rules -/
def sFldX (K : PySem.W.Frag) (ta tv : TE) (f : Str) : TS := fun D σ H => tv σ H fun y H1 => ta σ H1 fun x H2 => ∃ (a C t : Addr), x = .ref a ∧ H2 a = some (excX a C none t) ∧ XSet K C ∧ NoAttr K C f ∧ ∀ dx, H2 dx = none → D.nx σ (upd (upd H2 a (excX a C (some dx) t)) dx (.xd [(f, y)]))
def tFldX (K : PySem.W.Frag) (ta : TE) (f : Str) : TE := fun σ H Q => ta σ H fun x H1 => ∃ (a C t dx : Addr) (fs : List (Str × V)) (v : V), x = .ref a ∧ H1 a = some (excX a C (some dx) t) ∧ H1 dx = some (.xd fs) ∧ ExcCls K C ∧ XSet K C ∧ NoAttr K C f ∧ fs.lookup f = some v ∧ Q v H1
section
variable {X : Cx} {o e value : Expr} {f : Str} {pos pos' tpos : Pos} {ta tv : TE}
theorem ps_fldX (ha : PE X o ta) (hv : PE X value tv) (hs : swapsWith value (some (.Attribute o f pos')) pos.line X.env = pure false) : PS X (.Assign [.Attribute o f pos'] value pos) (sFldX X.K ta tv f) := by
  refine ⟨?_⟩
  intro pins s σ H D I h
  refine plainObj_wpAny_Assign_Attribute (thn (hv pins s σ H _ I h) fun u s1 ⟨y, H1, I1, ry, q⟩ => thn (ha pins s1 σ H1 _ I1 q) fun ov s2 ⟨x, H2, I2, rx, a, C, t, ex, ea, c, n, q2⟩ => ?_) hs
  subst ex
  obtain rfl : ov = Value.ref a := rx
  exact setX_ok I2 ea c n ry fun dx s3 hdx I3 => ⟨σ, _, I3, q2 dx hdx⟩
theorem pe_fldX (he : PE X e ta) (hb : attributeBase e f X.env (eval e X.env) = eval e X.env) : PE X (.Attribute e f pos) (tFldX X.K ta f) := by
  refine ⟨?_⟩
  intro pins s σ H Q I h
  refine attr_of hb (thn (he pins s σ H _ I h) fun u s1 ⟨x, H1, I1, rx, a, C, t, dx, fs, v, ex, ea, ed, c, m, n, l, q⟩ => ?_)
  subst ex
  obtain rfl : u = Value.ref a := rx
  exact getX_ok I1 ea ed c m n l fun u' s2 I2 ru => ⟨v, H1, I2, ru, q⟩
end
/-! C(..), an own exception class with an own __init__ -/
def tMakeX (C : Addr) (sp : Sp) (E : XK) (t : TA) : TE := fun σ H Q => t σ H fun vs H1 => vs.length ≤ sizeLine ∧ ∀ x tu, H1 x = none → H1 tu = none → tu ≠ x → sp (.ref x :: vs) (upd H1 x (excX x C none tu)) (fun v H2 => v = .non ∧ Q (.ref x) H2) E
section
variable {X : Cx} {CX : CXT} {k : Nat} {f C : Addr} {fd : FuncData} {ps : List Str} {sp : Sp} {E : XK} {x : Str} {p pos : Pos} {e : Expr} {es : List Expr} {t : TA}
theorem Inv.madeX {pins : List (Addr × Obj)} {σ : St} {H : Hp} {s : Shared} {us : List Value} (I : Inv X pins σ H s) : Inv X pins σ (upd H (s.heap.objs.size + 1) (excX (s.heap.objs.size + 1) C none s.heap.objs.size)) { s with heap := (s.heap.push (tupNew us)).push (excNew C s.heap.objs.size) } := by
  refine I.laid (fun b u e => Heap.get?_push_of_some _ (Heap.get?_push_of_some _ e)) (Nat.le_succ _) (excX_ok ?_)
  have := Heap.get?_push_size (s.heap.push (tupNew us)) (o := excNew C s.heap.objs.size) rfl
  rwa [Heap.size_push] at this
theorem run_makeX {pins : List (Addr × Obj)} {σ : St} {H : Hp} {s : Shared} {Q : VK} {us : List Value} {vs : List V} (M : XCall X.K C f) (F : FnOk X.prog X.w X.K X.mg X.base CX k f fd ps sp) (hr : Room (k + 1) X.A) (hb : Binds X.K fd ps [])
    (hx : Passes CX X E) (I : Inv X pins σ H s) (r : Vals vs us) (hl : vs.length ≤ sizeLine)
    (h : ∀ x tu, H x = none → H tu = none → tu ≠ x → sp (.ref x :: vs) (upd H x (excX x C none tu)) (fun v H2 => v = .non ∧ Q (.ref x) H2) E) :
    wpAny (model X.prog X.w) X.A (call (.ref C) us) (EP X pins σ Q) X.xe s := by
  have hq := h (s.heap.objs.size + 1) s.heap.objs.size (I.hok.fresh (Nat.le_succ _)) (I.hok.fresh (Nat.le_refl _)) (Nat.ne_of_lt (Nat.lt_succ_self _))
  have I2 := Inv.madeX (C := C) (us := us) I
  have r2 : Vals (V.ref (s.heap.objs.size + 1) :: vs) (Value.ref (s.heap.objs.size + 1) :: us) := .cons rfl r
  have hl2 : (Value.ref (s.heap.objs.size + 1) :: us ++ []).length = ps.length := by
    have e := r2.length
    rw [F.len _ _ _ _ hq] at e
    rw [List.append_nil]
    exact e.symm
  have hb2 := hb _ (Value.ref (s.heap.objs.size + 1) :: us) I2.kIn hl2
  rw [List.append_nil] at hb2
  refine wpAny_call (exc_call I.kIn M (by rw [← r.length]; exact hl) (codeAny_mono (F.run _ X.stack _ _ ⟨Value.ref (s.heap.objs.size + 1) :: us, []⟩ (Value.ref (s.heap.objs.size + 1) :: us) _ _ E (hr.make C us [])
    (I2.env0.make C us []) hb2 r2 hq) fun r s' hq' => ?_))
  cases r with
  | error e => exact hx pins σ _ _ e s' I2 hq'
  | ok fl =>
    cases fl with
    | ret u =>
      obtain ⟨v, H', I3, rv, ev, q3⟩ := I2.after hq'
      subst ev
      exact ⟨rv, ⟨V.ref (s.heap.objs.size + 1), H', I3, rfl, q3⟩⟩
    | next => exact False.elim hq'
    | brk => exact False.elim hq'
    | cont => exact False.elim hq'
theorem pe_makeX (M : XCall X.K C f) (F : FnOk X.prog X.w X.K X.mg X.base CX k f fd ps sp) (hr : Room (k + 1) X.A) (hg : Gl X x) (hm : X.mg x = some (.ref C)) (hb : Binds X.K fd ps []) (hx : Passes CX X E)
    (ha : PA X (e :: es) t) (hdb : (x == ("__debug__" : Str)) = false := by decide) (he : starEach (e :: es) X.env = (false, eval e X.env) :: starEach es X.env := by rfl) (hpl : (backTo pos (starEach es X.env)).any (·.1) = false := by rfl) :
    PE X (.Call (.Name x p) (e :: es) [] pos) (tMakeX C sp E t) := by
  refine ⟨?_⟩
  intro pins s σ H Q I h
  refine wpAny_Call_Name_kw (ld_glob I hg hm ?_ hdb)
  refine PySem.W.callWith_K (h₀ := X.base) I.ok.mod.kin M.kp (thn (ha pos pins s σ H _ I h) fun us s1 ⟨vs, H1, I1, r, hl, q⟩ => ⟨I1.kIn, ?_⟩) he hpl
  exact run_makeX M F hr hb hx I1 r hl q
end
end L2

set_option Elab.async false
set_option linter.all false
set_option maxRecDepth 100000
set_option maxHeartbeats 4000000
namespace L2
open PySem PySem.Spec PyProof.Rows
/-! ### raise C(..), C with an own __init__ -/
def drop (H : Hp) (a : Addr) : Hp := fun b => if b = a then none else H b
theorem drop_same {H : Hp} {a : Addr} : drop H a a = none := by unfold drop; rw [if_pos rfl]
theorem drop_ne {H : Hp} {a b : Addr} (h : b ≠ a) : drop H a b = H b := by unfold drop; rw [if_neg h]
theorem drop_some {H : Hp} {a b : Addr} {u : HO} (h : drop H a b = some u) : b ≠ a ∧ H b = some u := by
  unfold drop at h
  split at h
  · cases h
  · exact ⟨‹_›, h⟩
theorem HOk.drop {P : Program} {w : World} {H : Hp} {h : Heap} {a : Addr} {φ : Heap → Prop} (x : HOk P w H h) (ha : H a = some (.ext φ)) : HOk P w (drop H a) h := fun b u e => by
  obtain ⟨hb, e⟩ := drop_some e
  exact (x b u e).stay (fun _ _ _ q => q) (fun c q => by rw [drop_ne (fun z => by rw [z, ha] at q; cases q)]; exact q) fun c xs q => by rw [drop_ne (fun z => by rw [z, ha] at q; cases q)]; exact q
section
variable {X : Cx} {pins : List (Addr × Obj)} {σ : St} {H : Hp} {s : Shared} {ea C t : Addr} {od : Option Addr} {M : Model} {E : Value → Shared → Prop}
end
end L2

set_option Elab.async false
set_option linter.all false
set_option maxRecDepth 100000
set_option maxHeartbeats 4000000
namespace L2
open PySem PySem.Spec PyProof.Rows
section
variable {X : Cx} {E : XK} {pos : Pos} {e : Expr} {te : TE}
end
section
variable {P : Program} {w : World} {K : PySem.W.Frag} {mg : Str → Option Value} {base : Heap} {N : List Str} {qual : Str} {scope : Scope} {f : Addr} {cd : Value} {A : Around} {outer : List Env} {s : Shared} {H : Hp} {E E' : XK}
end
/-! C(..), an own exception class without __init__, as a thing -/
def tMakeP (C : Addr) (t : TA) : TE := fun σ H Q => t σ H fun vs H1 => vs.length ≤ sizeLine ∧ ∀ x tu, H1 x = none → Q (.ref x) (upd H1 x (excX x C none tu))
section
variable {X : Cx} {x : Str} {C : Addr} {B Bn newId nid initId inN : String} {bm bmN : List Value} {np pos : Pos} {e : Expr} {es : List Expr} {t : TA}
theorem Inv.madeP {pins : List (Addr × Obj)} {σ : St} {H : Hp} {s : Shared} {vs : List Value} {h' : Heap} {ea : Addr} (I : Inv X pins σ H s) (hm : Heap.MadeExcOf s.heap h' ea (.ref C) vs) : H ea = none ∧ ∃ tu, Inv X pins σ (upd H ea (excX ea C none tu)) { s with heap := h' } := by
  have hn : H ea = none := by
    cases q : H ea with
    | none => rfl
    | some u =>
      obtain ⟨o, e⟩ := I.hok.rec q
      rw [hm.new] at e; cases e
  obtain ⟨tu, h1, _, _⟩ := hm.there
  refine ⟨hn, tu, (I.kept (t' := s.toks) hm.keeps).track hn (excX_ok h1) (fun u e2 n x => ?_) (fun z => ?_) (fun z c e2 z2 => ?_) fun p hp z => ?_⟩
  · obtain ⟨o, e3⟩ := I.base.there ea u e2 x
    rw [hm.new] at e3; cases e3
  · obtain ⟨m, ⟨oL, es, ep, hoL, _⟩, _⟩ := I.loc
    rw [z, hm.new] at hoL; cases hoL
  · obtain ⟨v, oc, hoc, _⟩ := I.cell z c e2
    rw [z2, hm.new] at hoc; cases hoc
  · have := (I.pin p hp).1
    rw [z, hm.new] at this; cases this
theorem pe_makeP (O : OwnCls x C bm newId X.mg X.base) (kp : PySem.W.keepIn X.K (.ref C) = true) (Fn : ExcBaseFacts Bn newId inN bmN) (hBn : bm.contains (.type Bn) = true) (FB : ExcBaseFacts B nid initId bm) (ha : PA X (e :: es) t)
    (hg : Gl X x := by rfl) (hdb : (x == ("__debug__" : Str)) = false := by decide) (he : starEach (e :: es) X.env = (false, eval e X.env) :: starEach es X.env := by rfl) (hpl : (backTo pos (starEach es X.env)).any (·.1) = false := by rfl) :
    PE X (.Call (.Name x np) (e :: es) [] pos) (tMakeP C t) := by
  refine ⟨?_⟩
  intro pins s σ H Q I h
  obtain ⟨tl, N, nm, q, bs, hdct, sn, sub, ab, col, dd, k0, k1, k2, k3, k5, mN, hC, hN, hni, T⟩ := O.obj
  refine wpAny_Call_Name_kw (ld_glob I hg O.bound ?_ hdb)
  refine PySem.W.callWith_K (h₀ := X.base) I.ok.mod.kin kp (thn (ha pos pins s σ H _ I h) fun us s1 ⟨vs, H1, I1, r, hl, q⟩ => ⟨I1.kIn, ?_⟩) he hpl
  obtain ⟨hh, g, d, tk, os⟩ := s1
  refine wpAny_call_exc_subU Fn hBn FB (T.keeps I1.bk) (I1.bk _ _ hC) (hN.keeps I1.bk) hni (fun h' ea hm => ?_) (by rw [List.nil_append, ← r.length]; exact hl)
  obtain ⟨hn, tu, I2⟩ := I1.madeP hm
  exact ⟨.ref ea, _, I2, rfl, q ea tu hn⟩
end
end L2

set_option Elab.async false
set_option linter.all false
set_option maxRecDepth 100000
set_option maxHeartbeats 4000000
namespace L2
open PySem PySem.Spec PyProof.Rows
section
variable {X : Cx} {pins : List (Addr × Obj)} {σ : St} {H : Hp} {s : Shared} {M : Model} {A : Around} {E : Value → Shared → Prop} {i : Nat} {n : Str} {pos : Pos}
/-- the name of an except clause goes behind its suite: where a block has it, too -/
theorem name_goesC {Q : Unit → Shared → Prop} (I : Inv X pins σ H s) (hN : X.N.Nodup) (hi : X.N[i]? = some n) (hk : X.env.scope.names.lookup n = some .cell) (hfn : X.fn n = true) (h : ∀ s', Inv X pins (σ.set i none) H s' → Q () s') :
    wpAny M A (do bindName X.env n .none; unbindBehindTheSuite X.env n pos) Q E s := by
  refine wpAny_bind (wpAny_bindName (store_ok (v := .non) (u := .none) I hN hi (.inr hk) rfl (fun s1 I1 => ?_) (.inl hfn)))
  unfold unbindBehindTheSuite
  refine wpAny_onRaise ?_
  have hiσ : i < σ.length := by rw [I.len]; exact (List.getElem?_eq_some_iff.mp hi).1
  obtain ⟨m, hn, hl⟩ := id I1.loc
  obtain ⟨c, hc⟩ := I1.ok.has n (.inl hk)
  obtain ⟨u0, _, lk⟩ := hl i n .non hi (by rw [List.getElem?_set_self hiσ]) (.inr (.inl hk))
  have z : s1.heap.IsCell c (some u0) := by
    rcases lk with ⟨k, _⟩ | ⟨_, c', e, z⟩
    · have k' : X.env.scope.names.lookup n = some .local := k
      rw [hk] at k'; cases k'
    · rw [hc] at e; cases e; exact z
  have cne := I1.cne
  have hkind : X.env.kindOf n = some .cell := hk
  have tracked : ∀ {a : Addr} {h' : Heap}, (∃ o, s1.heap.get? a = some o ∧ H a = none) → Heap.SameBut a s1.heap h' → HOk X.prog X.w H h' := fun {a h'} ha hs b ob e => by
    obtain ⟨_, _, hfree⟩ := ha
    refine (I1.hok b ob e).stay (fun c w' hc q => (hs.2 c ?_).trans q) (fun _ q => q) fun _ _ q => q
    rintro rfl
    rcases hc with rfl | hc
    · rw [hfree] at e; cases e
    · rw [hfree] at hc; cases hc
  unfold unbindName
  refine wpAny_bind (wpAny_point (wpAny_bind ?_))
  unfold deleteName
  rw [hkind]
  dsimp only
  refine wpAny_bind (wpAny_cellOf hc (wpAny_bind (wpAny_cellGet z ?_)))
  rw [if_pos rfl]
  refine wpAny_cellSet z fun h' hc' hs => wpAny_point ?_
  obtain ⟨oc, hoc, hocd⟩ := id z
  refine h { s1 with heap := h' } ⟨I1.ok, I1.os, I1.bare, ⟨fun b o e n hb hx => ?_, fun b o e n hb hx => ?_, I1.base.free, fun b o e hx => ?_, I1.base.tups, I1.base.frzs, I1.base.tbls⟩, ⟨m, hn.sameBut hs (Ne.symm (cne n c hc)), fun j y v' e1 e2 e3 => ?_⟩, fun y c' e => ?_, I1.free, I1.freeC, fun p hp => ?_, tracked ⟨oc, hoc, I1.freeC n c hc⟩ hs, by rw [List.length_set]; exact I.len⟩
  · exact (hs.2 b (Nat.ne_of_lt (Nat.lt_of_lt_of_le (Heap.lt_size e) (I1.ok.cab _ c hfn hc)))).trans (I1.base.keep b o e n hb hx)
  · obtain ⟨sl, e1⟩ := I1.base.slot b o e n hb hx
    exact ⟨sl, (hs.2 b (Nat.ne_of_lt (Nat.lt_of_lt_of_le (Heap.lt_size e) (I1.ok.cab _ c hfn hc)))).trans e1⟩
  · obtain ⟨o', e1⟩ := I1.base.there b o e hx
    exact ⟨o', (hs.2 b (Nat.ne_of_lt (Nat.lt_of_lt_of_le (Heap.lt_size e) (I1.ok.cab _ c hfn hc)))).trans e1⟩
  · by_cases hj : j = i
    · subst hj
      rw [List.getElem?_set_self hiσ] at e2
      cases e2
    · rw [List.getElem?_set_ne (Ne.symm hj)] at e2
      obtain ⟨u', r', q⟩ := hl j y v' e1 (by rw [List.getElem?_set_ne (Ne.symm hj)]; exact e2) e3
      refine ⟨u', r', ?_⟩
      rcases q with q | ⟨k, c', e, z'⟩
      · exact .inl q
      · refine .inr ⟨k, c', e, z'.sameBut hs ?_⟩
        rintro rfl
        exact hj (nodup_ix hN e1 (I1.ok.inj _ _ _ e hc ▸ hi))
  · by_cases hcc : c' = c
    · subst hcc; exact ⟨_, hc'⟩
    · obtain ⟨w2, z2⟩ := I1.cell y c' e
      exact ⟨w2, z2.sameBut hs hcc⟩
  · obtain ⟨e, n', ne, nf, d⟩ := I1.pin p hp
    refine ⟨(hs.2 p.1 ?_).trans e, n', ne, nf, d⟩
    intro q
    rw [q, hoc] at e
    have q' : oc = p.2 := Option.some.inj e
    exact d _ (by rw [← q']; exact hocd)
end
section
variable {X : Cx} {pins : List (Addr × Obj)} {σ : St} {H : Hp} {s : Shared} {ea : Addr}
variable {st b₀ : Stmt} {suite : List Stmt} {c n : Str} {np hpos pos : Pos} {C : Addr} {i : Nat} {tb : XK → TS} {ts : TS} {ok : Value → Prop}
end
section
variable {X : Cx} {pins : List (Addr × Obj)} {σ : St} {e : Expr} {es : List Expr} {t : TA} {E : XK} {x : Str} {p pos : Pos} {k : Nat} {f C : Addr} {fd : FuncData} {ps : List Str} {sp : Sp} {dvs : List V} {ds : List Value}
end
end L2

set_option Elab.async false
set_option linter.all false
set_option maxRecDepth 100000
set_option maxHeartbeats 4000000
namespace L2
open PySem PySem.Spec PyProof.Rows
/-! ### an exception in flight, its object known -/
abbrev excF (C : Addr) (od : Option Addr) (t : Addr) (tb : Value) : Obj := { cls := .ref C, dict := od, data := .fields #[.ref t, tb, .none, .none, .bool false, .none] }
/-- it has been noted: its traceback stands outside the base -/
def TrS (h base : Heap) (e C : Addr) (od : Option Addr) (t : Addr) : Prop := ∃ (tb : Addr) (oT : Obj) (ts : Array Value), h.get? e = some (excF C od t (.ref tb)) ∧ base.get? tb = none ∧ tb ≠ e ∧ h.get? tb = some oT ∧ oT.data = .fields ts ∧ ts[3]? = some .none
section
variable {M : Model} {A : Around} {E : Value → Shared → Prop} {s : Shared} {base : Heap} {env : Env} {outer : List Env} {L e C t : Addr} {od : Option Addr} {tb0 head : Value} {hn : Bool} {Q : Unit → Shared → Prop}
theorem entryS (fr : A.frames = some (env :: outer)) (fl : s.heap.FunFrames base (env :: outer)) (hfl : env.frame = some L) (he : s.heap.get? e = some (excF C od t tb0)) (hst : base.StaysIn s.heap) (hb : base.get? e = none)
    (q : ∀ h' : Heap, base.StaysIn h' → h'.FunFrames base (env :: outer) → TrS h' base e C od t → s.heap.UpToSlots h' → Q () { s with heap := h' }) :
    wpAny M A (do
      let a ← frameOf env
      let pl ← entryPlaceOf L hn
      let b ← EntryCells.newEntry head a Value.none (rawInt L) Value.none pl
      setField (Value.ref e) 1 b) (fun _ s' => wpAny M A (setFlight (Value.ref e) none) Q E s') E s := by
  refine wpAny_bind (wpAny_frameOf_fun fr fl hfl fun h1 so => ?_)
  obtain ⟨sz, oth, sl⟩ := so
  refine wpAny_bind (wpAny_entryPlaceOf fun pl hpl => ?_)
  unfold EntryCells.newEntry newFields
  have eS : e ∉ List.filterMap (fun x : Env => x.frame) (env :: outer) := fun z => by
    obtain ⟨_, o, ho, hd⟩ := fl.mem z
    rw [he] at ho
    cases ho
    exact hd _ rfl
  have e1 : h1.get? e = some (excF C od t tb0) := (oth e eS).trans he
  have lp : (if pl.isEmpty = true then List.replicate 6 Value.none else pl).length = 6 := by
    rcases hpl with rfl | ⟨a, b, c, d, c9, b10, _, rfl⟩ <;> rfl
  have sz11 : ([head, Value.ref L, Value.none, rawInt L, Value.none] ++ if pl.isEmpty = true then List.replicate 6 Value.none else pl).length = 11 := by
    rw [List.length_append, lp]
    rfl
  have hL : A.frames = some (env :: outer) := fr
  generalize hcells : ([head, Value.ref L, Value.none, rawInt L, Value.none] ++ if pl.isEmpty = true then List.replicate 6 Value.none else pl) = cells at sz11 ⊢
  have c3 : cells[3]? = some (rawInt L) := by rw [← hcells]; rfl
  refine wpAny_bind (wpAny_newObj_type ?_ (by show sizeOk (Data.fields cells.toArray); unfold sizeOk; simp only [List.size_toArray, sz11]; decide))
  dsimp only
  have hlt : e < h1.objs.size := Heap.lt_size e1
  have ne : h1.objs.size ≠ e := Nat.ne_of_gt hlt
  refine wpAny_setField (Heap.get?_push_of_some _ e1) rfl (by show 1 < 6; decide) ?_
  have x2 : ((h1.push { cls := .type "traceback", data := .fields cells.toArray }).update e (Obj.mapFields fun x => x.setIfInBounds 1 (.ref h1.objs.size))).get? e = some (excF C od t (.ref h1.objs.size)) :=
    Heap.get?_update_self _ (Heap.get?_push_of_some _ e1) rfl
  have x3 : ((h1.push { cls := .type "traceback", data := .fields cells.toArray }).update e (Obj.mapFields fun x => x.setIfInBounds 1 (.ref h1.objs.size))).get? h1.objs.size = some { cls := .type "traceback", data := .fields cells.toArray } := by
    rw [Heap.get?_update_ne _ _ _ _ ne]
    exact Heap.get?_push_size h1 rfl
  have x4 : ∀ b o, b ≠ e → h1.get? b = some o → ((h1.push { cls := .type "traceback", data := .fields cells.toArray }).update e (Obj.mapFields fun x => x.setIfInBounds 1 (.ref h1.objs.size))).get? b = some o := fun b o hbe hbo => by
    rw [Heap.get?_update_ne _ _ _ _ hbe]
    exact Heap.get?_push_of_some _ hbo
  generalize (h1.push { cls := .type "traceback", data := .fields cells.toArray }).update e (Obj.mapFields fun x => x.setIfInBounds 1 (.ref h1.objs.size)) = h2 at x2 x3 x4 ⊢
  unfold setFlight
  refine wpAny_bind (wpAny_field (x := .ref h1.objs.size) x2 rfl rfl ?_)
  rw [if_pos (show (Value.ref h1.objs.size != Value.none) = true from rfl)]
  refine wpAny_setField x3 rfl (by rw [List.size_toArray, sz11]; decide) ?_
  show Q () { s with heap := h2.update h1.objs.size (Obj.mapFields fun x => x.setIfInBounds 3 Value.none) }
  have y1 : ∀ b, b ≠ h1.objs.size → (h2.update h1.objs.size (Obj.mapFields fun x => x.setIfInBounds 3 Value.none)).get? b = h2.get? b := fun b hb' => Heap.get?_update_ne _ _ _ _ hb'
  have y2 : (h2.update h1.objs.size (Obj.mapFields fun x => x.setIfInBounds 3 Value.none)).get? h1.objs.size = some { cls := .type "traceback", data := .fields (cells.toArray.setIfInBounds 3 .none) } := Heap.get?_update_self _ x3 rfl
  have kp : ∀ b o, s.heap.get? b = some o → (∀ vs, o.data ≠ .fields vs) → ∃ sl, (h2.update h1.objs.size (Obj.mapFields fun x => x.setIfInBounds 3 Value.none)).get? b = some { o with slots := sl } := fun b o hbo hd => by
    obtain ⟨sl', hs'⟩ := sl b o hbo
    have n1 : b ≠ h1.objs.size := Nat.ne_of_lt (Heap.lt_size hs')
    have n2 : b ≠ e := fun z => by rw [z, he] at hbo; cases hbo; exact hd _ rfl
    exact ⟨sl', by rw [y1 b n1]; exact x4 b _ n2 hs'⟩
  refine q _ (fun b o hbo => ?_) (fl.of_keeps fun b o hbo hd => ?_) ?_ kp
  · have n0 : b ∉ List.filterMap (fun x : Env => x.frame) (env :: outer) := fun z => by
      rw [(fl.mem z).1] at hbo; cases hbo
    have hs' := (oth b n0).trans (hst b o hbo)
    have n1 : b ≠ h1.objs.size := Nat.ne_of_lt (Heap.lt_size hs')
    have n2 : b ≠ e := fun z => by rw [z, hb] at hbo; cases hbo
    rw [y1 b n1]
    exact x4 b o n2 hs'
  · obtain ⟨sl', hs'⟩ := kp b o hbo hd
    exact ⟨_, hs', rfl⟩
  · refine ⟨h1.objs.size, _, _, (by rw [y1 e (Ne.symm ne)]; exact x2), ?_, ne, y2, rfl, ?_⟩
    · cases z : base.get? h1.objs.size with
      | none => rfl
      | some o =>
        have := Heap.lt_size (hst _ o z)
        rw [← sz] at this
        exact absurd this (Nat.lt_irrefl _)
    · rw [Array.getElem?_setIfInBounds_self_of_lt (by rw [List.size_toArray, sz11]; decide)]
/-- the frame is noted, then the flight's mark goes: the exception new, or noted already -/
theorem noteS (fr : A.frames = some (env :: outer)) (fl : s.heap.FunFrames base (env :: outer)) (hfl : env.frame = some L) (hst : base.StaysIn s.heap) (hb : base.get? e = none)
    (he : s.heap.get? e = some (excF C od t .none) ∨ TrS s.heap base e C od t)
    (q : ∀ h' : Heap, base.StaysIn h' → h'.FunFrames base (env :: outer) → TrS h' base e C od t → s.heap.UpToSlots h' → Q () { s with heap := h' }) :
    wpAny M A (noteFrame (.ref e) env) (fun _ s' => wpAny M A (setFlight (.ref e) none) Q E s') E s := by
  unfold noteFrame
  rw [hfl]
  dsimp only
  rcases he with he | ⟨tb, oT, ts, h1, h2, h3, h4, h5, h6⟩
  · refine wpAny_bind (wpAny_field (x := Value.none) he rfl rfl ?_)
    rw [if_neg (show ¬ (Value.none != Value.none) = true by decide)]
    exact entryS fr fl hfl he hst hb q
  · refine wpAny_bind (wpAny_field (x := .ref tb) h1 rfl rfl ?_)
    rw [if_pos (show (Value.ref tb != Value.none) = true from rfl)]
    refine wpAny_bind (wpAny_field (x := Value.none) h4 h5 h6 ?_)
    rw [if_neg (show ¬ (Value.none == rawInt (L : Nat)) = true from fun z => by cases z)]
    have l3 : 3 < ts.size := by
      have := (Array.getElem?_eq_some_iff.mp h6).1
      exact this
    refine wpAny_bind (wpAny_setField h4 h5 l3 ?_)
    have z1 : ∀ b, b ≠ tb → (s.heap.update tb (Obj.mapFields fun x => x.setIfInBounds 3 Value.none)).get? b = s.heap.get? b := fun b hb' => Heap.get?_update_ne _ _ _ _ hb'
    have up : s.heap.UpToSlots (s.heap.update tb (Obj.mapFields fun x => x.setIfInBounds 3 Value.none)) := fun b o hbo hd => by
      have n : b ≠ tb := fun z => by rw [z, h4] at hbo; cases hbo; exact hd _ h5
      exact ⟨o.slots, by rw [z1 b n]; exact hbo⟩
    refine entryS (s := { s with heap := s.heap.update tb (Obj.mapFields fun x => x.setIfInBounds 3 Value.none) }) fr (fl.of_keeps fun b o hbo hd => ?_) hfl (tb0 := .ref tb) (by rw [z1 e (Ne.symm h3)]; exact h1) (fun b o hbo => ?_) hb fun h' a1 a2 a3 a4 => q h' a1 a2 a3 (up.trans a4)
    · obtain ⟨sl, hs⟩ := up b o hbo hd
      exact ⟨_, hs, rfl⟩
    · have n : b ≠ tb := fun z => by rw [z, h2] at hbo; cases hbo
      show (s.heap.update tb (Obj.mapFields fun x => x.setIfInBounds 3 Value.none)).get? b = some o
      rw [z1 b n]
      exact hst b o hbo
end
end L2

set_option Elab.async false
set_option linter.all false
set_option maxRecDepth 100000
set_option maxHeartbeats 4000000
namespace L2
open PySem PySem.Spec PyProof.Rows
def FlS (B : Heap) (l : List Env) (e C : Addr) (od : Option Addr) (t : Addr) (h : Heap) : Prop := B.StaysIn h ∧ B.get? e = none ∧ h.FunFrames B l ∧ TrS h B e C od t
structure FlyS (P : Program) (w : World) (outer : List Env) (H : Hp) (s : Shared) (C : Addr) (od : Option Addr) (t : Addr) (H' : Hp) (ea : Addr) (s' : Shared) : Prop where
  os : s'.os = s.os
  bare : AllBare s'.gens
  un : Un (frs outer) [] H H' s.heap s'.heap
  hok : HOk P w H' s'.heap
  nt : H' ea = none
  fly : ∃ B, FlS B outer ea C od t s'.heap ∧ (∀ b u, H' b = some u → ∃ o, B.get? b = some o) ∧ (∀ b o, s.heap.get? b = some o → H b = none → b ∉ frs outer → B.get? b = some o) ∧
    ∀ b o, s.heap.get? b = some o → b ∉ frs outer → ∃ o', B.get? b = some o'
abbrev CXs (P : Program) (w : World) : CXT := fun outer H s E e s' => ∃ ea C od t H', e = .ref ea ∧ FlyS P w outer H s C od t H' ea s' ∧ E (.ref C) od H'
section
variable {X : Cx} {pins : List (Addr × Obj)} {σ : St} {H H' : Hp} {s s' : Shared} {ea C t : Addr} {od : Option Addr} {M : Model} {E : Value → Shared → Prop}
theorem fly_madeS (I : Inv X pins σ H s) (hstk : X.stack = X.env :: X.outer) (hfl : X.env.frame = some X.env.locals) (hex : X.ex = []) (hx : H ea = some (excX ea C od t)) (hnew : X.H₀ ea = none) :
    wpAny M X.A (leaving X.env (.ref ea)) (fun _ s'' => FlyS X.prog X.w X.outer X.H₀ X.s₀ C od t (drop H ea) ea s'') E s := by
  have fr := frs_stack hstk hfl
  have he := excX_at I hx
  have fl : s.heap.FunFrames (PySem.W.hideAll s.heap (ea :: frs X.stack)) (X.env :: X.outer) := by
    have := I.stack
    rw [hstk] at this
    refine PySem.W.funFrames_hide this fun env he b hb => ?_
    rw [hstk]
    exact List.mem_cons_of_mem _ (List.mem_filterMap.mpr ⟨env, he, hb⟩)
  have fr0 := I.ok.frames
  rw [hstk] at fr0
  have neL : ∀ b o, X.s₀.heap.get? b = some o → b ≠ X.env.locals := fun b o e => Nat.ne_of_lt (Nat.lt_of_lt_of_le (Heap.lt_size e) I.ok.above)
  have noEx : ∀ b : Addr, b ∉ X.ex := fun b => by rw [hex]; simp
  have inB : ∀ b o, s.heap.get? b = some o → b ≠ ea → b ∉ frs X.stack → (PySem.W.hideAll s.heap (ea :: frs X.stack)).get? b = some o := fun b o e n1 n => PySem.W.hideAll_get _ e (fun z => (List.mem_cons.mp z).elim n1 n)
  have trB : ∀ b u, H b = some u → b ∉ frs X.stack := fun b u e n => by rw [I.stkFree b n] at e; cases e
  have eaS : ∀ u, X.s₀.heap.get? ea = some u → False := fun u e => by
    have := I.base.free ea u e hnew (noEx ea)
    rw [hx] at this; cases this
  unfold leaving
  refine wpAny_bind (noteS fr0 fl hfl (fun b o q => PySem.W.of_hideAll _ q) (PySem.W.hideAll_none _ List.mem_cons_self) (.inl he) fun h2 x1 x2 x3 x4 => ?_)
  have stay : ∀ b o, s.heap.get? b = some o → b ≠ ea → b ∉ frs X.stack → h2.get? b = some o := fun b o e n1 n => x1 b o (inB b o e n1 n)
  have x2' : h2.FunFrames (PySem.W.hideAll s.heap (ea :: frs X.stack)) X.outer := by
    unfold Heap.FunFrames at x2
    exact x2.2.2
  have nEa : ∀ b o, X.s₀.heap.get? b = some o → b ≠ ea := fun b o e z => by subst z; exact eaS o e
  refine ⟨I.os, I.bare, ⟨fun b o e n hb _ => ?_, fun b o e n hb _ => ?_, fun b o e n _ => ?_, fun b o e _ => ?_, fun b xs e => ?_, fun b u v e => ?_, fun b ps e => ?_⟩, ?_, drop_same, ?_⟩
  · refine stay b o (I.base.keep b o e n hb (noEx b)) (nEa b o e) ?_
    rw [fr]
    exact fun z => (List.mem_cons.mp z).elim (neL b o e) hb
  · obtain ⟨sl, e1⟩ := I.base.slot b o e n hb (noEx b)
    obtain ⟨_, o', ho', hd⟩ := I.funs.mem hb
    rw [e1] at ho'
    cases ho'
    obtain ⟨sl2, e2⟩ := x4 b _ e1 hd
    exact ⟨sl2, e2⟩
  · rw [drop_ne (nEa b o e)]
    exact I.base.free b o e n (noEx b)
  · obtain ⟨o1, e1⟩ := I.base.there b o e (noEx b)
    by_cases hb : b ∈ frs X.stack
    · obtain ⟨_, o', ho', hd⟩ := I.stack.mem hb
      obtain ⟨sl2, e2⟩ := x4 b o' ho' hd
      exact ⟨_, e2⟩
    · exact ⟨o1, stay b o1 e1 (nEa b o e) hb⟩
  · have e1 := I.base.tups b xs e
    rw [drop_ne (fun z => by rw [z, hx] at e1; cases e1)]; exact e1
  · have e1 := I.base.frzs b u v e
    rw [drop_ne (fun z => by rw [z, hx] at e1; cases e1)]; exact e1
  · obtain ⟨more, e1⟩ := I.base.tbls b ps e
    exact ⟨more, by rw [drop_ne (fun z => by rw [z, hx] at e1; cases e1)]; exact e1⟩
  · exact (I.hok.drop hx).sameAt fun b u o e q => stay b o q (drop_some e).1 (trB b u (drop_some e).2)
  · refine ⟨_, ⟨x1, PySem.W.hideAll_none _ List.mem_cons_self, x2', x3⟩, fun b u e => ?_, fun b o e n hb => ?_, fun b o e hb => ?_⟩
    · obtain ⟨n1, e⟩ := drop_some e
      obtain ⟨o, q⟩ := I.hok.rec e
      exact ⟨o, inB b o q n1 (trB b u e)⟩
    · refine inB b o (I.base.keep b o e n hb (noEx b)) (nEa b o e) ?_
      rw [fr]
      exact fun z => (List.mem_cons.mp z).elim (neL b o e) hb
    · obtain ⟨o1, e1⟩ := I.base.there b o e (noEx b)
      refine ⟨o1, inB b o1 e1 (nEa b o e) ?_⟩
      rw [fr]
      exact fun z => (List.mem_cons.mp z).elim (neL b o e) hb
/-- an exception of a callee leaves the frame -/
theorem fly_onS (I : Inv X pins σ H s) (hstk : X.stack = X.env :: X.outer) (hfl : X.env.frame = some X.env.locals) (hex : X.ex = []) (F : FlyS X.prog X.w X.stack H s C od t H' ea s') :
    wpAny M X.A (leaving X.env (.ref ea)) (fun _ s'' => FlyS X.prog X.w X.outer X.H₀ X.s₀ C od t H' ea s'') E s' := by
  have fr := frs_stack hstk hfl
  have fr0 := I.ok.frames
  rw [hstk] at fr0
  obtain ⟨B, fl, tr, old, olds⟩ := F.fly
  have neL : ∀ b o, X.s₀.heap.get? b = some o → b ≠ X.env.locals := fun b o e => Nat.ne_of_lt (Nat.lt_of_lt_of_le (Heap.lt_size e) I.ok.above)
  have noEx : ∀ b : Addr, b ∉ X.ex := fun b => by rw [hex]; simp
  have nst : ∀ b o, X.s₀.heap.get? b = some o → b ∉ frs X.outer → b ∉ frs X.stack := fun b o e hb => by
    rw [fr]
    exact fun z => (List.mem_cons.mp z).elim (neL b o e) hb
  have fl' := fl
  rw [hstk] at fl'
  unfold leaving
  refine wpAny_bind (noteS fr0 fl'.2.2.1 hfl fl'.1 fl'.2.1 (.inr fl'.2.2.2) fun h2 y1 y2 y3 x2 => ?_)
  have x1 : FlS B X.outer ea C od t h2 := ⟨y1, fl'.2.1, (by unfold Heap.FunFrames at y2; exact y2.2.2), y3⟩
  have oldB : ∀ b o, X.s₀.heap.get? b = some o → X.H₀ b = none → b ∉ frs X.outer → B.get? b = some o := fun b o e n hb =>
    old b o (I.base.keep b o e n hb (noEx b)) (I.base.free b o e n (noEx b)) (nst b o e hb)
  refine ⟨F.os.trans I.os, F.bare, ⟨fun b o e n hb _ => x1.1 b o (oldB b o e n hb), fun b o e n hb _ => ?_, fun b o e n _ => ?_, fun b o e _ => ?_, fun b xs e => F.un.tups b xs (I.base.tups b xs e), fun b o u e => F.un.frzs b o u (I.base.frzs b o u e), fun b ps e => ?_⟩, F.hok.sameAt fun b u o e q => ?_, F.nt, ⟨B, x1, tr, oldB, fun b o e hb => ?_⟩⟩
  · obtain ⟨sl, e1⟩ := I.base.slot b o e n hb (noEx b)
    obtain ⟨sl1, e2⟩ := F.un.any e1 (I.base.free b o e n (noEx b)) (by simp)
    have hd : ∀ vs, o.data ≠ .fields vs := by
      obtain ⟨_, o', ho', hd⟩ := I.funs.mem hb
      rw [e1] at ho'
      cases ho'
      exact hd
    obtain ⟨sl2, e3⟩ := x2 b _ e2 hd
    exact ⟨sl2, e3⟩
  · obtain ⟨o', e1⟩ := I.base.there b o e (noEx b)
    exact F.un.free b o' e1 (I.base.free b o e n (noEx b)) (by simp)
  · obtain ⟨o1, e1⟩ := I.base.there b o e (noEx b)
    obtain ⟨o2, e2⟩ := F.un.there b o1 e1 (by simp)
    by_cases hb : b ∈ frs X.stack
    · obtain ⟨_, o', ho', hd⟩ := fl.2.2.1.mem hb
      obtain ⟨sl2, e3⟩ := x2 b o' ho' hd
      exact ⟨_, e3⟩
    · obtain ⟨o3, e3⟩ := olds b o1 e1 hb
      exact ⟨o3, x1.1 b o3 e3⟩
  · obtain ⟨m1, e1⟩ := I.base.tbls b ps e
    obtain ⟨m2, e2⟩ := F.un.tbls b _ e1
    exact ⟨m1 ++ m2, by rw [e2, Array.append_assoc]⟩
  · obtain ⟨o3, e3⟩ := tr b u e
    have e4 := fl.1 b o3 e3
    rw [q] at e4
    cases e4
    exact x1.1 b o e3
  · obtain ⟨o1, e1⟩ := I.base.there b o e (noEx b)
    exact olds b o1 e1 (nst b o e hb)
end
end L2

set_option Elab.async false
set_option linter.all false
set_option maxRecDepth 100000
set_option maxHeartbeats 4000000
namespace L2
open PySem PySem.Spec PyProof.Rows
/-- a caught exception, its object known -/
abbrev excC (ea C : Addr) (od : Option Addr) (t : Addr) : HO := .ext fun h => ∃ tb, h.get? ea = some (excF C od t tb)
theorem excC_ok {P : Program} {w : World} {H : Hp} {h : Heap} {ea C t : Addr} {od : Option Addr} {tb : Value} (e : h.get? ea = some (excF C od t tb)) : ObjOk P w H h ea (excC ea C od t) :=
  ⟨⟨tb, e⟩, ⟨_, e⟩, fun g1 g2 ⟨tb', q⟩ k => ⟨tb', k _ q⟩⟩
section
variable {X : Cx} {pins : List (Addr × Obj)} {σ : St} {H H' : Hp} {s s' : Shared} {ea C t : Addr} {od : Option Addr} {M : Model} {A : Around} {E : Value → Shared → Prop} {h5 : Heap}
theorem FlyS.move {P : Program} {w : World} {l : List Env} {B : Heap} (F : FlyS P w l H s C od t H' ea s') (fl : FlS B l ea C od t s'.heap) (tr : ∀ b u, H' b = some u → ∃ o, B.get? b = some o)
    (old : ∀ b o, s.heap.get? b = some o → H b = none → b ∉ frs l → B.get? b = some o) (olds : ∀ b o, s.heap.get? b = some o → b ∉ frs l → ∃ o', B.get? b = some o')
    (fl5 : FlS B l ea C od t h5) (up : s'.heap.UpToSlots h5) : FlyS P w l H s C od t H' ea { s' with heap := h5 } := by
  refine ⟨F.os, F.bare, ⟨fun b o e n hb _ => fl5.1 b o (old b o e n hb), fun b o e n hb _ => ?_, F.un.free, fun b o e _ => ?_, F.un.tups, F.un.frzs, F.un.tbls⟩, F.hok.sameAt fun b u o e q => ?_, F.nt, ⟨B, fl5, tr, old, olds⟩⟩
  · obtain ⟨sl, e1⟩ := F.un.slot b o e n hb (by simp)
    obtain ⟨_, o', ho', hd⟩ := fl.2.2.1.mem hb
    rw [e1] at ho'
    cases ho'
    obtain ⟨sl2, e2⟩ := up b _ e1 hd
    exact ⟨sl2, e2⟩
  · by_cases hb : b ∈ frs l
    · obtain ⟨_, o', ho', hd⟩ := fl5.2.2.1.mem hb
      exact ⟨o', ho'⟩
    · obtain ⟨o3, e3⟩ := olds b o e hb
      exact ⟨o3, fl5.1 b o3 e3⟩
  · obtain ⟨o3, e3⟩ := tr b u e
    have e4 := fl.1 b o3 e3
    rw [q] at e4
    cases e4
    exact fl5.1 b o e3
theorem landS {B : Heap} {l : List Env} {Q : Unit → Shared → Prop} (fl : FlS B l ea C od t s.heap) (q : ∀ h' : Heap, FlS B l ea C od t h' → s.heap.UpToSlots h' → Q () { s with heap := h' }) : wpAny M A (setFlight (.ref ea) none) Q E s := by
  obtain ⟨f1, f2, f3, tb, oT, ts, h1, h2, h3, h4, h5, h6⟩ := fl
  unfold setFlight
  refine wpAny_bind (wpAny_field (x := .ref tb) h1 rfl rfl ?_)
  rw [if_pos (show (Value.ref tb != Value.none) = true from rfl)]
  have l3 : 3 < ts.size := (Array.getElem?_eq_some_iff.mp h6).1
  refine wpAny_setField h4 h5 l3 ?_
  show Q () { s with heap := s.heap.update tb (Obj.mapFields fun x => x.setIfInBounds 3 Value.none) }
  have z1 : ∀ b, b ≠ tb → (s.heap.update tb (Obj.mapFields fun x => x.setIfInBounds 3 Value.none)).get? b = s.heap.get? b := fun b hb' => Heap.get?_update_ne _ _ _ _ hb'
  have up : s.heap.UpToSlots (s.heap.update tb (Obj.mapFields fun x => x.setIfInBounds 3 Value.none)) := fun b o hbo hd => by
    have n : b ≠ tb := fun z => by rw [z, h4] at hbo; cases hbo; exact hd _ h5
    exact ⟨o.slots, by rw [z1 b n]; exact hbo⟩
  obtain ⟨oc, odd, da, osl⟩ := oT
  have h5' : da = .fields ts := h5
  subst h5'
  have z2 : (s.heap.update tb (Obj.mapFields fun x => x.setIfInBounds 3 Value.none)).get? tb = some ⟨oc, odd, .fields (ts.setIfInBounds 3 .none), osl⟩ := Heap.get?_update_self _ h4 rfl
  refine q _ ⟨fun b o hbo => ?_, f2, f3.of_keeps fun b o hbo hd => ?_, tb, _, _, (by rw [z1 ea (Ne.symm h3)]; exact h1), h2, h3, z2, rfl, ?_⟩ up
  · have n : b ≠ tb := fun z => by rw [z, h2] at hbo; cases hbo
    rw [z1 b n]
    exact f1 b o hbo
  · obtain ⟨sl, hs⟩ := up b o hbo hd
    exact ⟨_, hs, rfl⟩
  · rw [Array.getElem?_setIfInBounds_self_of_lt l3]
theorem FlyS.track {B : Heap} (I : Inv X pins σ H s) (F : FlyS X.prog X.w X.stack H s C od t H' ea s') (fl : FlS B X.stack ea C od t s'.heap) (old : ∀ b o, s.heap.get? b = some o → H b = none → b ∉ frs X.stack → B.get? b = some o) :
    Inv X pins σ (upd H' ea (excC ea C od t)) s' := by
  have I1 : Inv X pins σ H' s' := I.call' F.os F.un F.hok F.bare fun b z => nomatch z
  obtain ⟨tb, oT, ts, he, _⟩ := fl.2.2.2
  have nfr : ea ∉ frs X.stack := fun z => by
    obtain ⟨_, o', ho', hd'⟩ := fl.2.2.1.mem z
    rw [he] at ho'
    cases ho'
    exact hd' _ rfl
  have nold : ∀ b o, s.heap.get? b = some o → H b = none → b ≠ ea := fun b o e n z => by
    subst z
    have := old b o e n nfr
    rw [fl.2.1] at this
    cases this
  refine I1.track F.nt (excC_ok he) (fun u e n hx => ?_) (fun z => ?_) (fun x c e z => ?_) fun p hp => ?_
  · by_cases hb : ea ∈ X.fs
    · obtain ⟨_, o', ho', hd'⟩ := I1.funs.mem hb
      rw [he] at ho'
      cases ho'
      exact hd' _ rfl
    · exact nold ea u (I.base.keep ea u e n hb hx) (I.base.free ea u e n hx) rfl
  · obtain ⟨m, ⟨oL, es, ep, hoL, hdL, _⟩, _⟩ := I1.loc
    rw [z, he] at hoL
    cases hoL
    cases hdL
  · obtain ⟨v, oc, hoc, hdc⟩ := I1.cell x c e
    rw [z, he] at hoc
    cases hoc
    cases hdc
  · obtain ⟨q1, q2, _⟩ := I.pin p hp
    exact nold p.1 p.2 q1 q2
end
/-! ### raising, passing, defs -/
def RaisesS (X : Cx) (E : XK) : Prop := ∀ (pins : List (Addr × Obj)) (σ : St) (H : Hp) (s : Shared) (ea C : Addr) (od : Option Addr) (t : Addr), Inv X pins σ H s → H ea = some (excX ea C od t) → X.H₀ ea = none → E (.ref C) od (drop H ea) → X.xe (.ref ea) s
def tRaiseS (K : PySem.W.Frag) (H0 : Hp) (E : XK) (te : TE) : TS := fun _ σ H => te σ H fun x H1 => ∃ (ea C : Addr) (od : Option Addr) (t : Addr), x = .ref ea ∧ H1 ea = some (excX ea C od t) ∧ ExcCls K C ∧ xmIn K C = true ∧ H0 ea = none ∧ E (.ref C) od (drop H1 ea)
section
variable {X : Cx} {E : XK} {pos : Pos} {e : Expr} {te : TE}
theorem ps_raiseS (hX : RaisesS X E) (hc : X.calm = true) (he : PE X e te) : PS X (.Raise (some e) none pos) (tRaiseS X.K X.H₀ E te) := by
  refine ⟨?_⟩
  intro pins s σ H D I h
  rw [arm_exec_Raise]
  refine wpAny_bind (wpAny_standAt ?_)
  unfold raiseStmt
  show wpAny _ _ (do
    let xv ← (do
      let v ← eval e X.env
      standAt pos
      pure v)
    _) _ _ _
  refine wpAny_bind (wpAny_bind (thn (he pins s σ H _ I h) fun u s1 ⟨x, H1, I1, rx, ea, C, od, t, ex, hx, c, m, hn, q⟩ => ?_))
  subst ex
  obtain rfl : u = Value.ref ea := rx
  refine wpAny_bind (wpAny_standAt (wpAny_pure ?_))
  have ho := excX_at I1 hx
  have XO := xobj_of I1.kIn m
  obtain ⟨nm, q', N, bs, bm, sn, sub, ab, col, dd, k0, k1, k2, k3, k5, hC, b1, b2, b3, b4⟩ := XO.ob
  have hq : X.xe (.ref ea) s1 := hX pins σ H1 s1 ea C od t I1 hx hn q
  have LT : PySem.W.Looks (model X.prog X.w) s1.heap (typeOf (.ref ea)) (.ref C) := (PySem.W.Looks.ld ho).andThen .now
  have LTC : PySem.W.Looks (model X.prog X.w) s1.heap (typeOf (.ref C)) (.type "type") := (PySem.W.Looks.ld hC).andThen .now
  have LB := PySem.W.looks_mroIn (M := model X.prog X.w) I1.kIn c.be
  have LIs : PySem.W.Looks (model X.prog X.w) s1.heap (isType (.ref ea)) false := (PySem.W.Looks.ld ho).andThen .now
  have hcalm := I1.ok.hd hc
  obtain ⟨hh, g, d, tk, os⟩ := s1
  dsimp only
  refine wpAny_bind (wpAny_pure (wpAny_bind (wpAny_holding ?_)))
  unfold excFromValue isExcClass
  refine wpAny_bind (wpAny_bind (LIs.at ?_))
  rw [if_neg Bool.false_ne_true]
  refine wpAny_pure ?_
  rw [if_neg Bool.false_ne_true]
  unfold isInstance
  refine wpAny_bind (wpAny_bind (LT.at (LB.at ?_)))
  rw [if_pos rfl]
  refine wpAny_pure ?_
  dsimp only
  refine wpAny_bind (LIs.at ?_)
  rw [if_neg Bool.false_ne_true]
  unfold raisedInstance
  refine wpAny_bind (wpAny_bind (LT.at (wpAny_bind (LTC.at ?_))))
  rw [if_pos (by decide)]
  refine wpAny_pure (wpAny_bind ?_)
  unfold setFlight
  refine wpAny_bind (wpAny_field (x := Value.none) ho rfl rfl ?_)
  rw [if_neg (show ¬ (Value.none != Value.none) = true by decide)]
  refine wpAny_pure ?_
  unfold raiseNew
  refine wpAny_bind (wpAny_handled_none hcalm ?_)
  exact wpAny_throw hq
end
section
variable {P : Program} {w : World} {K : PySem.W.Frag} {mg : Str → Option Value} {base : Heap} {N : List Str} {qual : Str} {scope : Scope} {f : Addr} {cd : Value} {A : Around} {outer : List Env} {s : Shared} {H : Hp} {E E' : XK}
theorem raisesS_cx : RaisesS (cxOf (CXs P w) P w K mg base N qual scope f cd A outer s H E) E := fun pins σ H1 s1 ea C od t I hx hn q => by
  refine wpAny_mono (fly_madeS I rfl rfl rfl hx hn) (fun _ s2 F => ?_) fun _ _ z => z
  exact ⟨ea, _, _, _, _, rfl, F, q⟩
theorem passS (hE : ∀ c d H, E' c d H → E c d H) : Passes (CXs P w) (cxOf (CXs P w) P w K mg base N qual scope f cd A outer s H E) E' := fun pins σ H1 s1 e s' I q => by
  obtain ⟨ea, C, od, t, H', rfl, F, q⟩ := q
  refine wpAny_mono (fly_onS I rfl rfl rfl F) (fun _ s2 F2 => ?_) fun _ _ z => z
  exact ⟨ea, C, od, t, H', rfl, F2, hE _ _ _ q⟩
theorem Fun.okS {x : Str} {st : Stmt} {fd : FuncData} {ps : List Str} {k : Nat} {sp : Sp} (F : Fun K x qual st f fd) (S : FnScope N ps (defScope st)) (len : ∀ vs H Q E, sp vs H Q E → vs.length = ps.length)
    (hbody : ∀ (cdv : Value) (A : Around) (outer : List Env) (s : Shared) (H : Hp) (vs : List V) (Q : VK) (E : XK), Room k (A.deeper (envOfC qual (defScope st) s.heap.objs.size f cdv)) → sp vs H Q E →
      ∃ t, PSs (cxOf (CXs P w) P w K mg base N qual (defScope st) f cdv A outer s H E) (defBody st) t ∧ t { nx := fun _ H' => Q .non H', rt := Q } (start N vs) H) : FnOk P w K mg base (CXs P w) (k + 1) f fd ps sp := by
  obtain ⟨oc, od, kV, doc, pm, an, cdv, ct, osl, rfl, lk, hcd⟩ := F.ex
  exact fn_of lk hcd S len fun A outer s H vs Q E hr hsp => hbody cdv A outer s H vs Q E hr hsp
end
structure CalleeS (P : Program) (w : World) (K : PySem.W.Frag) (mg : Str → Option Value) (base : Heap) (k : Nat) (x : Str) (f : Addr) (fd : FuncData) (ps : List Str) (sp : Sp) : Prop where
  ok : FnOk P w K mg base (CXs P w) k f fd ps sp
  mg : mg x = some (.ref f)
  kp : PySem.W.keepIn K (.ref f) = true
  bd : Binds K fd ps []
section
variable {X : Cx} {k : Nat} {f : Addr} {fd : FuncData} {ps : List Str} {sp : Sp} {E : XK} {x : Str} {p pos : Pos} {e : Expr} {es : List Expr} {t : TA}
theorem cS (c : CalleeS X.prog X.w X.K X.mg X.base k x f fd ps sp) (hp : Passes (CXs X.prog X.w) X E) (hr : Room k X.A) (ha : PA X (e :: es) t) (hg : Gl X x := by rfl) (hdb : (x == ("__debug__" : Str)) = false := by decide)
    (h1 : isSt e = false := by rfl) (h2 : es.any isSt = false := by rfl) : PE X (.Call (.Name x p) (e :: es) [] pos) (tCall sp [] E t) :=
  pe_call c.ok hr hg c.mg c.kp c.bd .nil hp ha hdb (star_cons h1) (star_any h2)
end
end L2

set_option Elab.async false
set_option linter.all false
set_option maxRecDepth 100000
set_option maxHeartbeats 4000000
namespace L2
open PySem PySem.Spec PyProof.Rows
/-! ### except clauses, one after the other -/
abbrev HK := Addr → Option Addr → Addr → Addr → Ends → St → Hp → Prop
structure PH (X : Cx) (hs : List ExceptHandler) (th : HK) : Prop where
  run : ∀ (pins : List (Addr × Obj)) (σ : St) (H1 : Hp) (s1 : Shared) (H' : Hp) (ea C : Addr) (od : Option Addr) (t : Addr) (s5 : Shared) (D : Ends), Inv X pins σ H1 s1 → FlyS X.prog X.w X.stack H1 s1 C od t H' ea s5 → th C od t ea D σ H' → wpAny (model X.prog X.w) X.A (handleBy (.ref ea) X.env hs) (SP X pins D) X.xe s5
section
variable {X : Cx} {hs : List ExceptHandler} {th : HK} {c n : Str} {C' : Addr} {i : Nat} {ts : TS} {b₀ : Stmt} {suite : List Stmt} {np hpos : Pos}
theorem ph_nil : PH X [] (fun _ _ _ _ _ _ _ => False) := ⟨fun _ _ _ _ _ _ _ _ _ _ _ _ _ h => h.elim⟩
end
/-! ### try, with such clauses -/
def Passes2 (X : Cx) (pins : List (Addr × Obj)) (σ : St) (E : XK) : Prop := ∀ (H : Hp) (s : Shared) (e : Value) (s' : Shared), Inv X pins σ H s → CXs X.prog X.w X.stack H s E e s' → X.xe e s'
def tTryS (tb : XK → TS) (th : HK) : TS := fun D σ H => tb (fun cls od H' => ∃ C, cls = .ref C ∧ ∀ t ea, H' ea = none → th C od t ea D σ H') D σ H
section
variable {X : Cx} {st : Stmt} {h₀ : ExceptHandler} {hs : List ExceptHandler} {pos : Pos} {tb : XK → TS} {th : HK}
theorem ps_tryS (hstk : X.stack = X.env :: X.outer) (hfl : X.env.frame = some X.env.locals) (hh : PH X (h₀ :: hs) th)
    (hb : ∀ (pins : List (Addr × Obj)) (σ : St) (xe : Value → Shared → Prop) (E : XK), Passes2 (X.wish xe) pins σ E → PS1 (X.wish xe) pins σ st (tb E)) : PS X (.Try [st] (h₀ :: hs) [] [] pos) (tTryS tb th) := by
  refine ⟨?_⟩
  intro pins s σ H D I h
  have fr0 := I.ok.frames
  rw [hstk] at fr0
  refine wpAny_Try_except ?_
  have key : Passes2 (X.wish (tryXe X pins D (h₀ :: hs))) pins σ (fun cls od H' => ∃ C, cls = .ref C ∧ ∀ t ea, H' ea = none → th C od t ea D σ H') := by
    intro H1 s1 e s2 I1 q
    obtain ⟨ea, C, od, t, H', rfl, F, C0, e0, q⟩ := q
    cases e0
    have I1 := I1.unwish
    have F : FlyS X.prog X.w X.stack H1 s1 C od t H' ea s2 := F
    obtain ⟨B, fl, tr, old, olds⟩ := F.fly
    have fl' := fl
    rw [hstk] at fl'
    refine noteS fr0 fl'.2.2.1 hfl fl'.1 fl'.2.1 (.inr fl'.2.2.2) fun h5 y1 y2 y3 y4 => ?_
    have fl5 : FlS B X.stack ea C od t h5 := by rw [hstk]; exact ⟨y1, fl'.2.1, y2, y3⟩
    have F5 := F.move fl tr old olds fl5 y4
    exact hh.run pins σ H1 s1 H' ea C od t _ D I1 F5 (q t ea F.nt)
  have run := (hb pins σ _ _ key).run s H D (I.wish _) h
  refine wpAny_execs_cons (thn run fun f s1 q => ?_)
  · cases f with
    | next => exact wpAny_execs_nil (wpAny_execs_nil (SP.unwish (f := .next) q))
    | ret v => exact SP.unwish (f := .ret v) q
    | brk => exact SP.unwish (f := .brk) q
    | cont => exact SP.unwish (f := .cont) q
end
section
variable {X : Cx} {pins : List (Addr × Obj)} {σ : St} {e : Expr} {es : List Expr} {te : TE} {t : TA} {E : XK} {x m : Str} {p pos apos : Pos} {k : Nat} {f C : Addr} {fd : FuncData} {ps : List Str} {sp : Sp} {dvs : List V} {ds : List Value}
theorem p2_make (M : Mk X.K C f) (F : FnOk X.prog X.w X.K X.mg X.base (CXs X.prog X.w) k f fd ps sp) (hr : Room (k + 1) X.A) (hg : Gl X x) (hm : X.mg x = some (.ref C)) (hb : Binds X.K fd ps ds) (hd : Vals dvs ds) (hp : Passes2 X pins σ E)
    (ha : PA X (e :: es) t) (hdb : (x == ("__debug__" : Str)) = false := by decide) (he : starEach (e :: es) X.env = (false, eval e X.env) :: starEach es X.env := by rfl) (hpl : (backTo pos (starEach es X.env)).any (·.1) = false := by rfl) :
    PE1 X pins σ (.Call (.Name x p) (e :: es) [] pos) (tMake C sp dvs E t) := by
  refine ⟨fun s H Q I h => ?_⟩
  refine wpAny_Call_Name_kw (ld_glob I hg hm ?_ hdb)
  refine PySem.W.callWith_K (h₀ := X.base) I.ok.mod.kin M.kp (thn (ha pos pins s σ H _ I h) fun us s1 ⟨vs, H1, I1, r, q⟩ => ⟨I1.kIn, ?_⟩) he hpl
  have hq := q (s1.heap.objs.size + 1) s1.heap.objs.size (I1.hok.fresh (Nat.le_succ _)) (I1.hok.fresh (Nat.le_refl _)) (Nat.ne_of_lt (Nat.lt_succ_self _))
  have I2 := Inv.made (C := C) I1
  have r2 : Vals (V.ref (s1.heap.objs.size + 1) :: (vs ++ dvs)) (Value.ref (s1.heap.objs.size + 1) :: (us ++ ds)) := .cons rfl (r.append hd)
  have hl : (Value.ref (s1.heap.objs.size + 1) :: us ++ ds).length = ps.length := by
    have e := r2.length
    rw [F.len _ _ _ _ hq] at e
    exact e.symm
  refine wpAny_call (make_map (f := f) I1.kIn M.makes M.init (beq_iff_eq.mp M.fn) (codeAny_mono (F.run _ X.stack _ _ ⟨Value.ref (s1.heap.objs.size + 1) :: us, []⟩ (Value.ref (s1.heap.objs.size + 1) :: (us ++ ds)) _ _ E (hr.make C us [])
    (I2.env0.make C us []) (hb _ (Value.ref (s1.heap.objs.size + 1) :: us) I2.kIn hl) r2 hq) fun r s' hq' => ?_))
  cases r with
  | error e => exact hp _ _ e s' I2 hq'
  | ok fl =>
    cases fl with
    | ret u =>
      obtain ⟨v, H', I3, rv, ev, q3⟩ := I2.after hq'
      subst ev
      exact ⟨rv, ⟨V.ref (s1.heap.objs.size + 1), H', I3, rfl, q3⟩⟩
    | next => exact False.elim hq'
    | brk => exact False.elim hq'
    | cont => exact False.elim hq'
end
/-! ### e.x, e a caught exception -/
section
variable {X : Cx} {pins : List (Addr × Obj)} {σ : St} {H : Hp} {s : Shared} {x C t : Addr} {f : Str} {A : Around} {E : Value → Shared → Prop}
end
section
variable {X : Cx} {e : Expr} {f : Str} {pos : Pos} {ta : TE}
end
end L2

set_option Elab.async false
set_option linter.all false
set_option maxRecDepth 100000
set_option maxHeartbeats 4000000
namespace L2
open PySem PySem.Spec PyProof.Rows PySem.Builtin
section
variable {prog : Program} {w : World} {A : Around} {E : Value → Shared → Prop} {s : Shared} {it ea C t : Addr} {od : Option Addr} {tb : Value} {x left step : Int} {Q : Option Value → Shared → Prop}
/-- a range's end within an except suite -/
theorem next_endH (hA : A.handled = some (.ref ea)) (he : s.heap.get? ea = some (excF C od t tb)) (hi : IsRangeIter s.heap it x left step) (hl : left ≤ 0)
    (q : ∀ h' : Heap, (∀ b o, s.heap.get? b = some o → h'.get? b = some o) → Q none { s with heap := h' }) : wpAny (model prog w) A (pyNext (.ref it)) Q E s := by
  obtain ⟨hh, g, d, tk, os⟩ := s
  have TI : Shared.TypeIs ⟨hh, g, d, tk, os⟩ (.ref it) "range_iterator" := ⟨_, hi, rfl⟩
  unfold pyNext
  refine wpAny_bind (wpAny_attempt (wpAny_callSpecial?_slot TI F.slot_range_iterator_next (wpAny_call (codeAny_call_builtin F.slot_range_iterator_next.plain F.entry_range_iterator_next ?_))))
  refine F.slot_range_iterator_next.check _ _ _ _ _ _ _ _ TI (F.args_range_iterator_next_1 _) ?_
  unfold Builtin.«range_iterator.__next__»
  rw [show slotArgs "__next__" 0 { pos := [Value.ref it] } = pure (.ref it, []) from rfl]
  refine wpAny_bind (wpAny_pure ?_)
  dsimp only
  refine wpAny_bind (wpAny_field (x := rawInt x) hi rfl rfl ?_)
  unfold rawInt
  dsimp only
  refine wpAny_bind (wpAny_field (x := rawInt left) hi rfl rfl ?_)
  unfold rawInt
  dsimp only
  refine wpAny_bind (wpAny_field (x := rawInt step) hi rfl rfl ?_)
  unfold rawInt
  dsimp only
  rw [if_pos hl]
  refine wpAny_bind (wpAny_rule (wpAny_bind ?_))
  unfold SmallTypes.stopIteration newExc
  refine wpAny_bind (wpAny_bind (wpAny_newTuple ?_ (by show 0 ≤ sizeLine; decide)))
  dsimp only
  unfold firstArgMember
  dsimp only
  refine wpAny_bind (wpAny_bind (wpAny_pure (wpAny_pure ?_)))
  have fm : (if (Manifest.find? "StopIteration").elim false (fun t => t.mro.contains "StopIteration" || t.mro.contains "SystemExit") = true then ([] : List Value).headD Value.none else Value.none) = Value.none := by split <;> rfl
  rw [fm]
  show wpAny _ _ (newObj (Value.type "StopIteration") (Data.fields #[.ref hh.objs.size, .none, .none, .none, .bool false, .none])) _ _ _
  refine wpAny_newObj_type ?_ (by show 6 ≤ sizeLine + 2; decide)
  dsimp only
  have k1 : ∀ b o, hh.get? b = some o → ((hh.push (tupNew [])).push { cls := .type "StopIteration", data := .fields #[.ref hh.objs.size, .none, .none, .none, .bool false, .none] }).get? b = some o := fun b o e => Heap.get?_push_of_some _ (Heap.get?_push_of_some _ e)
  have k2 : ((hh.push (tupNew [])).push { cls := .type "StopIteration", data := .fields #[.ref hh.objs.size, .none, .none, .none, .bool false, .none] }).get? (hh.push (tupNew [])).objs.size = some { cls := .type "StopIteration", data := .fields #[.ref hh.objs.size, .none, .none, .none, .bool false, .none] } := Heap.get?_push_size _ rfl
  have k3 : (hh.push (tupNew [])).objs.size ≠ ea := by
    have := Heap.lt_size he
    rw [Heap.size_push]
    exact Nat.ne_of_gt (Nat.lt_succ_of_lt this)
  have k4 : ∀ b o, hh.get? b = some o → b ≠ (hh.push (tupNew [])).objs.size := fun b o e => by
    have := Heap.lt_size e
    rw [Heap.size_push]
    exact Nat.ne_of_lt (Nat.lt_succ_of_lt this)
  generalize (hh.push (tupNew [])).objs.size = e1 at k2 k3 k4 ⊢
  generalize (hh.push (tupNew [])).push { cls := .type "StopIteration", data := .fields #[.ref hh.objs.size, .none, .none, .none, .bool false, .none] } = h2 at k1 k2 ⊢
  unfold raiseNew
  refine wpAny_bind (wpAny_handled ?_)
  have hA' : A.in1.handled = some (.ref ea) := hA
  rw [hA']
  dsimp only
  rw [if_pos (show (Value.ref ea != Value.ref e1) = true by rw [bne_iff_ne]; intro z; exact k3 (Value.ref.inj z).symm)]
  have he2 := k1 _ _ he
  refine wpAny_bind (wpAny_holding (wpAny_runValue (codeAny_builtin (b := Builtin.«proto.unchain») rfl ?_)))
  unfold Builtin.«proto.unchain»
  dsimp only
  refine wpAny_bind (wpAny_field (x := Value.none) he2 rfl rfl ?_)
  rw [if_pos (show (Value.none == Value.none) = true by decide)]
  refine wpAny_pure ?_
  dsimp only
  unfold updateField
  refine wpAny_bind (wpAny_bind (wpAny_load k2 ?_))
  dsimp only
  rw [if_pos (show 2 < (#[Value.ref hh.objs.size, Value.none, Value.none, Value.none, Value.bool false, Value.none] : Array Value).size from Nat.le_of_ble_eq_true rfl)]
  refine wpAny_update k2 ?_
  refine wpAny_throw ?_
  have z1 : ∀ b, b ≠ e1 → (h2.update e1 (Obj.mapFields fun x => x.setIfInBounds 2 (.ref ea))).get? b = h2.get? b := fun b hb' => Heap.get?_update_ne _ _ _ _ hb'
  have z2 : (h2.update e1 (Obj.mapFields fun x => x.setIfInBounds 2 (.ref ea))).get? e1 = some { cls := .type "StopIteration", data := .fields #[.ref hh.objs.size, .none, .ref ea, .none, .bool false, .none] } := Heap.get?_update_self _ k2 rfl
  refine wpAny_bind (wpAny_isInstance (T := "StopIteration") (b := true) ⟨_, z2, rfl⟩ (by with_unfolding_all rfl) ?_)
  rw [if_pos rfl]
  refine wpAny_pure (q _ fun b o e => ?_)
  rw [z1 b (k4 b o e)]
  exact k1 b o e
end
end L2

set_option Elab.async false
set_option linter.all false
set_option maxRecDepth 100000
set_option maxHeartbeats 4000000
namespace L2
open PySem PySem.Spec PyProof.Rows
/-! ### a list comprehension over a range, within an except suite -/
structure TurnH (ea : Addr) (P : Program) (w : World) (K : PySem.W.Frag) (tg : Expr) (J : It) (fp : List Addr) (it : Addr) (tn : Nat → Heap → Prop) : Prop where
  mem : it ∈ fp
  obj : ∀ i h, tn i h → ∀ b ∈ fp, ∃ o, h.get? b = some o ∧ ∀ v, o.data ≠ .cell v
  keep : ∀ i h h', tn i h → (∀ b ∈ fp, ∀ o, h.get? b = some o → h'.get? b = some o) → tn i h'
  item : ∀ (X : Cx), X.prog = P → X.w = w → X.K = K → X.A.handled = some (.ref ea) → ∀ (i : Nat) (pins : List (Addr × Obj)) (s : Shared) (σ : St) (H : Hp) (E : Value → Shared → Prop), Inv X pins σ H s → (∀ b ∈ fp, FpOk X pins H b) → tn i s.heap → J.go i H →
    wpAny (model P w) X.A (pyNext (.ref it)) (fun r s1 => ∃ u, r = some u ∧
      wpAny (model P w) X.A (letOwnedTupleGo tg (.ref it) u) (fun _ s2 => ∃ x H', Inv X pins σ H' s2 ∧ RelV x u ∧ J.yld i H x H' ∧ tn (i + 1) s2.heap ∧ ∀ b ∈ fp, H' b = none) E s1) E s
  done : ∀ (X : Cx), X.prog = P → X.w = w → X.K = K → X.A.handled = some (.ref ea) → ∀ (i : Nat) (pins : List (Addr × Obj)) (s : Shared) (σ : St) (H : Hp) (E : Value → Shared → Prop), Inv X pins σ H s → (∀ b ∈ fp, FpOk X pins H b) → tn i s.heap → J.stop i H →
    wpAny (model P w) X.A (pyNext (.ref it)) (fun r s1 => r = none ∧ Inv X pins σ H s1) E s
  self : ∀ (A : Around) (i : Nat) (s : Shared) (Q : Value → Shared → Prop) (E : Value → Shared → Prop), tn i s.heap → Q (.ref it) s → wpAny (model P w) A (pyIter (.ref it)) Q E s
def PIEH (X : Cx) (ea : Addr) (pins : List (Addr × Obj)) (σ : St) (tg : Expr) (R : It → Hp → Prop) (itv : Value) (s2 : Shared) : Prop :=
  ∃ (it : Addr) (fp : List Addr) (tn : Nat → Heap → Prop) (J : It) (H' : Hp), itv = .ref it ∧ Inv X pins σ H' s2 ∧ TurnH ea X.prog X.w X.K tg J fp it tn ∧ tn 0 s2.heap ∧ (∀ b ∈ fp, FpOk X pins H' b) ∧ R J H'
structure PIH (X : Cx) (ea : Addr) (tg iter : Expr) (wi : TI) : Prop where
  run : ∀ (pins : List (Addr × Obj)) (s : Shared) (σ : St) (H : Hp) (R : It → Hp → Prop), Inv X pins σ H s → wi σ H R →
    wpAny (model X.prog X.w) X.A (eval iter X.env) (fun v s1 => wpAny (model X.prog X.w) X.A (pyIter v) (PIEH X ea pins σ tg R) X.xe s1) X.xe s
instance {X : Cx} {ea : Addr} {tg iter : Expr} {wi : TI} : CoeFun (PIH X ea tg iter wi) (fun _ => ∀ (pins : List (Addr × Obj)) (s : Shared) (σ : St) (H : Hp) (R : It → Hp → Prop), Inv X pins σ H s → wi σ H R →
    wpAny (model X.prog X.w) X.A (eval iter X.env) (fun v s1 => wpAny (model X.prog X.w) X.A (pyIter v) (PIEH X ea pins σ tg R) X.xe s1) X.xe s) := ⟨PIH.run⟩
def ItrH (ea C : Addr) (od : Option Addr) (t : Addr) (lo : Int) (n : Nat) : It := ⟨fun i _ => i < n, fun i H x H' => H' = H ∧ x = .int (lo + i), fun i H => n ≤ i ∧ H ea = some (excC ea C od t)⟩
theorem turn_rangeH {P : Program} {w : World} {K : PySem.W.Frag} {tg : Expr} {ea C t : Addr} {od : Option Addr} (it : Addr) (lo : Int) (n : Nat) : TurnH ea P w K tg (ItrH ea C od t lo n) [it] it (fun i h => IsRangeIter h it (lo + (i : Nat) * 1) ((n : Int) - (i : Nat)) 1) where
  mem := by simp
  obj := fun i h st b hb => by
    have e : b = it := by simpa using hb
    subst e
    exact ⟨_, st, fun v z => by
      have z' : Data.fields _ = Data.cell v := z
      cases z'⟩
  keep := fun i h h' st k => k it (by simp) _ st
  item := by
    intro X hP hw hK hc i pins s σ H E I hf st hg
    subst hP hw hK
    obtain ⟨f0, f1, f2, f3, f4, f5⟩ := hf it (by simp)
    refine wpAny_pyNext_range_item st (by have : i < n := hg; omega) fun h' st' sb => ?_
    have I1 : Inv X pins σ H { s with heap := h', toks := s.toks + 1 } := I.turned (fun b o hb e => (sb.2 b hb).trans e) f0 f1 f3 f4 f5
    have st2 : IsRangeIter h' it (lo + ((i + 1 : Nat) : Int) * 1) ((n : Int) - ((i + 1 : Nat) : Int)) 1 := by
      rw [show lo + ((i + 1 : Nat) : Int) * 1 = lo + (i : Nat) * 1 + 1 by omega, show (n : Int) - ((i + 1 : Nat) : Int) = (n : Int) - (i : Nat) - 1 by omega]
      exact st'
    refine ⟨_, rfl, go_of (s := { s with heap := h', toks := s.toks + 1 }) (n := "range_iterator") st' rfl rfl (by decide) ⟨.int (lo + i), H, I1, ⟨s.toks, ?_⟩, ⟨rfl, rfl⟩, st2, fun b hb => (hf b hb).1⟩⟩
    rw [Int.mul_one]
  done := by
    intro X hP hw hK hc i pins s σ H E I hf st hg
    subst hP hw hK
    obtain ⟨tb, he⟩ := (I.hok ea _ hg.2).1
    exact next_endH hc he st (by have : n ≤ i := hg.1; omega) fun h' k => ⟨rfl, I.kept (t' := s.toks) k⟩
  self := fun _ _ _ _ _ st h => wpAny_pyIter_rangeiter st h
section
variable {X : Cx} {tg : Expr}
/-- a range object just made, walked -/
theorem range_itH {ea C0 t0 : Addr} {od0 : Option Addr} {pins : List (Addr × Obj)} {σ : St} {H : Hp} {s : Shared} {R : It → Hp → Prop} {E : Value → Shared → Prop} {lo hi : Int} {t u v : Tok} {tk : Nat} (I : Inv X pins σ H s) (h1 : -(2 ^ 62) ≤ lo) (h2 : lo < 2 ^ 62) (h3 : -(2 ^ 62) ≤ hi) (h4 : hi < 2 ^ 62)
    (q : R (ItrH ea C0 od0 t0 lo (hi - lo).toNat) H) : wpAny (model X.prog X.w) X.A (pyIter (.ref s.heap.objs.size)) (PIEH X ea pins σ tg R) E { s with heap := s.heap.push { cls := .type "range", data := .fields #[.int lo t, .int hi u, .int 1 v] }, toks := tk } := by
  refine wpAny_pyIter_range (IsRange.new ..) (small_one h1 h2 h3 h4) ?_
  have I1 : Inv X pins σ H { s with heap := s.heap.push { cls := .type "range", data := .fields #[.int lo t, .int hi u, .int 1 v] }, toks := tk } := I.kept fun b o e => Heap.get?_push_of_some _ e
  refine ⟨(s.heap.push { cls := .type "range", data := .fields #[.int lo t, .int hi u, .int 1 v] }).objs.size, [(s.heap.push { cls := .type "range", data := .fields #[.int lo t, .int hi u, .int 1 v] }).objs.size], _, _, H, rfl,
    I1.kept (t' := tk) fun b o e => Heap.get?_push_of_some _ e, turn_rangeH _ lo (hi - lo).toNat, ?_, fun b hb => ?_, q⟩
  · have e1 : lo + ((0 : Nat) : Int) * 1 = lo := by simp
    have e2 : (((hi - lo).toNat : Nat) : Int) - ((0 : Nat) : Int) = Builtin.Range.rangeSize lo hi 1 := by rw [rangeSize_one]; split <;> omega
    show IsRangeIter _ _ (lo + ((0 : Nat) : Int) * 1) ((((hi - lo).toNat : Nat) : Int) - ((0 : Nat) : Int)) 1
    rw [e1, e2]
    exact Heap.get?_push_size _ rfl
  · have e : b = (s.heap.push { cls := .type "range", data := .fields #[.int lo t, .int hi u, .int 1 v] }).objs.size := by simpa using hb
    subst e
    exact I1.fpOk (Nat.le_refl _) (I1.hok.fresh (Nat.le_refl _))
def iRng1H (ea : Addr) (ta : TA) : TI := fun σ H R => ta σ H fun vs H1 => ∃ (j : Int) (C : Addr) (od : Option Addr) (t : Addr), vs = [.int j] ∧ -(2 ^ 62) ≤ j ∧ j < 2 ^ 62 ∧ R (ItrH ea C od t 0 j.toNat) H1
theorem pi_range1H {ea : Addr} {a : Expr} {ta : TA} {p pos : Pos} (hg : Gl X "range") (hm : X.mg "range" = none) (ha : PA X [a] ta) (hs : starEach [a] X.env = [(false, eval a X.env)] := by rfl) : PIH X ea tg (.Call (.Name "range" p) [a] [] pos) (iRng1H ea ta) := by
  refine ⟨?_⟩
  intro pins s σ H R I h
  refine Call_ (ld_blt I hg hm boot_range (PyProof.Rows.callWith_type1 (thn (ha pos pins s σ H _ I h) fun us s1 ⟨vs, H1, I1, r1, q1⟩ => ?_) hs rfl))
  obtain ⟨j, C0, od0, t0, e, q1, q2, q⟩ := q1
  subst e
  cases r1 with
  | cons r rr =>
    cases rr
    obtain ⟨t, rfl⟩ := r
    exact call_range_1 (range_itH I1 (by omega) (by omega) q1 q2 (by simpa using q))
end
section
variable {X : Cx} {pins : List (Addr × Obj)} {σ : St} {s : Shared} {sc : Scope} {fr Nc : List Str} {caps : List (Option Nat)} {elt tg iter : Expr} {ifs : List Expr} {g : TG} {tt : TT} {te : TE} {ow : List Nat} {pos pos2 : Pos} {E : Value → Shared → Prop}
theorem comp_runH {ea : Addr} {H2 : Hp} {it : Addr} {fp : List Addr} {tn : Nat → Heap → Prop} {J : It} {Q : VK} {RR : Value → Addr → Result → Shared → Prop}
    (hc : X.A.handled = some (.ref ea)) (B : BlockOk X.env sc fr) (go : GOwn g ow) (how : (ow.all fun i => caps[i]? == some none) = true) (hcap : capChk X.N Nc caps X.env sc fr = true) (hlen : caps.length = Nc.length)
    (hb : ∀ (pins : List (Addr × Obj)) (fp : List Addr) (s : Shared) (H : Hp) (C : Addr), PG (compCx X pins sc fr Nc fp s H C) tg g ∧ PIf (compCx X pins sc fr Nc fp s H C) ifs tt ∧ PE (compCx X pins sc fr Nc fp s H C) elt te)
    (I2 : Inv X pins σ H2 s) (T : TurnH ea X.prog X.w X.K tg J fp it tn) (st2 : tn 0 s.heap) (f2 : ∀ b ∈ fp, FpOk X pins H2 b) (h : ∀ D, H2 D = none → LCr J caps g tt te σ H2 Q D)
    (fin : ∀ (D C : Addr) (σ' : St) (H' : Hp) (s' : Shared), Inv (compCx X pins sc fr Nc fp s H2 C) [] σ' H' s' → Q (.ref D) H' → RR (.ref D) C (.ok .next) s') :
    wpAny (model X.prog X.w) X.A (newList []) (fun acc s₃ => wpAny (model X.prog X.w) X.A (newFunctionEnv sc X.env.globals (clB X.env fr) [] X.env.qual none .none (some X.env)) (fun cenv s₄ =>
      codeAny (model X.prog X.w) X.A (.compStart (.ListComp elt [⟨tg, iter, ifs, 0⟩] sc pos) 0 (.ref it) acc { cenv with scope := relabel sc X.env }) (RR acc cenv.locals) s₄) E s₃) E s := by
  have hcell : ∀ y ∈ sc.names, y.2 ≠ .cell := fun y hy => by
    have h3 := List.all_eq_true.mp B.names _ hy
    simp only [Bool.and_eq_true, bne_iff_ne, ne_eq] at h3
    exact h3.1.1
  refine wpAny_newObj_type (wpAny_newFunctionEnv hcell (by intro y hy; simp at hy) (fun h₁ hns₁ hsb₁ => ?_) B.kind)
  dsimp only at hns₁ hsb₁ ⊢
  generalize hH2 : s.heap.push { cls := .type "list", dict := none, data := .seq ([] : List Value).toArray } = H3 at hns₁ hsb₁ ⊢
  have hCs : H3.objs.size = s.heap.objs.size + 1 := by rw [← hH2, Heap.size_push]
  have hDC : s.heap.objs.size ≠ H3.objs.size := by rw [hCs]; exact Nat.ne_of_lt (Nat.lt_succ_self _)
  have hC : s.heap.objs.size ≤ H3.objs.size := by rw [hCs]; exact Nat.le_succ _
  have old : ∀ b o, s.heap.get? b = some o → h₁.get? b = some o := fun b o e =>
    hsb₁.extBut b o (Nat.ne_of_lt (Nat.lt_of_lt_of_le (Heap.lt_size e) hC)) (Heap.get?_push_of_some _ (hH2 ▸ Heap.get?_push_of_some _ e))
  have hD : h₁.get? s.heap.objs.size = some { cls := .type "list", data := .seq ([] : List Value).toArray } := hsb₁.extBut _ _ hDC (Heap.get?_push_of_some _ (hH2 ▸ Heap.get?_push_size _ rfl))
  have ho : ∀ b ∈ fp, ∃ o, s.heap.get? b = some o := fun b hb' => let ⟨o, e, _⟩ := T.obj 0 _ st2 b hb'; ⟨o, e⟩
  have I4 : ∀ t', Inv (compCx X pins sc fr Nc fp s H2 H3.objs.size) [] (capS caps σ) (upd H2 s.heap.objs.size (.lst [])) { s with heap := h₁, toks := t' } := fun t' =>
    comp_start I2 B f2 ho hC (Nat.le_refl _) hDC old hD hns₁ hcap hlen
  have ok := (I4 0).ok
  obtain ⟨hbg, hbt, hbe⟩ := hb pins fp s H2 H3.objs.size
  obtain ⟨W, ⟨m0, w0⟩, turn⟩ := h s.heap.objs.size (I2.hok.fresh (Nat.le_refl _))
  have stat : ∀ {H' : Hp}, (∀ b ∈ fp, H' b = none) → ∀ b ∈ fp, FpOk (compCx X pins sc fr Nc fp s H2 H3.objs.size) [] H' b := fun hn b hb' =>
    ⟨hn b hb', (ok.exf b hb').1, ok.exfs b hb', .inl hb', (ok.exf b hb').2, fun p hp => (f2 b hb').2.2.2.2.2 p (by simpa using hp)⟩
  have hfp0 : ∀ b ∈ fp, upd H2 s.heap.objs.size (.lst []) b = none := fun b hb' => by
    obtain ⟨o, e⟩ := ho b hb'
    rw [upd_ne (Nat.ne_of_lt (Heap.lt_size e))]
    exact (f2 b hb').1
  have loop : ∀ s₃ : Shared, s₃ = { s with heap := h₁, toks := s.toks + ([] : List (Str × Value)).length } →
      codeAny (model X.prog X.w) X.A (.compLoop (.ListComp elt [⟨tg, iter, ifs, 0⟩] sc pos) 0 (.ref it) (.ref s.heap.objs.size) (compEnvC sc (clB X.env fr) H3.objs.size X.env)) (RR (.ref s.heap.objs.size) H3.objs.size) s₃ := by
    rintro s₃ rfl
    refine compLoop_any (fun n s' => ∃ i σ' H' ys, Inv (compCx X pins sc fr Nc fp s H2 H3.objs.size) [] σ' H' s' ∧ tn i s'.heap ∧ (∀ b ∈ fp, H' b = none) ∧ W i n ys H' ∧
      (∀ (k : Nat) (v : V), (capS caps σ)[k]? = some (some v) → σ'[k]? = some (some v))) ?_ m0
      ⟨0, _, _, [], I4 _, T.keep _ _ _ st2 (fun b _ o e => old b o e), hfp0, w0, fun _ _ e => e⟩
    rintro n s3 ⟨i, σ3, H4, ys, I3, st3, fr3, w3, wk3⟩
    have I3' : Inv (compCx X pins sc fr Nc fp s H2 H3.objs.size) [] (capS caps σ) H4 s3 := I3.weak (by rw [I3.len]; exact (I4 0).len) wk3
    rcases turn i n ys H4 w3 with ⟨stop, qn⟩ | ⟨gg, step⟩
    · refine thn (T.done (compCx X pins sc fr Nc fp s H2 H3.objs.size) rfl rfl rfl hc i [] s3 _ H4 (fun _ _ => False) I3' (stat fr3) st3 stop) fun r s4 ⟨hr, I4'⟩ => ?_
      subst hr
      exact fin _ _ _ _ _ I4' qn
    · refine thn (T.item (compCx X pins sc fr Nc fp s H2 H3.objs.size) rfl rfl rfl hc i [] s3 _ H4 (fun _ _ => False) I3' (stat fr3) st3 gg) fun r s4 ⟨u, hr, h4⟩ => ?_
      subst hr
      refine thn h4 fun _ s5 ⟨x, H5, I5, r5, y5, st5, fr5⟩ => ?_
      have I5' := I5.pinned (stat fr5) (T.obj _ _ st5)
      refine thn (hbg _ s5 _ H5 x u _ I5' r5 (go _ _ _ _ (step x H5 y5))) fun _ s6 ⟨σ6, H6, I6, q6, l6, k6⟩ => ?_
      have wk6 : ∀ (k : Nat) (v : V), (capS caps σ)[k]? = some (some v) → σ6[k]? = some (some v) := fun k v e => by
        rw [k6 k fun hk => ?_]
        · exact e
        · have h1 := List.all_eq_true.mp how k hk
          have h2 : caps[k]? = some none := by simpa using h1
          unfold capS at e
          rw [List.getElem?_map, h2] at e
          cases e
      refine thn (hbt _ s6 σ6 H6 _ I6 q6) fun ok s7 ⟨H7, I7, q7⟩ => ?_
      have again : ∀ {H8 : Hp} {s8 : Shared} {ys' : List V}, Inv (compCx X pins sc fr Nc fp s H2 H3.objs.size) ([] ++ pinsAt fp s5.heap) σ6 H8 s8 → (∃ m', m' < n ∧ W (i + 1) m' ys' H8) →
          ∃ m, m < n ∧ ∃ i σ' H' ys, Inv (compCx X pins sc fr Nc fp s H2 H3.objs.size) [] σ' H' s8 ∧ tn i s8.heap ∧ (∀ b ∈ fp, H' b = none) ∧ W i m ys H' ∧ (∀ (k : Nat) (v : V), (capS caps σ)[k]? = some (some v) → σ'[k]? = some (some v)) := fun {H8 s8 ys'} I8 ⟨m', hm, w8⟩ => by
        refine ⟨m', hm, i + 1, σ6, H8, ys', I8.unpinned, T.keep _ _ _ st5 fun b hb' o e => (I8.pin (b, o) (List.mem_append_right _ (List.mem_append_right _ (mem_pinsAt hb' e)))).1, fun b hb' => ?_, w8, wk6⟩
        obtain ⟨o, e, d⟩ := T.obj _ _ st5 b hb'
        exact (I8.pin (b, o) (List.mem_append_right _ (List.mem_append_right _ (mem_pinsAt hb' e)))).2.1
      cases ok with
      | false =>
        rw [if_neg Bool.false_ne_true]
        exact again I7 (q7.2 rfl)
      | true =>
        rw [if_pos rfl]
        refine thn (hbe _ s7 σ6 H7 _ I7 (q7.1 rfl)) fun uv s8 ⟨v, H8, I8, r8, hD8, hz, q8⟩ => ?_
        refine thn (mt_append (X := compCx X pins sc fr Nc fp s H2 H3.objs.size) _ s8 σ6 H8 (.ref s.heap.objs.size) [v] _ [uv] (fun _ H' => H' = upd H8 s.heap.objs.size (.lst (ys ++ [v]))) I8 rfl (.cons r8 .nil) ⟨_, ys, v, rfl, rfl, hD8, hz, rfl⟩) fun _ s9 ⟨_, H9, I9, _, e9⟩ => ?_
        subst e9
        exact again I9 q8
  exact codeAny_compStart_list (loop _ rfl) (T.self _ 0 _ _ _ (T.keep _ _ _ st2 (fun b _ o e => old b o e)) (loop _ rfl))
theorem ps_lcH {ea : Addr} {wi : TI} {i : Nat} {x : Str} {pos' : Pos} (fr Nc : List Str) (caps : List (Option Nat)) (hN : X.N.Nodup) (hix : X.N[i]? = some x) (hx : Loc X.env.scope x) (hc : X.A.handled = some (.ref ea)) (B : BlockOk X.env sc fr) (hi : PIH X ea tg iter wi) (go : GOwn g ow) (how : (ow.all fun i => caps[i]? == some none) = true)
    (hcap : capChk X.N Nc caps X.env sc fr = true) (hlen : caps.length = Nc.length)
    (hb : ∀ (pins : List (Addr × Obj)) (fp : List Addr) (s : Shared) (H : Hp) (C : Addr), PG (compCx X pins sc fr Nc fp s H C) tg g ∧ PIf (compCx X pins sc fr Nc fp s H C) ifs tt ∧ PE (compCx X pins sc fr Nc fp s H C) elt te)
    (hsw : swapsWith (.ListComp elt [⟨tg, iter, ifs, 0⟩] sc pos) (some (.Name x pos')) pos2.line X.env = pure true := by rfl)
    (hs : ∀ x, foldedSetIterable iter X.env x = pure x := by intro _; rfl) (hf : X.fn x = true ∨ X.env.scope.names.lookup x = some .local := by first | exact .inl rfl | exact .inr rfl | assumption) :
    PS X (.Assign [.Name x pos'] (.ListComp elt [⟨tg, iter, ifs, 0⟩] sc pos) pos2) (tAsg (tLC wi caps g tt te) (gName i)) := by
  refine ⟨?_⟩
  intro pins s σ H D0 I h
  rw [exec_Assign_Name_used _ _ _ _ hsw]
  refine wpAny_bind (wpAny_standAt (wpAny_bind ?_))
  show wpAny _ X.A (do let _ ← comprehension (.ListComp elt [⟨tg, iter, ifs, 0⟩] sc pos) sc X.env _ (newList []) false (eval iter X.env) (some (assign (.Name x pos') X.env))) _ _ s
  refine wpAny_bind (wpAny_mono (wpAny_comprehension_free (use := some (assign (.Name x pos') X.env)) (Q := fun _ s' => SP X pins D0 .next s') rfl hs B.clos B.kind B.loc
    (thn (hi pins s σ H _ I h) fun v s1 h1 => thn h1 fun itv s2 h2 => ?_)) (fun _ s' hq => wpAny_pure (wpAny_pure hq)) fun _ _ e => e)
  obtain ⟨it, fp, tn, J, H2, e, I2, T, st2, f2, q⟩ := h2
  subst e
  refine comp_runH (Q := fun v H1 => gName i v σ H1 D0.nx) (RR := fun acc C => compPost (model X.prog X.w) X.A X.xe (some (assign (.Name x pos') X.env)) (fun _ s' => SP X pins D0 .next s') acc C) hc B go how hcap hlen hb I2 T st2 f2 q ?_
  intro D C σ' H' s' J' qq
  have I' := comp_back I2 f2 J'
  obtain ⟨m, hn, _⟩ := J'.loc
  have hC : s2.heap.objs.size ≤ C := J'.ok.above
  show wpAny _ X.A (assign (.Name x pos') X.env (.ref D)) _ _ s'
  refine wpAny_assign_Name (store_ok2 (v := .ref D) I' hN hix hx rfl (fun s'' I'' ⟨a, sb, ha⟩ => ?_) hf)
  have haC : C ≠ a := by
    rintro rfl
    rcases ha with z | z
    · have := I2.lt
      rw [← z] at this
      exact absurd (Nat.lt_of_lt_of_le this hC) (Nat.lt_irrefl _)
    · obtain ⟨v, hv⟩ := I2.cell x C z
      exact absurd (Nat.lt_of_lt_of_le hv.lt hC) (Nat.lt_irrefl _)
  have hCH : H' C = none := J'.free
  refine ⟨m, hn.sameBut sb haC, fun h' hs' => ⟨_, H', ?_, qq⟩⟩
  refine I''.turned (it := C) (t' := s''.toks) (fun b o hb e => (hs'.2 b hb).trans e) hCH ?_ (.inr (Nat.le_trans I2.sz hC)) (fun x c h z => ?_) fun p hp z => ?_
  · intro z
    have := I2.lt
    rw [← z] at this
    exact absurd (Nat.lt_of_lt_of_le this hC) (Nat.lt_irrefl _)
  · obtain ⟨v, hv⟩ := I2.cell x c h
    have := hv.lt
    rw [z] at this
    exact absurd (Nat.lt_of_lt_of_le this hC) (Nat.lt_irrefl _)
  · have := I2.pin_lt hp
    rw [z] at this
    exact absurd (Nat.lt_of_lt_of_le this hC) (Nat.lt_irrefl _)
end
/-- a block over range(n) that chooses, within an except suite -/
theorem lc_selrH {ea C0 t0 : Addr} {od0 : Option Addr} {n : Nat} {caps : List (Option Nat)} {g : TG} {tt : TT} {te : TE} {σ : L2.St} {H1 : Hp} {Q : VK} {D : Addr} (keep : Nat → Bool) (out : Nat → V) (hD : H1 D = none) (hn : n ≤ 1000) (hea : H1 ea = some (excC ea C0 od0 t0))
    (hs : ∀ (i : Nat) (H : Hp) (N : VK) (S : Hp → Prop), i < n → Same H1 H → (∀ H', Same H H' → keep i = true → N (out i) H') → (∀ H', Same H H' → keep i = false → S H') → g (.int ((0 : Int) + (i : Int))) (capS caps σ) H fun σ2 H2 => tt σ2 H2 fun ok H3 => (ok = true → te σ2 H3 N) ∧ (ok = false → S H3))
    (hd : ∀ H, Same H1 H → H D = some (.lst (((List.range n).filter keep).map out)) → Q (.ref D) H) : LCr (ItrH ea C0 od0 t0 0 n) caps g tt te σ H1 Q D := by
  have sz : 1000 ≤ sizeLine := by decide
  refine ⟨fun i m zs H' => m = n - i ∧ i ≤ n ∧ Same H1 H' ∧ H' D = some (.lst zs) ∧ zs = ((List.range i).filter keep).map out, ⟨n, by simp, Nat.zero_le _, same_new hD _, upd_same, rfl⟩, ?_⟩
  rintro i m zs H' ⟨rfl, hi, sH, hDy, ez⟩
  by_cases hlt : i < n
  · refine .inr ⟨hlt, fun x H2 y => ?_⟩
    obtain ⟨rfl, rfl⟩ := y
    refine hs i _ _ _ hlt sH (fun H2 s2 hk => ?_) (fun H2 s2 hk => ?_)
    · have lz : zs.length ≤ i := by
        rw [ez, List.length_map]
        have := List.length_filter_le keep (List.range i)
        rw [List.length_range] at this
        exact this
      refine ⟨s2 _ _ hDy, by omega, n - (i + 1), by omega, rfl, hlt, fun b' u e => ?_, upd_same, ?_⟩
      · rw [upd_ne (ne_of_none e hD)]
        exact s2 _ _ (sH b' u e)
      · rw [ez, List.range_succ, List.filter_append, List.map_append, List.filter_cons, if_pos hk]
        rfl
    · refine ⟨n - (i + 1), by omega, rfl, hlt, sH.trans s2, s2 _ _ hDy, ?_⟩
      rw [ez, List.range_succ, List.filter_append, List.map_append, List.filter_cons, if_neg (by rw [hk]; exact Bool.false_ne_true)]
      simp
  · have e : i = n := by omega
    subst e
    rw [ez] at hDy
    exact .inl ⟨⟨Nat.le_refl _, sH _ _ hea⟩, hd H' sH hDy⟩
theorem FunD.okS {P : Program} {w : World} {K : PySem.W.Frag} {mg : Str → Option Value} {base : Heap} {x qual : Str} {st : Stmt} {f : Addr} {fd : FuncData} {items : List Value} {N ps : List Str} {k : Nat} {sp : Sp} (F : FunD K x qual st f fd items) (S : FnScope N ps (defScope st)) (len : ∀ vs H Q E, sp vs H Q E → vs.length = ps.length)
    (hbody : ∀ (cdv : Value) (A : Around) (outer : List Env) (s : Shared) (H : Hp) (vs : List V) (Q : VK) (E : XK), Room k (A.deeper (envOfC qual (defScope st) s.heap.objs.size f cdv)) → sp vs H Q E →
      ∃ t, PSs (cxOf (CXs P w) P w K mg base N qual (defScope st) f cdv A outer s H E) (defBody st) t ∧ t { nx := fun _ H' => Q .non H', rt := Q } (start N vs) H) : FnOk P w K mg base (CXs P w) (k + 1) f fd ps sp := by
  obtain ⟨oc, od, T, kV, doc, pm, an, cdv, ct, osl, o, n, rfl, lk, hcd, _, _⟩ := F.ex
  exact fn_of lk hcd S len fun A outer s H vs Q E hr hsp => hbody cdv A outer s H vs Q E hr hsp
section
variable {X : Cx} {hs : List ExceptHandler} {th : HK} {c n : Str} {C' : Addr} {i : Nat} {ts : TS} {b₀ : Stmt} {suite : List Stmt} {np hpos : Pos}
def hAsC (K : PySem.W.Frag) (C' : Addr) (i : Nat) (ts : Addr → TS) (rest : HK) : HK := fun C od t ea D σ H' =>
  (PySem.W.exmOne K (.ref C) (.ref C') = some true ∧ ts ea (endsN D i) (σ.set i (some (.ref ea))) (upd H' ea (excC ea C od t))) ∨ (PySem.W.exmOne K (.ref C) (.ref C') = some false ∧ rest C od t ea D σ H')
theorem ph_asC {tsA : Addr → TS} (hN : X.N.Nodup) (hi : X.N[i]? = some n) (hk : X.env.scope.names.lookup n = some .cell) (hf : X.fn n = true) (hg : Gl X c) (hm : X.mg c = some (.ref C')) (hs' : ∀ ea, PSs (X.suite ea) (b₀ :: suite) (tsA ea)) (hr : PH X hs th)
    (hd : (c == ("__debug__" : Str)) = false := by decide) : PH X (.ExceptHandler (some (.Name c np)) (some n) (b₀ :: suite) hpos :: hs) (hAsC X.K C' i tsA th) := by
  refine ⟨fun pins σ H1 s1 H' ea C od t s5 D I1 F5 h => ?_⟩
  obtain ⟨B, fl, tr, old, olds⟩ := F5.fly
  have I5 : Inv X pins σ H' s5 := I1.call' F5.os F5.un F5.hok F5.bare fun b z => nomatch z
  have LT : PySem.W.Looks (model X.prog X.w) s5.heap (typeOf (.ref ea)) (.ref C) := by
    obtain ⟨tb, oT, ts', he, _⟩ := fl.2.2.2
    exact (PySem.W.Looks.ld he).andThen .now
  refine wpAny_handleBy_cons (codeAny_handlers_test (ld_glob (I5.suite ea) hg hm ?_ hd)) (by intro z; cases z)
  rcases h with ⟨hx, h⟩ | ⟨hx, h⟩
  · refine (PySem.W.exm_one (M := model X.prog X.w) (h := s5.heap) I5.kIn LT hx) _ _ _ _ (fun _ _ z => z) ?_
    refine codeAny_handlers_suite_as (landS fl fun h6 fl6 up6 => ?_)
    have F6 := F5.move fl tr old olds fl6 up6
    have I6 := F6.track I1 fl6 old
    refine store_ok (v := .ref ea) I6 hN hi (.inr hk) rfl (fun s7 I7 => ?_) (.inl hf)
    refine wpAny_mono ((hs' ea) pins s7 _ _ (endsN D i) (I7.suite ea) h) (fun f s8 h8 => ?_) fun _ _ z => z.elim
    show wpAny (model X.prog X.w) X.A (do bindName X.env n .none; unbindBehindTheSuite X.env n hpos) (fun _ s9 => SP X pins D f s9) X.xe s8
    cases f with
    | next =>
      obtain ⟨σ', H2, I8, q8⟩ := h8
      exact name_goesC (Inv.unsuite I1.ok I8) hN hi hk hf fun s9 I9 => ⟨_, H2, I9, q8⟩
    | brk =>
      obtain ⟨σ', H2, I8, q8⟩ := h8
      exact name_goesC (Inv.unsuite I1.ok I8) hN hi hk hf fun s9 I9 => ⟨_, H2, I9, q8⟩
    | cont =>
      obtain ⟨σ', H2, I8, q8⟩ := h8
      exact name_goesC (Inv.unsuite I1.ok I8) hN hi hk hf fun s9 I9 => ⟨_, H2, I9, q8⟩
    | ret u =>
      obtain ⟨v, σ', H2, I8, rv, q8⟩ := h8
      exact name_goesC (Inv.unsuite I1.ok I8) hN hi hk hf fun s9 I9 => ⟨v, _, H2, I9, rv, q8⟩
  · refine (PySem.W.exm_one (M := model X.prog X.w) (h := s5.heap) I5.kIn LT hx) _ _ _ _ (fun _ _ z => z) ?_
    exact hr.run pins σ H1 s1 H' ea C od t s5 D I1 F5 h
end
end L2

set_option Elab.async false
set_option linter.all false
set_option maxRecDepth 100000
set_option maxHeartbeats 4000000
namespace K15
open PySem L2 PyProof.Rows
def top (i : Nat) : Stmt := PySem.Challenge.pw_callbinds_k15_refusals.main.body.getD i (.Pass ⟨0, 0, 0, 0⟩)
abbrev sPInit : Stmt := inClass (top 38) 0
abbrev sFree : Stmt := inClass (top 38) 1
abbrev sByPlace : Stmt := inClass (top 38) 2
abbrev sByName : Stmt := inClass (top 38) 3
abbrev sTakes : Stmt := inClass (top 38) 4
abbrev sTold : Stmt := inClass (top 38) 5
abbrev sSeat : Stmt := inClass (top 39) 0
abbrev sBoth : Stmt := inClass (top 40) 0
abbrev sTail : Stmt := inClass (top 41) 0
abbrev sFInit : Stmt := inClass (top 28) 0
abbrev sXBad : Stmt := inClass (top 5) 0
abbrev sXTwice : Stmt := inClass (top 6) 0
abbrev sXNoDef : Stmt := inClass (top 8) 0
abbrev sXMis : Stmt := inClass (top 12) 0
abbrev sIs : Stmt := top 22
abbrev sRMany : Stmt := top 29
abbrev sROrder : Stmt := top 30
abbrev sRBars : Stmt := top 31
abbrev sRTwice : Stmt := top 32
abbrev sNth : Stmt := top 43
abbrev sCalled : Stmt := top 45
abbrev sSorts : Stmt := top 46
abbrev sIsE : Stmt := top 47
abbrev sRefused : Stmt := top 48
abbrev sLaw : Stmt := top 49


/-! ### the mathematics of names -/
def low (c : Nat) : Bool := decide (97 ≤ c) && decide (c ≤ 122)
def nameB (z : Str) : Bool := decide (1 ≤ z.length) && decide (z.length ≤ 8) && z.cps.toList.all low
def nmV : V → Bool
  | .str z => nameB z
  | _ => false
def OkS (z : Str) : Prop := z.length ≤ 1000 ∧ ∀ c ∈ z.cps.toList, c < 128
def OkV (K : PySem.W.Frag) (H : Hp) (x : V) : Prop := (∃ z, x = .str z ∧ OkS z) ∨ (nmV x = false ∧ ∃ t, TyOf K H x t ∧ PySem.W.kitOne K t (.type "str") = some false)
theorem nameB_iff {z : Str} : nameB z = true ↔ 1 ≤ z.length ∧ z.length ≤ 8 ∧ ∀ c ∈ z.cps.toList, 97 ≤ c ∧ c ≤ 122 := by
  unfold nameB low
  simp only [Bool.and_eq_true, decide_eq_true_eq, List.all_eq_true]
  constructor
  · rintro ⟨⟨a, b⟩, c⟩; exact ⟨a, b, c⟩
  · rintro ⟨a, b, c⟩; exact ⟨⟨a, b⟩, c⟩
theorem nameB_long {z : Str} (h : z.length = 0 ∨ 9 ≤ z.length) : nameB z = false := by
  cases e : nameB z with
  | false => rfl
  | true =>
    have := nameB_iff.mp e
    omega
theorem nameB_ok {z : Str} (h : nameB z = true) : OkS z := by
  obtain ⟨_, h2, h3⟩ := nameB_iff.mp h
  exact ⟨by omega, fun c hc => by have := h3 c hc; omega⟩
theorem app_len (x y : Str) : (x ++ y).length = x.length + y.length := by
  show (x.cps ++ y.cps).size = _
  rw [Array.size_append]; rfl
theorem app_cps (x y : Str) : (x ++ y).cps.toList = x.cps.toList ++ y.cps.toList := by
  show (x.cps ++ y.cps).toList = _
  rw [Array.toList_append]
def letters : Str := "abcdefghijklmnopqrstuvwxyz"
theorem letters_at : ∀ k : Nat, k < 26 → letters.cps.toList[k]? = some (97 + k) := by decide +kernel
theorem letters_len : letters.length = 26 := by decide +kernel
theorem letters_in : ∀ c : Nat, c < 128 → (!(Builtin.Str.occurrences letters ⟨#[c]⟩ 0 letters.length 1).isEmpty) = low c := by decide +kernel
theorem same_new {H : Hp} {p : Addr} (h : H p = none) (o : HO) : Same H (upd H p o) := fun b u q => by rw [upd_ne (ne_of_none q h)]; exact q
theorem tyOf_same {K : PySem.W.Frag} {H H' : Hp} {x : V} {t : Value} (s : Same H H') (h : TyOf K H x t) : TyOf K H' x t := by
  cases h with
  | non => exact .non
  | bl b => exact .bl b
  | int i => exact .int i
  | str z => exact .str z
  | flt z => exact .flt z
  | lst e => exact .lst (s _ _ e)
  | frz e => exact .frz (s _ _ e)
  | tup e => exact .tup (s _ _ e)
  | dK e => exact .dK (s _ _ e)
  | dT e => exact .dT (s _ _ e)
  | ins e a b c d f => exact .ins (s _ _ e) a b c d f
theorem OkV.same {K : PySem.W.Frag} {H H' : Hp} {x : V} (s : Same H H') (h : OkV K H x) : OkV K H' x := by
  rcases h with h | ⟨h, t, ty, e⟩
  · exact .inl h
  · exact .inr ⟨h, t, tyOf_same s ty, e⟩
theorem nd1 : ([Str.ofString "sign"] : List Str).Nodup := by decide +kernel
theorem nil_cps : (Str.ofString "").cps.toList = [] := by decide +kernel
/-! ### the promises -/
def spIs (K : PySem.W.Frag) : Sp := fun vs H Q _ => ∃ x, vs = [x] ∧ OkV K H x ∧ ∀ H', Same H H' → Q (.bl (nmV x)) H'
def spNth (K : PySem.W.Frag) : Sp := fun vs H Q _ => ∃ (a : Addr) (ns : List Int) (k : Nat), vs = [.ref a, .int k] ∧ SqL K H a (ns.map V.int) ∧ ∀ n : Int, Q (.int n) H
def spCalled : Sp := fun vs H Q _ => ∃ n : Int, vs = [.int n] ∧ ∀ (z : Str) (H' : Hp), Same H H' → nameB z = true → Q (.str z) H'
def spLaw (K : PySem.W.Frag) : Sp := fun vs H Q _ => ∃ (a : Addr) (ns : List Int), vs = [.ref a] ∧ SqL K H a (ns.map V.int) ∧ ns.length ≤ 63 ∧ ∀ H', Q (.bl true) H'
structure Txt1 (K : PySem.W.Frag) (mg : Str → Option Value) : Prop where
  isi : mg "isinstance" = none
  str : mg "str" = none
  bool : mg "bool" = none
  len : mg "len" = none
  all : mg "all" = none
  range : mg "range" = none
  letters : ∃ t, mg "LETTERS" = some (.str letters t)
  longest : ∃ t, mg "LONGEST" = some (.int 8 t)
  kNon : PySem.W.kitOne K (.type "NoneType") (.type "str") = some false
  kInt : PySem.W.kitOne K (.type "int") (.type "str") = some false
  kBl : PySem.W.kitOne K (.type "bool") (.type "str") = some false
  kLst : PySem.W.kitOne K (.type "list") (.type "str") = some false
  kTup : PySem.W.kitOne K (.type "tuple") (.type "str") = some false
  kDct : PySem.W.kitOne K (.type "dict") (.type "str") = some false
  kStr : PySem.W.kitOne K (.type "str") (.type "str") = some true
  bBl : PySem.W.kitOne K (.type "bool") (.type "bool") = some true
end K15

set_option Elab.async false
set_option linter.all false
set_option maxRecDepth 100000
set_option maxHeartbeats 4000000
namespace K15
open PySem L2 PyProof.Rows
section
variable {P : Program} {w : World} {K : PySem.W.Frag} {mg : Str → Option Value} {base : Heap} {f : Addr} {fd : FuncData}
theorem scIs : FnScope ["thing"] ["thing"] (defScope sIs) := ⟨rfl, rfl, rfl, by decide +kernel, rfl, by decide +kernel, by decide +kernel⟩
theorem ok_is (F : Fun K "is_name" "is_name" sIs f fd) (T : Txt1 K mg) : FnOk P w K mg base CX0 1 f fd ["thing"] (spIs K) := by
  refine F.ok scIs (fun vs H Q E h => ?_) (fun cdv A outer s H vs Q E hr h => ?_)
  · obtain ⟨x, rfl, _⟩ := h
    rfl
  obtain ⟨x, rfl, hx, q⟩ := h
  obtain ⟨tL, hL⟩ := T.letters
  obtain ⟨tN, hN⟩ := T.longest
  refine ⟨_, pss_cons (ps_if (PW.pt (pw_or (pt_not (pt_val (cB call_isinst T.isi boot_isinstance (ac (pv 0) (ac (pe_bltn (v := .ty "str") rfl T.str PyProof.Rows.boot_str rfl) pa_nil)))))
      (pw_or1 (pt_not (pt_chain op_le op_le pe_int (cB call_len_str T.len PySem.boot_len (ac (pv 0) pa_nil)) (pe_glob (v := .int 8) rfl hN ⟨_, rfl⟩))))))
      (pss_one (ps_ret pe_bl)) pss_nil)
    (pss_one (ps_ret (cB (call_allB rfl) T.all boot_all (ac (pe_lc [] ["sign"] [none] rfl ⟨rfl, rfl, rfl, rfl⟩ (pi_str (pv 0)) (gown_name 0) rfl rfl rfl
      (fun pins fp s H C => ⟨pg_name (i := 0) nd1 rfl (Or.inl rfl) (.inr rfl), pif_nil, pe_cmpR op_in_str (pv 0) (pe_glob (v := .str letters) rfl hL ⟨_, rfl⟩) (by with_unfolding_all rfl)⟩)) pa_nil)))), ?_⟩
  rcases hx with ⟨z, rfl, hz1, hz2⟩ | ⟨hn, t, ty, e⟩
  · refine ⟨_, rfl, _, _, _, _, rfl, .str z, T.kStr, _, rfl, ?_⟩
    refine iteF ?_
    refine ⟨_, rfl, z, rfl, Nat.le_trans hz1 (by decide), _, _, rfl, rfl, _, rfl, ?_⟩
    have no : nameB z = false → Q (.bl false) H := fun e => by
      have := q H (Same.refl H)
      have e' : nmV (.str z) = false := e
      rw [e'] at this
      exact this
    refine ite2 (fun c => ?_) (fun c => ?_)
    · have c' : (1 : Int) ≤ (z.length : Int) := of_decide_eq_true c
      refine ⟨_, _, rfl, rfl, _, rfl, ?_⟩
      by_cases h8 : (z.length : Int) ≤ 8
      · rw [decide_eq_true h8]
        refine iteF ?_
        -- all([sign in LETTERS for sign in thing])
        refine ⟨_, rfl, z, rfl, fun D hD => ?_⟩
        refine ⟨fun i m ys H' => i ≤ z.cps.size ∧ m = z.cps.size - i ∧ ys = (z.cps.toList.take i).map (fun c => V.bl (low c)) ∧ H' = upd H D (.lst ys), ⟨_, Nat.zero_le _, rfl, rfl, rfl⟩, ?_⟩
        rintro i m ys H' ⟨hi, rfl, rfl, rfl⟩
        by_cases he : i = z.cps.size
        · subst he
          refine .inl ⟨Nat.le_refl _, ?_⟩
          refine ⟨D, z.cps.toList.map low, rfl, SqL.of ?_, ?_⟩
          · rw [upd_same, List.take_of_length_le (by simp), List.map_map]
            rfl
          · have e : (z.cps.toList.map low).all id = nmV (.str z) := by
              show _ = nameB z
              unfold nameB
              rw [decide_eq_true (show 1 ≤ z.length by omega), decide_eq_true (show z.length ≤ 8 by omega), List.all_map]
              rfl
            rw [e]
            exact q _ (same_new hD _)
        · refine .inr ⟨by show i < z.cps.size; omega, ?_⟩
          rintro x H' ⟨rfl, c, hc, rfl⟩
          refine ⟨fun _ => ?_, fun e => Bool.noConfusion e⟩
          refine ⟨_, rfl, _, _, rfl, rfl, upd_same, ?_, z.cps.size - (i + 1), by omega, by omega, rfl, ?_, ?_⟩
          · rw [List.length_map, List.length_take]
            have : z.cps.size ≤ 1000 := hz1
            exact small1000 (by omega)
          · have hc' : z.cps.toList[i]? = some c := by simpa using hc
            have hlow := letters_in c (hz2 c (List.mem_of_getElem? hc'))
            rw [hlow, List.take_add_one, hc', List.map_append]
            rfl
          · rw [upd_upd]
      · rw [decide_eq_false h8]
        refine iteT ?_
        exact no (nameB_long (.inr (by omega)))
    · have c' : ¬ (1 : Int) ≤ (z.length : Int) := of_decide_eq_false (Bool.eq_false_iff.mpr c)
      refine ⟨_, rfl, ?_⟩
      exact iteT (no (nameB_long (.inl (by omega))))
  · refine ⟨_, rfl, _, _, _, _, rfl, ty, e, _, rfl, ?_⟩
    refine iteT ?_
    refine iteT ?_
    have := q H (Same.refl H)
    rw [hn] at this
    exact this


end
end K15

set_option Elab.async false
set_option linter.all false
set_option maxRecDepth 100000
set_option maxHeartbeats 4000000
namespace K15
open PySem L2 PyProof.Rows
abbrev EB : List Value := [.type "ValueError", .type "Exception", .type "BaseException", .type "object"]
theorem dT {A B : Prop} {c : Prop} [Decidable c] (h : c) (a : A) : if decide c = true then A else B := by rw [decide_eq_true h]; exact iteT a
theorem dF {A B : Prop} {c : Prop} [Decidable c] (h : ¬ c) (b : B) : if decide c = true then A else B := by rw [decide_eq_false h]; exact iteF b
def kw : Nat → Str
  | 0 => "seat" | 1 => "both" | 2 => "tail" | 3 => "tag" | _ => "bag"
def fr (k : Nat) (b : Bool) : Bool := match k with
  | 0 => b | 1 => b | 2 => true | 3 => b | _ => true
theorem lt5 {k : Nat} (h : k < 5) : k = 0 ∨ k = 1 ∨ k = 2 ∨ k = 3 ∨ k = 4 := by omega
/-- the attributes of a parameter -/
def pf (wd : Str) (x : V) (b : Bool) : List (Str × V) := putF "may_lack" (.bl b) (putF "name" x (putF "word" (.str wd) []))
theorem pf_word {wd : Str} {x : V} {b : Bool} : (pf wd x b).lookup ("word" : Str) = some (.str wd) := by
  unfold pf
  rw [lookup_putF, if_neg (by decide +kernel), lookup_putF, if_neg (by decide +kernel), lookup_putF, if_pos rfl]
theorem pf_name {wd : Str} {x : V} {b : Bool} : (pf wd x b).lookup ("name" : Str) = some x := by
  unfold pf
  rw [lookup_putF, if_neg (by decide +kernel), lookup_putF, if_pos rfl]
theorem pf_no {wd : Str} {x : V} {b : Bool} {m : Str} (h1 : ¬ m = "may_lack") (h2 : ¬ m = "name") (h3 : ¬ m = "word") : (pf wd x b).lookup m = none := by
  unfold pf
  rw [lookup_putF, if_neg h1, lookup_putF, if_neg h2, lookup_putF, if_neg h3]
  rfl
/-- the methods' defs -/
structure MA where
  (fF fP fB fT fO : Addr)
structure PC (K : PySem.W.Frag) (m : MA) (C : Addr) : Prop where
  cl : Cls K C
  nW : NoAttr K C "word"
  nN : NoAttr K C "name"
  nM : NoAttr K C "may_lack"
  mF : Meth K C "free" m.fF
  mP : Meth K C "by_place" m.fP
  mB : Meth K C "by_name" m.fB
  mT : Meth K C "takes_one" m.fT
  mO : Meth K C "told" m.fO
def spP (K : PySem.W.Frag) (m : MA) (N : Addr) : Sp := fun vs H Q E => ∃ (p dx C : Addr) (wd : Str) (x : V) (b : Bool), vs = [.ref p, .str wd, x, .bl b] ∧ H p = some (.ins C dx []) ∧ PC K m C ∧ OkV K H x ∧ (nmV x = true → ∀ H1, Same H H1 → Q .non (upd H1 p (.ins C dx (pf wd x b)))) ∧ (nmV x = false → ∀ H1, Same H H1 → E (.ref N) none H1)
def spS (K : PySem.W.Frag) (C N : Addr) (wd : Str) : Sp := fun vs H Q E => ∃ (p dx : Addr) (x : V) (b : Bool), vs = [.ref p, x, .bl b] ∧ H p = some (.ins C dx []) ∧ OkV K H x ∧ (nmV x = true → ∀ H1, Same H H1 → Q .non (upd H1 p (.ins C dx (pf wd x b)))) ∧ (nmV x = false → ∀ H1, Same H H1 → E (.ref N) none H1)
def spT (K : PySem.W.Frag) (C N : Addr) (wd : Str) : Sp := fun vs H Q E => ∃ (p dx : Addr) (x : V), vs = [.ref p, x] ∧ H p = some (.ins C dx []) ∧ OkV K H x ∧ (nmV x = true → ∀ H1, Same H H1 → Q .non (upd H1 p (.ins C dx (pf wd x true)))) ∧ (nmV x = false → ∀ H1, Same H H1 → E (.ref N) none H1)
def bpL : List V := [.str "seat", .str "both"]
def bnL : List V := [.str "both", .str "tag"]
def otL : List V := [.str "seat", .str "both", .str "tag"]
def spIn (K : PySem.W.Frag) (m : MA) (l : List V) : Sp := fun vs H Q _ => ∃ (p dx C : Addr) (wd : Str) (x : V) (b : Bool), vs = [.ref p] ∧ PC K m C ∧ H p = some (.ins C dx (pf wd x b)) ∧ Q (.bl (inV (.str wd) l)) H
/-- the written tuples of words -/
structure Wds (K : PySem.W.Frag) (mg : Str → Option Value) (tP tB tO : Addr) : Prop where
  mP : mg "BY_PLACE" = some (.ref tP)
  mB : mg "BY_NAME" = some (.ref tB)
  mO : mg "OF_ONE_THING" = some (.ref tO)
  hP : ∀ H, SqT K H tP bpL
  hB : ∀ H, SqT K H tB bnL
  hO : ∀ H, SqT K H tO otL
section
variable {P : Program} {w : World} {K : PySem.W.Frag} {mg : Str → Option Value} {base : Heap} {f C N tP tB tO : Addr} {fd : FuncData} {m : MA}
theorem scPInit : FnScope ["self", "word", "name", "may_lack"] ["self", "word", "name", "may_lack"] (defScope sPInit) := ⟨rfl, rfl, rfl, by decide +kernel, rfl, by decide +kernel, by decide +kernel⟩
theorem ok_pinit {g : Addr} {gd : FuncData} (F : Fun K "__init__" "Parameter.__init__" sPInit f fd) (own : OwnCls "NoName" N EB "ValueError.__new__" mg base) (cI : Callee P w K mg base 1 "is_name" g gd ["thing"] (spIs K)) :
    FnOk P w K mg base (CXe P w) 2 f fd ["self", "word", "name", "may_lack"] (spP K m N) := by
  refine F.okE scPInit (fun vs H Q E h => ?_) (fun cdv A outer s H vs Q E hr h => ?_)
  · obtain ⟨p, dx, C, wd, x, b, rfl, _⟩ := h
    rfl
  obtain ⟨p, dx, C, wd, x, b, rfl, hp, c, hx, q1, q2⟩ := h
  refine ⟨_, pss_cons (ps_if (pt_not (pt_val (cF cI hr (ac (pv 2) pa_nil)))) (pss_one (ps_raise raises_cx own PySem.F.excBase_ValueError (by decide) PySem.F.excBase_ValueError rfl (ac pe_str pa_nil))) pss_nil)
    (pss_cons (ps_fld (pv 0) (pv 1) rfl) (pss_cons (ps_fld (pv 0) (pv 2) rfl) (pss_one (ps_fld (pv 0) (pv 3) rfl)))), ?_⟩
  refine ⟨_, rfl, x, rfl, hx, fun H1 s1 => ⟨_, rfl, ?_⟩⟩
  cases e : nmV x with
  | false =>
    refine iteT ?_
    exact ⟨by show 1 ≤ sizeLine; decide, q2 e _ s1⟩
  | true =>
    refine iteF ?_
    refine ⟨_, rfl, _, rfl, p, C, dx, [], rfl, s1 _ _ hp, c.cl, c.nW, (by show 0 < 1000; decide), ?_⟩
    refine ⟨_, rfl, _, rfl, p, C, dx, _, rfl, upd_same, c.cl, c.nN, (by show 1 < 1000; decide), ?_⟩
    refine ⟨_, rfl, _, rfl, p, C, dx, _, rfl, upd_same, c.cl, c.nM, (by show 2 < 1000; decide), ?_⟩
    rw [upd_upd, upd_upd]
    exact q1 e _ s1
theorem scSeat : FnScope ["self", "name", "free"] ["self", "name", "free"] (defScope sSeat) := ⟨rfl, rfl, rfl, by decide +kernel, rfl, by decide +kernel, by decide +kernel⟩
theorem ok_seat {g D : Addr} {gd : FuncData} {ds : List Value} (F : FunD K "__init__" "Seat.__init__" sSeat f fd ds) (c : PC K m C) (B : ClsFn K D "__init__" g) (mD : mg "Parameter" = some (.ref D)) (G : FnOk P w K mg base (CXe P w) 2 g gd ["self", "word", "name", "may_lack"] (spP K m N)) (bg : Binds K gd ["self", "word", "name", "may_lack"] []) :
    FnOk P w K mg base (CXe P w) 3 f fd ["self", "name", "free"] (spS K C N "seat") := by
  refine F.okE scSeat (fun vs H Q E h => ?_) (fun cdv A outer s H vs Q E hr h => ?_)
  · obtain ⟨p, dx, x, b, rfl, _⟩ := h
    rfl
  obtain ⟨p, dx, x, b, rfl, hp, hx, q1, q2⟩ := h
  refine ⟨_, pss_one (ps_expr (pe_cm B mD G hr bg (passE fun _ _ _ z => z) (ac (pv 0) (ac pe_str (ac (pv 1) (ac (pv 2) pa_nil)))))), ?_⟩
  exact ⟨_, rfl, _, rfl, _, rfl, p, dx, C, _, x, b, rfl, hp, c, hx, q1, q2⟩
theorem scBoth : FnScope ["self", "name", "free"] ["self", "name", "free"] (defScope sBoth) := ⟨rfl, rfl, rfl, by decide +kernel, rfl, by decide +kernel, by decide +kernel⟩
theorem ok_both {g D : Addr} {gd : FuncData} {ds : List Value} (F : FunD K "__init__" "Both.__init__" sBoth f fd ds) (c : PC K m C) (B : ClsFn K D "__init__" g) (mD : mg "Parameter" = some (.ref D)) (G : FnOk P w K mg base (CXe P w) 2 g gd ["self", "word", "name", "may_lack"] (spP K m N)) (bg : Binds K gd ["self", "word", "name", "may_lack"] []) :
    FnOk P w K mg base (CXe P w) 3 f fd ["self", "name", "free"] (spS K C N "both") := by
  refine F.okE scBoth (fun vs H Q E h => ?_) (fun cdv A outer s H vs Q E hr h => ?_)
  · obtain ⟨p, dx, x, b, rfl, _⟩ := h
    rfl
  obtain ⟨p, dx, x, b, rfl, hp, hx, q1, q2⟩ := h
  refine ⟨_, pss_one (ps_expr (pe_cm B mD G hr bg (passE fun _ _ _ z => z) (ac (pv 0) (ac pe_str (ac (pv 1) (ac (pv 2) pa_nil)))))), ?_⟩
  exact ⟨_, rfl, _, rfl, _, rfl, p, dx, C, _, x, b, rfl, hp, c, hx, q1, q2⟩
theorem scTail : FnScope ["self", "name"] ["self", "name"] (defScope sTail) := ⟨rfl, rfl, rfl, by decide +kernel, rfl, by decide +kernel, by decide +kernel⟩
theorem ok_tail {g D : Addr} {gd : FuncData} (F : Fun K "__init__" "Tail.__init__" sTail f fd) (c : PC K m C) (B : ClsFn K D "__init__" g) (mD : mg "Parameter" = some (.ref D)) (G : FnOk P w K mg base (CXe P w) 2 g gd ["self", "word", "name", "may_lack"] (spP K m N)) (bg : Binds K gd ["self", "word", "name", "may_lack"] []) :
    FnOk P w K mg base (CXe P w) 3 f fd ["self", "name"] (spT K C N "tail") := by
  refine F.okE scTail (fun vs H Q E h => ?_) (fun cdv A outer s H vs Q E hr h => ?_)
  · obtain ⟨p, dx, x, rfl, _⟩ := h
    rfl
  obtain ⟨p, dx, x, rfl, hp, hx, q1, q2⟩ := h
  refine ⟨_, pss_one (ps_expr (pe_cm B mD G hr bg (passE fun _ _ _ z => z) (ac (pv 0) (ac pe_str (ac (pv 1) (ac pe_bl pa_nil)))))), ?_⟩
  exact ⟨_, rfl, _, rfl, p, dx, C, _, x, true, rfl, hp, c, hx, q1, q2⟩
theorem scByName : FnScope ["self"] ["self"] (defScope sByName) := ⟨rfl, rfl, rfl, by decide +kernel, rfl, by decide +kernel, by decide +kernel⟩
theorem ok_by_name (F : Fun K "by_name" "Parameter.by_name" sByName f fd) (Wd : Wds K mg tP tB tO) : FnOk P w K mg base CX0 1 f fd ["self"] (spIn K m bnL) := by
  refine F.ok scByName (fun vs H Q E h => ?_) (fun cdv A outer s H vs Q E hr h => ?_)
  · obtain ⟨p, dx, C, wd, x, b, rfl, _⟩ := h
    rfl
  obtain ⟨p, dx, C, wd, x, b, rfl, c, hp, q⟩ := h
  refine ⟨_, pss_one (ps_ret (pe_cmpR op_in_seq (pe_fld (pv 0) rfl) (pe_glob (v := .ref tB) rfl Wd.mB rfl) (by with_unfolding_all rfl))), ?_⟩
  exact ⟨_, rfl, p, C, dx, _, _, rfl, hp, c.cl, c.nW, pf_word, tB, bnL, rfl, .inr (Wd.hB H), rfl, (by decide), q⟩
end
end K15

set_option Elab.async false
set_option linter.all false
set_option maxRecDepth 100000
set_option maxHeartbeats 4000000
namespace K15
open PySem L2 PyProof.Rows
structure C5 where
  (c0 c1 c2 c3 c4 : Addr)
def C5.at (c : C5) : Nat → Addr
  | 0 => c.c0 | 1 => c.c1 | 2 => c.c2 | 3 => c.c3 | _ => c.c4
def g21 {α : Type} : List α → List α → List α
  | [u, v], [w] => [u, v, w]
  | _, _ => []
theorem g21_rel {vs : List V} {us : List Value} {zs : List V} {ws : List Value} (r : Vals vs us) (q : Vals zs ws) : Vals (g21 vs zs) (g21 us ws) := by
  cases r with
  | nil => exact .nil
  | cons a r => cases r with
    | nil => exact .nil
    | cons a2 r => cases r with
      | cons _ _ => exact .nil
      | nil => cases q with
        | nil => exact .nil
        | cons b q => cases q with
          | nil => exact .cons a (.cons a2 (.cons b .nil))
          | cons _ _ => exact .nil
structure Ctors (P : Program) (w : World) (K : PySem.W.Frag) (mg : Str → Option Value) (base : Heap) (c : C5) (N : Addr) (i0 i1 i2 : Addr) (d0 d1 d2 : FuncData) : Prop where
  k0 : Ctor P w K mg base (CXe P w) 3 "Seat" c.c0 i0 d0 ["self", "name", "free"] [] (spS K c.c0 N "seat")
  e0 : Ctor P w K mg base (CXe P w) 3 "Seat" c.c0 i0 d0 ["self", "name", "free"] [.bool false] (spS K c.c0 N "seat")
  b0 : KBinds K d0 ["self", "name", "free"] ["free"] g21 g21
  k1 : Ctor P w K mg base (CXe P w) 3 "Both" c.c1 i1 d1 ["self", "name", "free"] [] (spS K c.c1 N "both")
  e1 : Ctor P w K mg base (CXe P w) 3 "Both" c.c1 i1 d1 ["self", "name", "free"] [.bool false] (spS K c.c1 N "both")
  b1 : KBinds K d1 ["self", "name", "free"] ["free"] g21 g21
  k2 : Ctor P w K mg base (CXe P w) 3 "Tail" c.c2 i2 d2 ["self", "name"] [] (spT K c.c2 N "tail")
section
variable {P : Program} {w : World} {K : PySem.W.Frag} {mg : Str → Option Value} {base : Heap} {f N i0 i1 i2 i3 i4 : Addr} {fd d0 d1 d2 d3 d4 : FuncData} {c : C5}
end
end K15

set_option Elab.async false
set_option linter.all false
set_option maxRecDepth 100000
set_option maxHeartbeats 4000000
namespace L2
open PySem PySem.Spec PyProof.Rows
end L2
namespace K15
open PySem L2 PyProof.Rows
/-! ### rows and forms -/
structure Rw where
  (k : Nat) (z : Str) (b : Bool)
def Rw.ok (r : Rw) : Prop := r.k < 5 ∧ nameB r.z = true
abbrev pr (r : Rw) : List (Str × V) := pf (kw r.k) (.str r.z) (fr r.k r.b)
def PAt (c : C5) (H : Hp) (p : Addr) (r : Rw) : Prop := ∃ dx, H p = some (.ins (c.at r.k) dx (pr r))
def byNm (k : Nat) : Bool := k == 1 || k == 3
theorem in_nm : ∀ k : Nat, k < 5 → inV (.str (kw k)) bnL = byNm k := by decide +kernel
def grp : Nat → Nat
  | 0 => 0 | 1 => 0 | 2 => 1 | 3 => 2 | _ => 3
def badAt (l g : Nat) : Bool := decide (g < l) || (g == l && (g == 1 || g == 3))
def ordOk : Nat → List Rw → Bool
  | _, [] => true
  | l, r :: rs => !badAt l (grp r.k) && ordOk (grp r.k) rs
def nms (rows : List Rw) : List Str := (rows.filter fun r => byNm r.k).map (·.z)
section
variable {c : C5} {CF f p : Addr} {H H' : Hp} {rows : List Rw} {bars : List Str} {r : Rw} {ps : List Addr}
theorem PAt.same (h : PAt c H p r) (s : Same H H') : PAt c H' p r := h.imp fun _ => s _ _
theorem pats_same (s : Same H H') (h : Paired (PAt c H) ps rows) : Paired (PAt c H') ps rows := Paired.imp' (fun _ _ z => z.same s) h
theorem paired_at {α β : Type} {R : α → β → Prop} {xs : List α} {ys : List β} (h : Paired R xs ys) : ∀ {i : Nat} {x : α}, xs[i]? = some x → ∃ y, ys[i]? = some y ∧ R x y := by
  induction h with
  | nil => intro i x e; simp at e
  | cons r t ih =>
    intro i x e
    cases i with
    | zero => exact ⟨_, rfl, by simp at e; exact e ▸ r⟩
    | succ i => simpa using ih (by simpa using e)
end
end K15

set_option Elab.async false
set_option linter.all false
set_option maxRecDepth 100000
set_option maxHeartbeats 4000000
namespace K15
open PySem L2 PyProof.Rows
def grpV (x : Str) : Option V := ([(("seat" : Str), V.int 0), ("both", .int 0), ("tail", .int 1), ("tag", .int 2), ("bag", .int 3)] : List (Str × V)).lookup x
theorem grpV_kw : ∀ k : Nat, k < 5 → grpV (kw k) = some (.int (grp k)) := by decide +kernel
theorem grp_lt (k : Nat) : grp k < 4 := by unfold grp; split <;> decide
structure TxtF (w : World) (K : PySem.W.Frag) (mg : Str → Option Value) (G sg : Addr) : Prop where
  len : mg "len" = none
  en : mg "enumerate" = none
  lst : mg "list" = none
  set : mg "set" = none
  mp : ∃ t, mg "MOST_PARAMETERS" = some (.int 24 t)
  mb : ∃ t, mg "MOST_BARS" = some (.int 60 t)
  mgr : mg "GROUPS" = some (.ref G)
  gt : KTab w K G grpV
  ms : mg "SINGLE_GROUPS" = some (.ref sg)
  hs : ∀ H, SqT K H sg [.int 1, .int 3]
def Cs5 (c : C5) : Addr → Prop := fun C => ∃ k, k < 5 ∧ C = c.at k
theorem drop_at {α : Type} {xs : List α} {i : Nat} {x : α} (h : xs[i]? = some x) : xs.drop i = x :: xs.drop (i + 1) := by
  have hi : i < xs.length := (List.getElem?_eq_some_iff.mp h).1
  rw [List.drop_eq_getElem_cons hi]
  rw [List.getElem?_eq_getElem hi] at h
  rw [Option.some.inj h]
theorem refs_at {ps : List Addr} {i : Nat} {x : V} (h : (ps.map V.ref)[i]? = some x) : ∃ p, ps[i]? = some p ∧ x = .ref p := by
  rw [List.getElem?_map] at h
  cases e : ps[i]? with
  | none => rw [e] at h; cases h
  | some p => rw [e] at h; exact ⟨p, rfl, (Option.some.inj h).symm⟩
theorem strs_at {zs : List Str} {i : Nat} {x : V} (h : (zs.map V.str)[i]? = some x) : ∃ z, zs[i]? = some z ∧ x = .str z := by
  rw [List.getElem?_map] at h
  cases e : zs[i]? with
  | none => rw [e] at h; cases h
  | some p => rw [e] at h; exact ⟨p, rfl, (Option.some.inj h).symm⟩
section
variable {P : Program} {w : World} {K : PySem.W.Frag} {mg : Str → Option Value} {base : Heap} {f G sg : Addr} {fd : FuncData} {c : C5} {m : MA}
/-- what the five classes have -/
def Pcs (K : PySem.W.Frag) (m : MA) (c : C5) : Prop := ∀ k, k < 5 → PC K m (c.at k)
theorem scRMany : FnScope ["parameters", "bars"] ["parameters", "bars"] (defScope sRMany) := ⟨rfl, rfl, rfl, by decide +kernel, rfl, by decide +kernel, by decide +kernel⟩
theorem scROrder : FnScope ["parameters", "last", "at", "parameter", "group"] ["parameters"] (defScope sROrder) := ⟨rfl, rfl, rfl, by decide +kernel, rfl, by decide +kernel, by decide +kernel⟩
end
end K15

set_option Elab.async false
set_option linter.all false
set_option maxRecDepth 100000
set_option maxHeartbeats 4000000
namespace L2
open PySem PySem.Spec PyProof.Rows
theorem pe_fldK {X : Cx} {K : PySem.W.Frag} {e : Expr} {f : Str} {pos : Pos} {ta : TE} (hK : X.K = K) (he : PE X e ta) (hb : attributeBase e f X.env (eval e X.env) = eval e X.env) : PE X (.Attribute e f pos) (tFld K ta f) := hK ▸ pe_fld he hb
end L2
namespace K15
open PySem L2 PyProof.Rows
theorem le1000 {n : Nat} (h : n ≤ 1000) : n ≤ sizeLine := Nat.le_of_lt (small1000 h)
theorem nm_take {rows : List Rw} {i : Nat} {r : Rw} (h : rows[i]? = some r) : nms (rows.take (i + 1)) = nms (rows.take i) ++ (if byNm r.k = true then [r.z] else []) := by
  have hi : i < rows.length := (List.getElem?_eq_some_iff.mp h).1
  have e : rows[i] = r := by rw [List.getElem?_eq_getElem hi] at h; exact Option.some.inj h
  unfold nms
  rw [List.take_succ_eq_append_getElem hi, List.filter_append, List.map_append, e]
  cases hb : byNm r.k <;> simp [hb]
section
variable {P : Program} {w : World} {K : PySem.W.Frag} {mg : Str → Option Value} {base : Heap} {f G sg : Addr} {fd : FuncData} {c : C5} {m : MA}
theorem scRBars : FnScope ["bars", "bar"] ["bars"] (defScope sRBars) := ⟨rfl, rfl, rfl, by decide +kernel, rfl, by decide +kernel, by decide +kernel⟩
theorem ndPm : ([Str.ofString "parameter"] : List Str).Nodup := by decide +kernel
theorem scRTwice : FnScope ["parameters", "bars", "seen", "name"] ["parameters", "bars"] (defScope sRTwice) := ⟨rfl, rfl, rfl, by decide +kernel, rfl, by decide +kernel, by decide +kernel⟩
end
end K15

set_option Elab.async false
set_option linter.all false
set_option maxRecDepth 100000
set_option maxHeartbeats 4000000
namespace K15
open PySem L2 PyProof.Rows
/-! ### the exceptions' own __init__ -/
def spXI (K : PySem.W.Frag) (nm : Str) : Sp := fun vs H Q _ => ∃ (x C t : Addr) (v : V), vs = [.ref x, v] ∧ H x = some (excX x C none t) ∧ XSet K C ∧ NoAttr K C nm ∧ ∀ dx, H dx = none → Q .non (upd (upd H x (excX x C (some dx) t)) dx (.xd [(nm, v)]))
section
variable {P : Program} {w : World} {K : PySem.W.Frag} {mg : Str → Option Value} {base : Heap} {f G sg : Addr} {fd : FuncData} {c : C5} {m : MA}
theorem scXBad : FnScope ["self", "at"] ["self", "at"] (defScope sXBad) := ⟨rfl, rfl, rfl, by decide +kernel, rfl, by decide +kernel, by decide +kernel⟩
theorem scXTwice : FnScope ["self", "name"] ["self", "name"] (defScope sXTwice) := ⟨rfl, rfl, rfl, by decide +kernel, rfl, by decide +kernel, by decide +kernel⟩
theorem scXNoDef : FnScope ["self", "number"] ["self", "number"] (defScope sXNoDef) := ⟨rfl, rfl, rfl, by decide +kernel, rfl, by decide +kernel, by decide +kernel⟩
theorem scXMis : FnScope ["self", "number"] ["self", "number"] (defScope sXMis) := ⟨rfl, rfl, rfl, by decide +kernel, rfl, by decide +kernel, by decide +kernel⟩
theorem ok_xbad (F : Fun K "__init__" "BadOrder.__init__" sXBad f fd) : FnOk P w K mg base CX0 1 f fd ["self", "at"] (spXI K "at") := by
  refine F.ok scXBad (fun vs H Q E h => ?_) (fun cdv A outer s H vs Q E hr h => ?_)
  · obtain ⟨x, C, t, v, rfl, _⟩ := h
    rfl
  obtain ⟨x, C, t, v, rfl, hx, m, n, q⟩ := h
  refine ⟨_, pss_one (ps_fldX (pv 0) (pv 1) rfl), ?_⟩
  exact ⟨_, rfl, _, rfl, x, C, t, rfl, hx, m, n, q⟩
theorem ok_xtwice (F : Fun K "__init__" "Twice.__init__" sXTwice f fd) : FnOk P w K mg base CX0 1 f fd ["self", "name"] (spXI K "name") := by
  refine F.ok scXTwice (fun vs H Q E h => ?_) (fun cdv A outer s H vs Q E hr h => ?_)
  · obtain ⟨x, C, t, v, rfl, _⟩ := h
    rfl
  obtain ⟨x, C, t, v, rfl, hx, m, n, q⟩ := h
  refine ⟨_, pss_one (ps_fldX (pv 0) (pv 1) rfl), ?_⟩
  exact ⟨_, rfl, _, rfl, x, C, t, rfl, hx, m, n, q⟩
theorem ok_xnodef (F : Fun K "__init__" "NoDefault.__init__" sXNoDef f fd) : FnOk P w K mg base CX0 1 f fd ["self", "number"] (spXI K "number") := by
  refine F.ok scXNoDef (fun vs H Q E h => ?_) (fun cdv A outer s H vs Q E hr h => ?_)
  · obtain ⟨x, C, t, v, rfl, _⟩ := h
    rfl
  obtain ⟨x, C, t, v, rfl, hx, m, n, q⟩ := h
  refine ⟨_, pss_one (ps_fldX (pv 0) (pv 1) rfl), ?_⟩
  exact ⟨_, rfl, _, rfl, x, C, t, rfl, hx, m, n, q⟩
theorem ok_xmis (F : Fun K "__init__" "Misfit.__init__" sXMis f fd) : FnOk P w K mg base CX0 1 f fd ["self", "number"] (spXI K "number") := by
  refine F.ok scXMis (fun vs H Q E h => ?_) (fun cdv A outer s H vs Q E hr h => ?_)
  · obtain ⟨x, C, t, v, rfl, _⟩ := h
    rfl
  obtain ⟨x, C, t, v, rfl, hx, m, n, q⟩ := h
  refine ⟨_, pss_one (ps_fldX (pv 0) (pv 1) rfl), ?_⟩
  exact ⟨_, rfl, _, rfl, x, C, t, rfl, hx, m, n, q⟩
/-! ### the refusals of a form -/
/-- an exception class with an own __init__, as code has it -/
theorem same_drop1 {H H2 : Hp} {x : Addr} {o : HO} (s : Same H H2) (hx : H2 x = none) : Same H (drop (upd H2 x o) x) := fun b u e => by
  have nx : b ≠ x := ne_of_none (s _ _ e) hx
  rw [drop_ne nx, upd_ne nx]
  exact s _ _ e
theorem same_drop2 {H H2 : Hp} {x d : Addr} {o o' o'' : HO} (s : Same H H2) (hx : H2 x = none) (hd : upd H2 x o d = none) : Same H (drop (upd (upd (upd H2 x o) x o') d o'') x) := fun b u e => by
  have nx : b ≠ x := ne_of_none (s _ _ e) hx
  have e2 : upd H2 x o b = some u := by rw [upd_ne nx]; exact s _ _ e
  rw [drop_ne nx, upd_ne (ne_of_none e2 hd), upd_ne nx]
  exact e2
/-- an exception class without an own __init__, as code has it -/
structure PCls (K : PySem.W.Frag) (mg : Str → Option Value) (base : Heap) (x : Str) (C : Addr) : Prop where
  own : OwnCls x C EB "ValueError.__new__" mg base
  kp : PySem.W.keepIn K (.ref C) = true
  ex : ExcCls K C
  xm : xmIn K C = true
structure XCls (P : Program) (w : World) (K : PySem.W.Frag) (mg : Str → Option Value) (base : Heap) (x : Str) (C g : Addr) (gd : FuncData) (a nm : Str) : Prop where
  call : XCall K C g
  set : XSet K C
  no : NoAttr K C nm
  ex : ExcCls K C
  gl : mg x = some (.ref C)
  ok : FnOk P w K mg base CX0 1 g gd ["self", a] (spXI K nm)
  bd : Binds K gd ["self", a] []
def spManyR (K : PySem.W.Frag) (TM : Addr) : Sp := fun vs H Q E => ∃ (a b : Addr) (xs ys : List V), vs = [.ref a, .ref b] ∧ SqL K H a xs ∧ SqL K H b ys ∧ ys.length ≤ 60 ∧ (xs.length ≤ 24 → Q .non H) ∧ (24 < xs.length → ∀ od H', Same H H' → E (.ref TM) od H')
theorem ok_manyR {TM : Addr} (F : Fun K "refuse_too_many" "refuse_too_many" sRMany f fd) (T : TxtF w K mg G sg) (pc : PCls K mg base "TooMany" TM) : FnOk P w K mg base (CXs P w) 1 f fd ["parameters", "bars"] (spManyR K TM) := by
  refine F.okS scRMany (fun vs H Q E h => ?_) (fun cdv A outer s H vs Q E hr h => ?_)
  · obtain ⟨a, b, xs, ys, rfl, _⟩ := h
    rfl
  obtain ⟨a, b, xs, ys, rfl, ha, hb, l2, q1, q2⟩ := h
  obtain ⟨t1, m1⟩ := T.mp
  obtain ⟨t2, m2⟩ := T.mb
  refine ⟨_, pss_cons (ps_if (pt_cmpR op_gt (cB call_len_seq T.len PySem.boot_len (ac (pv 0) pa_nil)) (pe_glob (v := .int 24) rfl m1 ⟨_, rfl⟩) (nomark _)) (pss_one (ps_raiseS raisesS_cx rfl (pe_makeP pc.own pc.kp PySem.F.excBase_ValueError (by decide) PySem.F.excBase_ValueError (ac pe_str pa_nil)))) pss_nil)
    (pss_one (ps_if (pt_cmpR op_gt (cB call_len_seq T.len PySem.boot_len (ac (pv 1) pa_nil)) (pe_glob (v := .int 60) rfl m2 ⟨_, rfl⟩) (nomark _)) (pss_one ps_dead) pss_nil)), ?_⟩
  refine ⟨_, rfl, a, _, rfl, .inl ha, _, _, rfl, rfl, _, rfl, ?_⟩
  by_cases l1 : xs.length ≤ 24
  · refine dF (by show ¬ (24 : Int) < (xs.length : Int); omega) ?_
    refine ⟨_, rfl, b, _, rfl, .inl hb, _, _, rfl, rfl, _, rfl, ?_⟩
    exact dF (by show ¬ (60 : Int) < (ys.length : Int); omega) (q1 l1)
  · refine dT (by show (24 : Int) < (xs.length : Int); omega) ?_
    exact ⟨by show 1 ≤ sizeLine; decide, fun x tu hx => ⟨x, TM, none, tu, rfl, upd_same, pc.ex, pc.xm, hx, q2 (by omega) _ _ (same_drop1 (Same.refl _) hx)⟩⟩
def spOrdR (c : C5) (BO : Addr) : Sp := fun vs H Q E => ∃ (a : Addr) (ps : List Addr) (rows : List Rw), vs = [.ref a] ∧ H a = some (.lst (ps.map V.ref)) ∧ Paired (PAt c H) ps rows ∧ (∀ r ∈ rows, r.ok) ∧ (ordOk 0 rows = true → ∀ H', Same H H' → Q .non H') ∧ (ordOk 0 rows = false → ∀ od H', Same H H' → E (.ref BO) od H')
theorem ok_orderR {BO g : Addr} {gd : FuncData} (F : Fun K "refuse_bad_order" "refuse_bad_order" sROrder f fd) (T : TxtF w K mg G sg) (PP : Pcs K m c) (X' : XCls P w K mg base "BadOrder" BO g gd "at" "at") : FnOk P w K mg base (CXs P w) 3 f fd ["parameters"] (spOrdR c BO) := by
  refine F.okS scROrder (fun vs H Q E h => ?_) (fun cdv A outer s H vs Q E hr h => ?_)
  · obtain ⟨a, ps, rows, rfl, _⟩ := h
    rfl
  obtain ⟨a, ps, rows, rfl, ha, hp, hok, q1, q2⟩ := h
  refine ⟨_, pss_cons (ps_set (i := 1) scROrder.nd rfl (Or.inl rfl) pe_int)
    (pss_one (ps_for PassesOwn.leaving rfl (pi_enum rfl T.en (ac (pv 0) pa_nil)) (pg_tup rfl (pgs_cons (pg_name (i := 2) scROrder.nd rfl (Or.inl rfl)) (pgs_cons (pg_name (i := 3) scROrder.nd rfl (Or.inl rfl)) pgs_nil)))
      (pss_cons (ps_set (i := 4) scROrder.nd rfl (Or.inl rfl) (pe_kget T.gt T.mgr (pe_fld (pv 3) rfl)))
      (pss_cons (ps_if (PW.pt (pw_or (pt_cmpR op_lt (pv 4) (pv 1) (nomark _)) (pw_or1 (PW.pt (pw_and (pt_cmpR op_eq (pv 4) (pv 1) (nomark _)) (pw_and1 (pt_cmpR op_in_seq (pv 4) (pe_glob (v := .ref sg) rfl T.ms rfl) (by with_unfolding_all rfl)))))))) (pss_one (ps_raiseS raisesS_cx rfl (pe_makeX X'.call X'.ok hr rfl X'.gl X'.bd pass0 (ac (pv 2) pa_nil)))) pss_nil)
      (pss_one (ps_set (i := 1) scROrder.nd rfl (Or.inl rfl) (pv 4))))))), ?_⟩
  show tSeq _ _ _ _ _
  refine ⟨_, rfl, a, rfl, ⟨_, SqL.of ha⟩, for_enum (K := K) (a := a) (xs := ps.map V.ref) (fun i σ H' => ∃ (l : Nat) (v2 v3 v4 : Option V), σ = [some (.ref a), some (.int (l : Nat)), v2, v3, v4] ∧ Same H H' ∧ ordOk l (rows.drop i) = ordOk 0 rows)
    ⟨0, _, _, _, rfl, Same.refl _, rfl⟩ (fun i σ H' _ ⟨_, _, _, _, _, sH, _⟩ => SqL.of (sH _ _ ha)) ?_ ?_⟩
  · rintro i x p σ H' hx ⟨l, v2, v3, v4, rfl, sH, hl⟩ hpn
    obtain ⟨pa, hpa, rfl⟩ := refs_at hx
    obtain ⟨r, hr', dx, hdx⟩ := paired_at hp hpa
    have rok := hok r (List.mem_of_getElem? hr')
    have C := PP r.k rok.1
    rw [drop_at hr'] at hl
    have hl' : (!badAt l (grp r.k) && ordOk (grp r.k) (rows.drop (i + 1))) = ordOk 0 rows := hl
    have sp := same_new hpn (.tup [.int (i : Nat), .ref pa])
    have s2 := sH.trans sp
    refine ⟨p, _, rfl, SqT.of upd_same, rfl, _, _, rfl, _, _, rfl, rfl, ?_⟩
    refine ⟨_, rfl, pa, _, dx, _, _, rfl, sp _ _ (sH _ _ hdx), C.cl, C.nW, pf_word, kw r.k, .int (grp r.k), rfl, grpV_kw r.k rok.1, ?_⟩
    show tSeq _ _ _ _ (upd H' p (.tup [.int (i : Nat), .ref pa]))
    generalize upd H' p (.tup [.int (i : Nat), .ref pa]) = H2 at sp s2 ⊢
    have fin : badAt l (grp r.k) = false → ∃ (l' : Nat) (v2 v3 v4 : Option V), ([some (.ref a), some (.int (grp r.k : Nat)), some (.int (i : Nat)), some (.ref pa), some (.int (grp r.k : Nat))] : L2.St) = [some (.ref a), some (.int (l' : Nat)), v2, v3, v4] ∧ Same H H2 ∧ ordOk l' (rows.drop (i + 1)) = ordOk 0 rows := fun hb => by
      rw [hb] at hl'
      exact ⟨grp r.k, _, _, _, rfl, s2, hl'⟩
    have bad : badAt l (grp r.k) = true → ∀ Dn : Ends, tRaiseS K H E (tMakeX BO (spXI K "at") E0 (tCons (tVar 2) tNil)) Dn [some (.ref a), some (.int (l : Nat)), some (.int (i : Nat)), some (.ref pa), some (.int (grp r.k : Nat))] H2 := fun hb Dn => by
      rw [hb] at hl'
      refine ⟨_, rfl, by show 1 ≤ sizeLine; decide, fun x tu hxn htn hne => ?_⟩
      refine ⟨x, BO, tu, _, rfl, upd_same, X'.set, X'.no, fun d hd => ⟨rfl, x, BO, some d, tu, rfl, ?_, X'.ex, X'.call.ob, s2.free hxn, q2 hl'.symm _ _ (same_drop2 s2 hxn hd)⟩⟩
      · have : x ≠ d := fun z => by rw [← z, upd_same] at hd; cases hd
        rw [upd_ne this, upd_same]
    unfold badAt at fin bad
    refine ⟨_, rfl, _, rfl, _, _, rfl, rfl, _, rfl, ?_⟩
    by_cases h1 : grp r.k < l
    · refine dT (by omega) ?_
      refine iteT ?_
      exact bad (by rw [decide_eq_true h1]; rfl) _
    · refine dF (by omega) ?_
      rw [decide_eq_false h1, Bool.false_or] at fin bad
      refine ⟨_, rfl, _, rfl, rfl, _, rfl, ?_⟩
      by_cases e : grp r.k = l
      · rw [beq_iff_eq.mpr e, Bool.true_and] at fin bad
        refine dT (by rw [e]) ?_
        refine ⟨_, rfl, sg, _, rfl, .inr (T.hs _), rfl, (by decide), _, rfl, ?_⟩
        have hin : inV (.int (grp r.k : Nat)) [.int 1, .int 3] = (grp r.k == 1 || grp r.k == 3) := by
          have : ∀ g : Nat, g < 4 → inV (.int (g : Nat)) [.int 1, .int 3] = (g == 1 || g == 3) := by decide +kernel
          exact this _ (grp_lt r.k)
        rw [show (if false = true then !inV (V.int ((grp r.k : Nat) : Int)) [V.int 1, V.int 3] else inV (V.int ((grp r.k : Nat) : Int)) [V.int 1, V.int 3]) = (grp r.k == 1 || grp r.k == 3) from hin]
        cases hb : (grp r.k == 1 || grp r.k == 3) with
        | true =>
          refine iteT ?_
          exact bad hb _
        | false =>
          refine iteF ?_
          exact ⟨_, rfl, fin hb⟩
      · have : (grp r.k == l) = false := beq_eq_false_iff_ne.mpr e
        rw [this, Bool.false_and] at fin
        refine dF (fun z => e (by have := V.int.inj z; omega)) ?_
        exact iteF ⟨_, rfl, fin rfl⟩
  · rintro σ H' ⟨l, v2, v3, v4, rfl, sH, hl⟩
    rw [List.drop_eq_nil_of_le (by rw [List.length_map, hp.length]; exact Nat.le_refl _)] at hl
    exact q1 hl.symm _ sH
end
end K15

set_option Elab.async false
set_option linter.all false
set_option maxRecDepth 100000
set_option maxHeartbeats 4000000
namespace K15
open PySem L2 PyProof.Rows
section
variable {P : Program} {w : World} {K : PySem.W.Frag} {mg : Str → Option Value} {base : Heap} {f G sg : Addr} {fd : FuncData} {c : C5} {m : MA}
def spRBR (K : PySem.W.Frag) (N : Addr) : Sp := fun vs H Q E => ∃ (b : Addr) (bars : List Str), vs = [.ref b] ∧ H b = some (.lst (bars.map V.str)) ∧ (∀ z ∈ bars, OkV K H (.str z)) ∧ ((∀ z ∈ bars, nameB z = true) → ∀ H', Same H H' → Q .non H') ∧ ((∃ z ∈ bars, nameB z = false) → ∀ od H', Same H H' → E (.ref N) od H')
theorem ok_rbarsR {N g : Addr} {gd : FuncData} (F : Fun K "refuse_bars_without_name" "refuse_bars_without_name" sRBars f fd) (pc : PCls K mg base "NoName" N) (cI : Callee P w K mg base 1 "is_name" g gd ["thing"] (spIs K)) : FnOk P w K mg base (CXs P w) 2 f fd ["bars"] (spRBR K N) := by
  refine F.okS scRBars (fun vs H Q E h => ?_) (fun cdv A outer s H vs Q E hr h => ?_)
  · obtain ⟨b, bars, rfl, _⟩ := h
    rfl
  obtain ⟨b, bars, rfl, hb, hv, q1, q2⟩ := h
  refine ⟨_, pss_one (ps_for PassesOwn.leaving rfl (pi_list (pv 0)) (pg_name (i := 1) scRBars.nd rfl (Or.inl rfl)) (pss_one (ps_if (pt_not (pt_val (cF cI hr (ac (pv 1) pa_nil)))) (pss_one (ps_raiseS raisesS_cx rfl (pe_makeP pc.own pc.kp PySem.F.excBase_ValueError (by decide) PySem.F.excBase_ValueError (ac pe_str pa_nil)))) pss_nil))), ?_⟩
  refine ⟨_, rfl, b, rfl, ⟨_, SqL.of hb⟩, for_list (K := K) (a := b) (xs := bars.map V.str) (fun i σ H' => ∃ v1, σ = [some (.ref b), v1] ∧ Same H H' ∧ ∀ z ∈ bars.take i, nameB z = true) ⟨_, rfl, Same.refl _, fun z hz => by simp at hz⟩ (fun i σ H' _ ⟨_, _, sH, _⟩ => SqL.of (sH _ _ hb)) ?_ ?_⟩
  · rintro i x σ H' hx ⟨v1, rfl, sH, hn⟩
    obtain ⟨z, hz, rfl⟩ := strs_at hx
    have hi : i < bars.length := (List.getElem?_eq_some_iff.mp hz).1
    have ez : bars[i] = z := (List.getElem?_eq_some_iff.mp hz).2
    have hm := List.mem_of_getElem? hz
    refine ⟨_, rfl, _, rfl, (hv z hm).same sH, fun H2 s2 => ⟨_, rfl, ?_⟩⟩
    cases e : nameB z with
    | true =>
      rw [show nmV (.str z) = true from e]
      refine iteF ?_
      refine ⟨_, rfl, sH.trans s2, fun y hy => ?_⟩
      rw [List.take_succ_eq_append_getElem hi, ez] at hy
      rcases List.mem_append.mp hy with hy | hy
      · exact hn y hy
      · rw [List.mem_singleton.mp hy]; exact e
    | false =>
      rw [show nmV (.str z) = false from e]
      refine iteT ?_
      exact ⟨by show 1 ≤ sizeLine; decide, fun x tu hx => ⟨x, N, none, tu, rfl, upd_same, pc.ex, pc.xm, (sH.trans s2).free hx, q2 ⟨z, hm, e⟩ _ _ (same_drop1 (sH.trans s2) hx)⟩⟩
  · rintro σ H' ⟨v1, rfl, sH, hn⟩
    rw [List.length_map, List.take_length] at hn
    exact q1 hn _ sH
def spTwR (c : C5) (TW : Addr) : Sp := fun vs H Q E => ∃ (a b : Addr) (ps : List Addr) (rows : List Rw) (bars : List Str), vs = [.ref a, .ref b] ∧ H a = some (.lst (ps.map V.ref)) ∧ Paired (PAt c H) ps rows ∧ (∀ r ∈ rows, r.ok) ∧ rows.length ≤ 500 ∧ H b = some (.lst (bars.map V.str)) ∧ bars.length ≤ 400 ∧ ((nms rows ++ bars).Nodup → ∀ H', Same H H' → Q .non H') ∧ (¬ (nms rows ++ bars).Nodup → ∀ od H', Same H H' → E (.ref TW) od H')
theorem ok_twiceR {TW g : Addr} {gd ge : FuncData} (F : Fun K "refuse_twice" "refuse_twice" sRTwice f fd) (T : TxtF w K mg G sg) (PP : Pcs K m c) (GB : FnOk P w K mg base CX0 1 m.fB gd ["self"] (spIn K m bnL)) (bB : Binds K gd ["self"] []) (X' : XCls P w K mg base "Twice" TW g ge "name" "name") : FnOk P w K mg base (CXs P w) 3 f fd ["parameters", "bars"] (spTwR c TW) := by
  refine F.okS scRTwice (fun vs H Q E h => ?_) (fun cdv A outer s H vs Q E hr h => ?_)
  · obtain ⟨a, b, ps, rows, bars, rfl, _⟩ := h
    rfl
  obtain ⟨a, b, ps, rows, bars, rfl, ha, hp, hok, l1, hb, l2, q1, q2⟩ := h
  have hr1 : Room 1 _ := hr.mono (by decide)
  have hC : ∀ C, Cs5 c C → Cls K C ∧ Meth K C "by_name" m.fB := fun C ⟨k, hk, e⟩ => by rw [e]; exact ⟨(PP k hk).cl, (PP k hk).mB⟩
  refine ⟨_, pss_cons (ps_set (i := 2) scRTwice.nd rfl (Or.inl rfl) (pe_callTy0 call_set0 rfl T.set (by decide +kernel : bootBuiltins "set" = some (.type "set"))))
    (pss_one (ps_for PassesOwn.leaving rfl (pi_list (pe_op op_cat (pe_lc [] ["parameter"] [none] rfl ⟨rfl, rfl, rfl, rfl⟩ (pi_list (pv 0)) (gown_name 0) rfl rfl rfl
        (fun pins fp s H C => ⟨pg_name (i := 0) ndPm rfl (Or.inl rfl) (.inr rfl), pif_one (pt_val (pe_methP (pv 0) hC GB hr1 bB pass0)), pe_fldK (K := K) rfl (pv 0) rfl⟩)) (cTy call_list_of T.lst PyProof.Rows.boot_list (ac (pv 1) pa_nil)))) (pg_name (i := 3) scRTwice.nd rfl (Or.inl rfl))
      (pss_cons (ps_if (pt_cmpR op_in_setT (pv 3) (pv 2) (by with_unfolding_all rfl)) (pss_one (ps_raiseS raisesS_cx rfl (pe_makeX X'.call X'.ok hr rfl X'.gl X'.bd pass0 (ac (pv 3) pa_nil)))) pss_nil)
      (pss_one (ps_expr (pe_sadd (pv 2) (pv 3) ⟨rfl, rfl, rfl, rfl⟩)))))), ?_⟩
  refine ⟨rfl, fun se hse => ?_⟩
  have s1 : Same H (upd H se (setO P w se (fun _ => false) 0)) := same_new hse _
  have g1 : upd H se (setO P w se (fun _ => false) 0) se = some (setO P w se (fun _ => false) 0) := upd_same
  show tSeq _ _ _ _ (upd H se (setO P w se (fun _ => false) 0))
  generalize upd H se (setO P w se (fun _ => false) 0) = H1 at s1 g1 ⊢
  have ha1 := s1 _ _ ha
  have hp1 := pats_same s1 hp
  refine ⟨_, rfl, a, rfl, ⟨_, SqL.of ha1⟩, fun D hD => ?_⟩
  refine lc_list (K := K) (xs := ps.map V.ref) (fun i ys H' => Same H1 H' ∧ H' D = some (.lst ys) ∧ ys = (nms (rows.take i)).map V.str) ⟨same_new hD _, upd_same, rfl⟩ (fun i ys H' h => SqL.of (h.1 _ _ ha1)) ?_ ?_
  · rintro i x ys H' hlt hx ⟨sH, hDy, ey⟩
    obtain ⟨pa, hpa, rfl⟩ := refs_at hx
    obtain ⟨r, hr', dx, hdx⟩ := paired_at hp1 hpa
    have rok := hok r (List.mem_of_getElem? hr')
    have C := PP r.k rok.1
    have nl : ys.length ≤ i := by
      rw [ey, List.length_map]
      unfold nms
      rw [List.length_map]
      refine Nat.le_trans (List.length_filter_le _ _) ?_
      rw [List.length_take]
      omega
    have hd2 := sH _ _ hdx
    refine ⟨_, rfl, pa, _, dx, _, rfl, ⟨r.k, rok.1, rfl⟩, hd2, pf_no (by decide +kernel) (by decide +kernel) (by decide +kernel), pa, dx, _, _, _, _, rfl, C, hd2, _, rfl, ?_⟩
    rw [in_nm r.k rok.1]
    have tk := nm_take hr'
    refine ⟨fun e => ?_, fun e => ?_⟩
    · rw [e, if_pos rfl] at tk
      refine ⟨_, rfl, pa, _, dx, _, _, rfl, hd2, C.cl, C.nN, pf_name, ?_⟩
      refine lcN.mk hlt (le1000 (by rw [List.length_map, hp.length]; omega)) hDy nl ⟨fun b u e => ?_, upd_same, ?_⟩
      · rw [upd_ne (ne_of_none e hD)]
        exact sH b u e
      · rw [ey, tk, List.map_append]
        rfl
    · rw [e, if_neg Bool.false_ne_true, List.append_nil] at tk
      exact lcS.mk hlt ⟨sH, hDy, by rw [ey, tk]⟩
  rintro ys H2 ⟨s2, hDy, ey⟩
  have ey : ys = (nms rows).map V.str := by
    rw [ey, List.length_map, hp.length, List.take_length]
  subst ey
  have hb2 := s2 _ _ (s1 _ _ hb)
  refine ⟨_, rfl, b, _, rfl, .inl (SqL.of hb2), fun l hl => ?_⟩
  have s3 := same_new hl (.lst (bars.map V.str))
  have g3 : upd H2 l (.lst (bars.map V.str)) l = some (.lst (bars.map V.str)) := upd_same
  generalize upd H2 l (.lst (bars.map V.str)) = H3 at s3 g3 ⊢
  have ln : (nms rows).length ≤ 500 := by
    unfold nms
    rw [List.length_map]
    exact Nat.le_trans (List.length_filter_le _ _) l1
  refine ⟨D, l, _, _, rfl, rfl, s3 _ _ hDy, g3, le1000 (by rw [List.length_map, List.length_map]; omega), fun l4 hl4 => ?_⟩
  rw [← List.map_append]
  have s4 := same_new hl4 (.lst ((nms rows ++ bars).map V.str))
  have g4 : upd H3 l4 (.lst ((nms rows ++ bars).map V.str)) l4 = some (.lst ((nms rows ++ bars).map V.str)) := upd_same
  have nse : l4 ≠ se := fun z => by
    rw [z] at hl4
    rw [s3 _ _ (s2 _ _ g1)] at hl4
    cases hl4
  generalize upd H3 l4 (.lst ((nms rows ++ bars).map V.str)) = H4 at s4 g4 ⊢
  have sA : Same H1 H4 := s2.trans (s3.trans s4)
  have gse := sA _ _ g1
  refine ⟨l4, rfl, ⟨_, SqL.of g4⟩, for_list (K := K) (a := l4) (xs := (nms rows ++ bars).map V.str) (fun i σ H' => ∃ (S : Str → Bool) (n : Nat) (v3 : Option V), σ = [some (.ref a), some (.ref b), some (.ref se), v3] ∧ H' se = some (setO P w se S n) ∧ (∀ z, S z = decide (z ∈ (nms rows ++ bars).take i)) ∧ n ≤ i ∧ (∀ b' u, H4 b' = some u → b' ≠ se → H' b' = some u) ∧ ((nms rows ++ bars).take i).Nodup)
    ⟨_, 0, _, rfl, gse, fun z => by simp, Nat.le_refl _, fun b' u e _ => e, by rw [List.take_zero]; exact List.nodup_nil⟩ (fun i σ H' _ ⟨_, _, _, _, _, _, _, k, _⟩ => SqL.of (k _ _ g4 nse)) ?_ ?_⟩
  · rintro i x σ H' hx ⟨S, n, v3, rfl, hS, hSz, hn, k, nd⟩
    obtain ⟨z, hz, rfl⟩ := strs_at hx
    have hi : i < (nms rows ++ bars).length := (List.getElem?_eq_some_iff.mp hz).1
    have ez : (nms rows ++ bars)[i] = z := by rw [List.getElem?_eq_getElem hi] at hz; exact Option.some.inj hz
    have sHH : Same H H' := fun b' u e => k b' u (sA _ _ (s1 _ _ e)) fun z => by rw [z, hse] at e; cases e
    have tk : (nms rows ++ bars).take (i + 1) = (nms rows ++ bars).take i ++ [z] := by rw [List.take_succ_eq_append_getElem hi, ez]
    refine ⟨_, rfl, _, rfl, se, S, n, z, rfl, rfl, hS, _, rfl, ?_⟩
    cases nz : S z with
    | true =>
      refine iteT ?_
      rw [hSz, decide_eq_true_eq] at nz
      have bad : ¬ (nms rows ++ bars).Nodup := fun h => by
        have h2 : ((nms rows ++ bars).take (i + 1)).Nodup := h.sublist (List.take_sublist _ _)
        rw [tk] at h2
        exact (List.nodup_append.mp h2).2.2 z nz z (List.mem_singleton.mpr rfl) rfl
      refine ⟨_, rfl, by show 1 ≤ sizeLine; decide, fun x tu hxn htn hne => ?_⟩
      refine ⟨x, TW, tu, _, rfl, upd_same, X'.set, X'.no, fun d hd => ⟨rfl, x, TW, some d, tu, rfl, ?_, X'.ex, X'.call.ob, sHH.free hxn, q2 bad _ _ (same_drop2 sHH hxn hd)⟩⟩
      · have : x ≠ d := fun z => by rw [← z, upd_same] at hd; cases hd
        rw [upd_ne this, upd_same]
    | false =>
      refine iteF ?_
      refine ⟨_, rfl, se, S, n, rfl, hS, _, rfl, S, n, z, rfl, hS, ?_, ?_⟩
      · rw [List.length_append] at hi
        show n + 1 < 4096
        omega
      · refine ⟨_, _, _, rfl, upd_same, fun y => ?_, ?_, fun b' u e ne => ?_, ?_⟩
        · rw [hSz y, tk]
          simp [List.mem_append]
        · rw [nz]
          show n + 1 ≤ i + 1
          omega
        · rw [upd_ne ne]
          exact k b' u e ne
        · rw [tk]
          rw [hSz, decide_eq_false_iff_not] at nz
          exact List.nodup_append.mpr ⟨nd, by simp, fun a ha b hb e => nz (by rw [List.mem_singleton.mp hb] at e; rw [← e]; exact ha)⟩
  · rintro σ H' ⟨S, n, v3, rfl, hS, hSz, hn, k, nd⟩
    rw [List.length_map, List.take_length] at nd
    refine q1 nd _ fun b' u e => k b' u (sA _ _ (s1 _ _ e)) fun z => ?_
    rw [z, hse] at e
    cases e
end
end K15

set_option Elab.async false
set_option linter.all false
set_option maxRecDepth 100000
set_option maxHeartbeats 4000000
namespace K15
open PySem L2 PyProof.Rows
/-- which refusal is due -/
def Due (rows : List Rw) (bars : List Str) (TM BO N TW : Addr) (cls : Addr) : Prop :=
  (24 < rows.length ∧ cls = TM) ∨ (rows.length ≤ 24 ∧ ((ordOk 0 rows = false ∧ cls = BO) ∨ (ordOk 0 rows = true ∧ (((∃ z ∈ bars, nameB z = false) ∧ cls = N) ∨ ((∀ z ∈ bars, nameB z = true) ∧ ¬ (nms rows ++ bars).Nodup ∧ cls = TW)))))
def spFIR (K : PySem.W.Frag) (c : C5) (TM BO N TW : Addr) : Sp := fun vs H Q E => ∃ (p a b : Addr) (ps : List Addr) (rows : List Rw) (bars : List Str) (cls : Addr), vs = [.ref p, .ref a, .ref b] ∧ H a = some (.lst (ps.map V.ref)) ∧ Paired (PAt c H) ps rows ∧ (∀ r ∈ rows, r.ok) ∧ rows.length ≤ 100 ∧ H b = some (.lst (bars.map V.str)) ∧ bars.length ≤ 60 ∧ (∀ z ∈ bars, OkS z) ∧ Due rows bars TM BO N TW cls ∧ ∀ od H', Same H H' → E (.ref cls) od H'
section
variable {P : Program} {w : World} {K : PySem.W.Frag} {mg : Str → Option Value} {base : Heap} {f G sg TM BO N TW : Addr} {fd : FuncData} {c : C5} {m : MA}
theorem scFInit : FnScope ["self", "parameters", "bars", "names"] ["self", "parameters", "bars"] (defScope sFInit) := ⟨rfl, rfl, rfl, by decide +kernel, rfl, by decide +kernel, by decide +kernel⟩
theorem ok_finitR {ds : List Value} {g1 g2 g3 g4 : Addr} {e1 e2 e3 e4 : FuncData} (F : FunD K "__init__" "Form.__init__" sFInit f fd ds)
    (cM : CalleeS P w K mg base 1 "refuse_too_many" g1 e1 ["parameters", "bars"] (spManyR K TM)) (cO : CalleeS P w K mg base 3 "refuse_bad_order" g2 e2 ["parameters"] (spOrdR c BO)) (cB' : CalleeS P w K mg base 2 "refuse_bars_without_name" g3 e3 ["bars"] (spRBR K N)) (cT : CalleeS P w K mg base 3 "refuse_twice" g4 e4 ["parameters", "bars"] (spTwR c TW)) :
    FnOk P w K mg base (CXs P w) 4 f fd ["self", "parameters", "bars"] (spFIR K c TM BO N TW) := by
  refine F.okS scFInit (fun vs H Q E h => ?_) (fun cdv A outer s H vs Q E hr h => ?_)
  · obtain ⟨p, a, b, ps, rows, bars, cls, rfl, _⟩ := h
    rfl
  obtain ⟨p, a, b, ps, rows, bars, cls, rfl, ha, hp, hok, lr, hb, lb, hS, due, q⟩ := h
  have hr1 : Room 1 _ := hr.mono (by decide)
  have hr2 : Room 2 _ := hr.mono (by decide)
  refine ⟨_, pss_cons (ps_set (i := 3) scFInit.nd rfl (Or.inl rfl) (pe_ifExp (pt_cmp (pc_isN (pv 2))) (pe_lst pa_nil) (pv 2)))
    (pss_cons (ps_expr (cS cM (passS fun _ _ _ z => z) hr1 (ac (pv 1) (ac (pv 3) pa_nil))))
    (pss_cons (ps_expr (cS cO (passS fun _ _ _ z => z) hr (ac (pv 1) pa_nil)))
    (pss_cons (ps_expr (cS cB' (passS fun _ _ _ z => z) hr2 (ac (pv 3) pa_nil)))
    (pss_cons (ps_expr (cS cT (passS fun _ _ _ z => z) hr (ac (pv 1) (ac (pv 3) pa_nil))))
    (pss_one ps_dead))))), ?_⟩
  refine ⟨_, rfl, _, rfl, dF (by intro z; cases z) ⟨_, rfl, ?_⟩⟩
  have lp : (ps.map V.ref).length = rows.length := by rw [List.length_map, hp.length]
  refine ⟨_, rfl, _, rfl, a, b, _, _, rfl, SqL.of ha, SqL.of hb, (by rw [List.length_map]; exact lb), fun h1 => ?_, fun h1 => ?_⟩
  rotate_left 1
  · rcases due with ⟨_, e⟩ | ⟨h2, _⟩
    · rw [← e]; exact fun od H' s' => q od H' s'
    · omega
  rcases due with ⟨h2, _⟩ | ⟨_, due⟩
  · omega
  refine ⟨_, rfl, a, ps, rows, rfl, ha, hp, hok, fun h2 H2 s2 => ?_, fun h2 od2 H2 s2 => ?_⟩
  rotate_left 1
  · rcases due with ⟨_, e⟩ | ⟨h3, _⟩
    · rw [← e]; exact q _ _ s2
    · rw [h2] at h3; cases h3
  rcases due with ⟨h3, _⟩ | ⟨_, due⟩
  · rw [h2] at h3; cases h3
  refine ⟨_, rfl, b, bars, rfl, s2 _ _ hb, (fun z hz => .inl ⟨z, rfl, hS z hz⟩), fun h3 H3 s3 => ?_, fun h3 od3 H3 s3 => ?_⟩
  rotate_left 1
  · rcases due with ⟨_, e⟩ | ⟨h4, _⟩
    · rw [← e]; exact q _ _ (s2.trans s3)
    · obtain ⟨z, hz, e⟩ := h3
      rw [h4 z hz] at e; cases e
  rcases due with ⟨⟨z, hz, e⟩, _⟩ | ⟨_, nd, e⟩
  · rw [h3 z hz] at e; cases e
  have s23 := s2.trans s3
  refine ⟨_, rfl, _, rfl, a, b, ps, rows, bars, rfl, s23 _ _ ha, pats_same s23 hp, hok, by omega, s23 _ _ hb, by omega, fun h4 => absurd h4 nd, fun _ od4 H4 s4 => ?_⟩
  rw [← e]
  exact q _ _ (s23.trans s4)
end
end K15

set_option Elab.async false
set_option linter.all false
set_option maxRecDepth 100000
set_option maxHeartbeats 4000000
namespace L2
open PySem PySem.Spec PyProof.Rows
/-- an exception of the class at D stands at ea: caught, or made here -/
def ExcH (H : Hp) (ea D : Addr) : Prop := (∃ od t, H ea = some (excC ea D od t)) ∨ ∃ od t, H ea = some (excX ea D od t)
theorem ExcH.same {H H' : Hp} {ea D : Addr} (h : ExcH H ea D) (s : Same H H') : ExcH H' ea D := by
  rcases h with ⟨od, t, h⟩ | ⟨od, t, h⟩
  · exact .inl ⟨od, t, s _ _ h⟩
  · exact .inr ⟨od, t, s _ _ h⟩
section
variable {X : Cx}
theorem exc_hereG {pins : List (Addr × Obj)} {σ : St} {H : Hp} {s : Shared} {ea D : Addr} (I : Inv X pins σ H s) (e : ExcH H ea D) : ExcAt ea (.ref D) s.heap := by
  rcases e with ⟨od, t, e⟩ | ⟨od, t, e⟩
  · obtain ⟨tb, h⟩ := (I.hok ea _ e).1
    exact ⟨_, _, h, rfl, rfl⟩
  · exact ⟨_, _, excX_at I e, rfl, rfl⟩
theorem call_isinstG : CallR X (.builtin "isinstance") (fun xs H Q => ∃ ea D C b, xs = [.ref ea, .ref C] ∧ ExcH H ea D ∧ ExcCls X.K D ∧ PySem.W.kitOne X.K (.ref D) (.ref C) = some b ∧ Q (.bl b) H) := by
  intro pins s σ H xs us Q I r h
  obtain ⟨ea, D, C, b, rfl, he, c, e, q⟩ := h
  obtain ⟨u, w', rfl, ru, rw'⟩ := vals2 r
  cases rw'
  cases ru
  exact PySem.W.kia_one (kitx_exc c) I.kIn (exc_hereG I he) e (fun z => nomatch z) fun tk => ⟨.bl b, H, I.tok tk, rfl, q⟩
theorem call_isinstGT : CallR X (.builtin "isinstance") (fun xs H Q => ∃ ea D T b, xs = [.ref ea, .ty T] ∧ ExcH H ea D ∧ ExcCls X.K D ∧ PySem.W.kitOne X.K (.ref D) (.type T) = some b ∧ Q (.bl b) H) := by
  intro pins s σ H xs us Q I r h
  obtain ⟨ea, D, T, b, rfl, he, c, e, q⟩ := h
  obtain ⟨u, w', rfl, ru, rw'⟩ := vals2 r
  cases rw'
  cases ru
  exact PySem.W.kia_one (kitx_exc c) I.kIn (exc_hereG I he) e (fun z => nomatch z) fun tk => ⟨.bl b, H, I.tok tk, rfl, q⟩
end
end L2
namespace K15
open PySem L2 PyProof.Rows
def bsOf (i j : Nat) : Bool := if j < 15 then j == i else decide (8 < i)
structure SortOk (K : PySem.W.Frag) (cl : Nat → Addr) (CE D : Addr) (i : Nat) : Prop where
  ex : ExcCls K D
  k : ∀ j, j < 16 → PySem.W.kitOne K (.ref D) (.ref (cl j)) = some (bsOf i j)
  ce : PySem.W.kitOne K (.ref D) (.ref CE) = some true
  ve : PySem.W.kitOne K (.ref D) (.type "ValueError") = some true
structure TxtX (mg : Str → Option Value) (cl : Nat → Addr) (CE : Addr) : Prop where
  isi : mg "isinstance" = none
  ve : mg "ValueError" = none
  ran : mg "range" = none
  ce : mg "CallError" = some (.ref CE)
  m0 : mg "NoName" = some (.ref (cl 0))
  m1 : mg "TooMany" = some (.ref (cl 1))
  m2 : mg "BadOrder" = some (.ref (cl 2))
  m3 : mg "Twice" = some (.ref (cl 3))
  m4 : mg "NoChange" = some (.ref (cl 4))
  m5 : mg "NoDefault" = some (.ref (cl 5))
  m6 : mg "NoText" = some (.ref (cl 6))
  m7 : mg "NoRow" = some (.ref (cl 7))
  m8 : mg "Unknown" = some (.ref (cl 8))
  m9 : mg "Doubled" = some (.ref (cl 9))
  m10 : mg "Over" = some (.ref (cl 10))
  m11 : mg "Barred" = some (.ref (cl 11))
  m12 : mg "Again" = some (.ref (cl 12))
  m13 : mg "Strange" = some (.ref (cl 13))
  m14 : mg "Lacking" = some (.ref (cl 14))
  m15 : mg "Misfit" = some (.ref (cl 15))
abbrev rG (K : PySem.W.Frag) : List V → Hp → VK → Prop := fun xs H Q => ∃ (ea D C : Addr) (b : Bool), xs = [.ref ea, .ref C] ∧ ExcH H ea D ∧ ExcCls K D ∧ PySem.W.kitOne K (.ref D) (.ref C) = some b ∧ Q (.bl b) H
abbrev rGT (K : PySem.W.Frag) : List V → Hp → VK → Prop := fun xs H Q => ∃ (ea D : Addr) (T : String) (b : Bool), xs = [.ref ea, .ty T] ∧ ExcH H ea D ∧ ExcCls K D ∧ PySem.W.kitOne K (.ref D) (.type T) = some b ∧ Q (.bl b) H
def bsL (i : Nat) : List V := (List.range 16).map fun j => V.bl (bsOf i j)
def spSorts (K : PySem.W.Frag) (cl : Nat → Addr) (CE : Addr) : Sp := fun vs H Q _ => ∃ (ea D : Addr) (i : Nat), vs = [.ref ea] ∧ ExcH H ea D ∧ SortOk K cl CE D i ∧ ∀ (l : Addr) (H' : Hp), Same H H' → H l = none → H' l = some (.lst (bsL i)) → Q (.ref l) H'
section
variable {P : Program} {w : World} {K : PySem.W.Frag} {mg : Str → Option Value} {base : Heap} {f CE : Addr} {cl : Nat → Addr} {fd : FuncData}
theorem scSorts : FnScope ["_law_e", "_law_some"] ["_law_e"] (defScope sSorts) := ⟨rfl, rfl, rfl, by decide +kernel, rfl, by decide +kernel, by decide +kernel⟩
theorem ok_sorts (F : Fun K "_law_sorts" "_law_sorts" sSorts f fd) (U : TxtX mg cl CE) : FnOkM P w K mg base 1 f fd ["_law_e"] (spSorts K cl CE) := by
  refine F.okM scSorts (fun vs H Q E h => ?_) (fun cdv A outer s H vs Q hr h => ?_)
  · obtain ⟨ea, D, i, rfl, _⟩ := h
    rfl
  obtain ⟨ea, D, i, rfl, he, so, q⟩ := h
  refine ⟨_, pss_cons (ps_set (i := 1) scSorts.nd rfl (Or.inl rfl) (pe_lst (ac (cB (r := rG K) call_isinstG U.isi boot_isinstance (ac (pv 0) (ac (pe_glob (v := .ref (cl 0)) rfl U.m0 rfl) pa_nil))) (ac (cB (r := rG K) call_isinstG U.isi boot_isinstance (ac (pv 0) (ac (pe_glob (v := .ref (cl 1)) rfl U.m1 rfl) pa_nil))) (ac (cB (r := rG K) call_isinstG U.isi boot_isinstance (ac (pv 0) (ac (pe_glob (v := .ref (cl 2)) rfl U.m2 rfl) pa_nil))) (ac (cB (r := rG K) call_isinstG U.isi boot_isinstance (ac (pv 0) (ac (pe_glob (v := .ref (cl 3)) rfl U.m3 rfl) pa_nil))) pa_nil))))))
    (pss_cons (ps_set (i := 1) scSorts.nd rfl (Or.inl rfl) (pe_op op_cat (pv 1) (pe_lst (ac (cB (r := rG K) call_isinstG U.isi boot_isinstance (ac (pv 0) (ac (pe_glob (v := .ref (cl 4)) rfl U.m4 rfl) pa_nil))) (ac (cB (r := rG K) call_isinstG U.isi boot_isinstance (ac (pv 0) (ac (pe_glob (v := .ref (cl 5)) rfl U.m5 rfl) pa_nil))) (ac (cB (r := rG K) call_isinstG U.isi boot_isinstance (ac (pv 0) (ac (pe_glob (v := .ref (cl 6)) rfl U.m6 rfl) pa_nil))) (ac (cB (r := rG K) call_isinstG U.isi boot_isinstance (ac (pv 0) (ac (pe_glob (v := .ref (cl 7)) rfl U.m7 rfl) pa_nil))) pa_nil)))))))
    (pss_cons (ps_set (i := 1) scSorts.nd rfl (Or.inl rfl) (pe_op op_cat (pv 1) (pe_lst (ac (cB (r := rG K) call_isinstG U.isi boot_isinstance (ac (pv 0) (ac (pe_glob (v := .ref (cl 8)) rfl U.m8 rfl) pa_nil))) (ac (cB (r := rG K) call_isinstG U.isi boot_isinstance (ac (pv 0) (ac (pe_glob (v := .ref (cl 9)) rfl U.m9 rfl) pa_nil))) (ac (cB (r := rG K) call_isinstG U.isi boot_isinstance (ac (pv 0) (ac (pe_glob (v := .ref (cl 10)) rfl U.m10 rfl) pa_nil))) (ac (cB (r := rG K) call_isinstG U.isi boot_isinstance (ac (pv 0) (ac (pe_glob (v := .ref (cl 11)) rfl U.m11 rfl) pa_nil))) pa_nil)))))))
    (pss_cons (ps_set (i := 1) scSorts.nd rfl (Or.inl rfl) (pe_op op_cat (pv 1) (pe_lst (ac (cB (r := rG K) call_isinstG U.isi boot_isinstance (ac (pv 0) (ac (pe_glob (v := .ref (cl 12)) rfl U.m12 rfl) pa_nil))) (ac (cB (r := rG K) call_isinstG U.isi boot_isinstance (ac (pv 0) (ac (pe_glob (v := .ref (cl 13)) rfl U.m13 rfl) pa_nil))) (ac (cB (r := rG K) call_isinstG U.isi boot_isinstance (ac (pv 0) (ac (pe_glob (v := .ref (cl 14)) rfl U.m14 rfl) pa_nil))) (ac (cB (r := rG K) call_isinstG U.isi boot_isinstance (ac (pv 0) (ac (pe_glob (v := .ref (cl 15)) rfl U.m15 rfl) pa_nil))) pa_nil)))))))
    (pss_one (ps_ret (pv 1)))))), ?_⟩
  refine ⟨_, rfl, ea, D, cl 0, _, rfl, he, so.ex, so.k 0 (by decide), _, rfl, ea, D, cl 1, _, rfl, he, so.ex, so.k 1 (by decide), _, rfl, ea, D, cl 2, _, rfl, he, so.ex, so.k 2 (by decide), _, rfl, ea, D, cl 3, _, rfl, he, so.ex, so.k 3 (by decide), (by show 4 ≤ sizeLine; decide), fun l0 hl0 => ?_⟩
  have u0 := same_new hl0 (.lst [V.bl (bsOf i 0), V.bl (bsOf i 1), V.bl (bsOf i 2), V.bl (bsOf i 3)])
  have e0 : upd H l0 (.lst [V.bl (bsOf i 0), V.bl (bsOf i 1), V.bl (bsOf i 2), V.bl (bsOf i 3)]) l0 = some (.lst [V.bl (bsOf i 0), V.bl (bsOf i 1), V.bl (bsOf i 2), V.bl (bsOf i 3)]) := upd_same
  have n0 : H l0 = none := hl0
  show tSeq _ _ _ _ (upd H l0 (.lst [V.bl (bsOf i 0), V.bl (bsOf i 1), V.bl (bsOf i 2), V.bl (bsOf i 3)]))
  generalize upd H l0 (.lst [V.bl (bsOf i 0), V.bl (bsOf i 1), V.bl (bsOf i 2), V.bl (bsOf i 3)]) = H0 at u0 e0 ⊢
  refine ⟨_, rfl, _, rfl, ea, D, cl 4, _, rfl, (he.same u0), so.ex, so.k 4 (by decide), _, rfl, ea, D, cl 5, _, rfl, (he.same u0), so.ex, so.k 5 (by decide), _, rfl, ea, D, cl 6, _, rfl, (he.same u0), so.ex, so.k 6 (by decide), _, rfl, ea, D, cl 7, _, rfl, (he.same u0), so.ex, so.k 7 (by decide), (by show 4 ≤ sizeLine; decide), fun a1 ha1 => ?_⟩
  have v1 := same_new ha1 (.lst [V.bl (bsOf i 4), V.bl (bsOf i 5), V.bl (bsOf i 6), V.bl (bsOf i 7)])
  have f1 : upd H0 a1 (.lst [V.bl (bsOf i 4), V.bl (bsOf i 5), V.bl (bsOf i 6), V.bl (bsOf i 7)]) a1 = some (.lst [V.bl (bsOf i 4), V.bl (bsOf i 5), V.bl (bsOf i 6), V.bl (bsOf i 7)]) := upd_same
  generalize upd H0 a1 (.lst [V.bl (bsOf i 4), V.bl (bsOf i 5), V.bl (bsOf i 6), V.bl (bsOf i 7)]) = G1 at v1 f1 ⊢
  refine ⟨l0, a1, _, _, rfl, rfl, v1 _ _ e0, f1, (by show 8 ≤ sizeLine; decide), fun l1 hl1 => ?_⟩
  have u1 := (u0).trans (v1.trans (same_new hl1 (.lst [V.bl (bsOf i 0), V.bl (bsOf i 1), V.bl (bsOf i 2), V.bl (bsOf i 3), V.bl (bsOf i 4), V.bl (bsOf i 5), V.bl (bsOf i 6), V.bl (bsOf i 7)])))
  have e1 : upd G1 l1 (.lst [V.bl (bsOf i 0), V.bl (bsOf i 1), V.bl (bsOf i 2), V.bl (bsOf i 3), V.bl (bsOf i 4), V.bl (bsOf i 5), V.bl (bsOf i 6), V.bl (bsOf i 7)]) l1 = some (.lst [V.bl (bsOf i 0), V.bl (bsOf i 1), V.bl (bsOf i 2), V.bl (bsOf i 3), V.bl (bsOf i 4), V.bl (bsOf i 5), V.bl (bsOf i 6), V.bl (bsOf i 7)]) := upd_same
  have n1 : H l1 = none := ((u0).trans v1).free hl1
  show tSeq _ _ _ _ (upd G1 l1 (.lst [V.bl (bsOf i 0), V.bl (bsOf i 1), V.bl (bsOf i 2), V.bl (bsOf i 3), V.bl (bsOf i 4), V.bl (bsOf i 5), V.bl (bsOf i 6), V.bl (bsOf i 7)]))
  generalize upd G1 l1 (.lst [V.bl (bsOf i 0), V.bl (bsOf i 1), V.bl (bsOf i 2), V.bl (bsOf i 3), V.bl (bsOf i 4), V.bl (bsOf i 5), V.bl (bsOf i 6), V.bl (bsOf i 7)]) = H1 at u1 e1 ⊢
  refine ⟨_, rfl, _, rfl, ea, D, cl 8, _, rfl, (he.same u1), so.ex, so.k 8 (by decide), _, rfl, ea, D, cl 9, _, rfl, (he.same u1), so.ex, so.k 9 (by decide), _, rfl, ea, D, cl 10, _, rfl, (he.same u1), so.ex, so.k 10 (by decide), _, rfl, ea, D, cl 11, _, rfl, (he.same u1), so.ex, so.k 11 (by decide), (by show 4 ≤ sizeLine; decide), fun a2 ha2 => ?_⟩
  have v2 := same_new ha2 (.lst [V.bl (bsOf i 8), V.bl (bsOf i 9), V.bl (bsOf i 10), V.bl (bsOf i 11)])
  have f2 : upd H1 a2 (.lst [V.bl (bsOf i 8), V.bl (bsOf i 9), V.bl (bsOf i 10), V.bl (bsOf i 11)]) a2 = some (.lst [V.bl (bsOf i 8), V.bl (bsOf i 9), V.bl (bsOf i 10), V.bl (bsOf i 11)]) := upd_same
  generalize upd H1 a2 (.lst [V.bl (bsOf i 8), V.bl (bsOf i 9), V.bl (bsOf i 10), V.bl (bsOf i 11)]) = G2 at v2 f2 ⊢
  refine ⟨l1, a2, _, _, rfl, rfl, v2 _ _ e1, f2, (by show 12 ≤ sizeLine; decide), fun l2 hl2 => ?_⟩
  have u2 := (u1).trans (v2.trans (same_new hl2 (.lst [V.bl (bsOf i 0), V.bl (bsOf i 1), V.bl (bsOf i 2), V.bl (bsOf i 3), V.bl (bsOf i 4), V.bl (bsOf i 5), V.bl (bsOf i 6), V.bl (bsOf i 7), V.bl (bsOf i 8), V.bl (bsOf i 9), V.bl (bsOf i 10), V.bl (bsOf i 11)])))
  have e2 : upd G2 l2 (.lst [V.bl (bsOf i 0), V.bl (bsOf i 1), V.bl (bsOf i 2), V.bl (bsOf i 3), V.bl (bsOf i 4), V.bl (bsOf i 5), V.bl (bsOf i 6), V.bl (bsOf i 7), V.bl (bsOf i 8), V.bl (bsOf i 9), V.bl (bsOf i 10), V.bl (bsOf i 11)]) l2 = some (.lst [V.bl (bsOf i 0), V.bl (bsOf i 1), V.bl (bsOf i 2), V.bl (bsOf i 3), V.bl (bsOf i 4), V.bl (bsOf i 5), V.bl (bsOf i 6), V.bl (bsOf i 7), V.bl (bsOf i 8), V.bl (bsOf i 9), V.bl (bsOf i 10), V.bl (bsOf i 11)]) := upd_same
  have n2 : H l2 = none := ((u1).trans v2).free hl2
  show tSeq _ _ _ _ (upd G2 l2 (.lst [V.bl (bsOf i 0), V.bl (bsOf i 1), V.bl (bsOf i 2), V.bl (bsOf i 3), V.bl (bsOf i 4), V.bl (bsOf i 5), V.bl (bsOf i 6), V.bl (bsOf i 7), V.bl (bsOf i 8), V.bl (bsOf i 9), V.bl (bsOf i 10), V.bl (bsOf i 11)]))
  generalize upd G2 l2 (.lst [V.bl (bsOf i 0), V.bl (bsOf i 1), V.bl (bsOf i 2), V.bl (bsOf i 3), V.bl (bsOf i 4), V.bl (bsOf i 5), V.bl (bsOf i 6), V.bl (bsOf i 7), V.bl (bsOf i 8), V.bl (bsOf i 9), V.bl (bsOf i 10), V.bl (bsOf i 11)]) = H2 at u2 e2 ⊢
  refine ⟨_, rfl, _, rfl, ea, D, cl 12, _, rfl, (he.same u2), so.ex, so.k 12 (by decide), _, rfl, ea, D, cl 13, _, rfl, (he.same u2), so.ex, so.k 13 (by decide), _, rfl, ea, D, cl 14, _, rfl, (he.same u2), so.ex, so.k 14 (by decide), _, rfl, ea, D, cl 15, _, rfl, (he.same u2), so.ex, so.k 15 (by decide), (by show 4 ≤ sizeLine; decide), fun a3 ha3 => ?_⟩
  have v3 := same_new ha3 (.lst [V.bl (bsOf i 12), V.bl (bsOf i 13), V.bl (bsOf i 14), V.bl (bsOf i 15)])
  have f3 : upd H2 a3 (.lst [V.bl (bsOf i 12), V.bl (bsOf i 13), V.bl (bsOf i 14), V.bl (bsOf i 15)]) a3 = some (.lst [V.bl (bsOf i 12), V.bl (bsOf i 13), V.bl (bsOf i 14), V.bl (bsOf i 15)]) := upd_same
  generalize upd H2 a3 (.lst [V.bl (bsOf i 12), V.bl (bsOf i 13), V.bl (bsOf i 14), V.bl (bsOf i 15)]) = G3 at v3 f3 ⊢
  refine ⟨l2, a3, _, _, rfl, rfl, v3 _ _ e2, f3, (by show 16 ≤ sizeLine; decide), fun l3 hl3 => ?_⟩
  have u3 := (u2).trans (v3.trans (same_new hl3 (.lst [V.bl (bsOf i 0), V.bl (bsOf i 1), V.bl (bsOf i 2), V.bl (bsOf i 3), V.bl (bsOf i 4), V.bl (bsOf i 5), V.bl (bsOf i 6), V.bl (bsOf i 7), V.bl (bsOf i 8), V.bl (bsOf i 9), V.bl (bsOf i 10), V.bl (bsOf i 11), V.bl (bsOf i 12), V.bl (bsOf i 13), V.bl (bsOf i 14), V.bl (bsOf i 15)])))
  have e3 : upd G3 l3 (.lst [V.bl (bsOf i 0), V.bl (bsOf i 1), V.bl (bsOf i 2), V.bl (bsOf i 3), V.bl (bsOf i 4), V.bl (bsOf i 5), V.bl (bsOf i 6), V.bl (bsOf i 7), V.bl (bsOf i 8), V.bl (bsOf i 9), V.bl (bsOf i 10), V.bl (bsOf i 11), V.bl (bsOf i 12), V.bl (bsOf i 13), V.bl (bsOf i 14), V.bl (bsOf i 15)]) l3 = some (.lst [V.bl (bsOf i 0), V.bl (bsOf i 1), V.bl (bsOf i 2), V.bl (bsOf i 3), V.bl (bsOf i 4), V.bl (bsOf i 5), V.bl (bsOf i 6), V.bl (bsOf i 7), V.bl (bsOf i 8), V.bl (bsOf i 9), V.bl (bsOf i 10), V.bl (bsOf i 11), V.bl (bsOf i 12), V.bl (bsOf i 13), V.bl (bsOf i 14), V.bl (bsOf i 15)]) := upd_same
  have n3 : H l3 = none := ((u2).trans v3).free hl3
  exact ⟨_, rfl, q l3 _ u3 n3 e3⟩
end
end K15

set_option Elab.async false
set_option linter.all false
set_option maxRecDepth 100000
set_option maxHeartbeats 4000000
namespace K15
open PySem L2 PyProof.Rows
/-- a block over range(n) that chooses -/
theorem lc_selr {n : Nat} {caps : List (Option Nat)} {g : TG} {tt : TT} {te : TE} {σ : L2.St} {H1 : Hp} {Q : VK} {D : Addr} (keep : Nat → Bool) (out : Nat → V) (hD : H1 D = none) (hn : n ≤ 1000)
    (hs : ∀ (i : Nat) (H : Hp) (N : VK) (S : Hp → Prop), i < n → Same H1 H → (∀ H', Same H H' → keep i = true → N (out i) H') → (∀ H', Same H H' → keep i = false → S H') → g (.int ((0 : Int) + (i : Int))) (capS caps σ) H fun σ2 H2 => tt σ2 H2 fun ok H3 => (ok = true → te σ2 H3 N) ∧ (ok = false → S H3))
    (hd : ∀ H, Same H1 H → H D = some (.lst (((List.range n).filter keep).map out)) → Q (.ref D) H) : LCr (Itr 0 n) caps g tt te σ H1 Q D := by
  refine lc_range (n := n) (fun i zs H' => Same H1 H' ∧ H' D = some (.lst zs) ∧ zs = ((List.range i).filter keep).map out) ⟨same_new hD _, upd_same, rfl⟩ ?_ ?_
  · rintro i zs H' hlt ⟨sH, hDy, ez⟩
    refine hs i H' _ _ hlt sH (fun H2 s2 hk => ?_) (fun H2 s2 hk => ?_)
    · refine lcN.mk hlt (le1000 hn) (s2 _ _ hDy) (by rw [ez, List.length_map]; have := List.length_filter_le keep (List.range i); rw [List.length_range] at this; exact this) ⟨fun b' u e => ?_, upd_same, ?_⟩
      · rw [upd_ne (ne_of_none e hD)]
        exact s2 _ _ (sH b' u e)
      · rw [ez, List.range_succ, List.filter_append, List.map_append, List.filter_cons, if_pos hk]
        rfl
    · refine lcS.mk hlt ⟨sH.trans s2, s2 _ _ hDy, ?_⟩
      rw [ez, List.range_succ, List.filter_append, List.map_append, List.filter_cons, if_neg (by rw [hk]; exact Bool.false_ne_true)]
      simp
  · rintro zs H2 ⟨s2, hDy, ez⟩
    rw [ez] at hDy
    exact hd H2 s2 hDy
def bsB (i : Nat) : List Bool := (List.range 16).map fun j => bsOf i j
theorem bsL_eq (i : Nat) : bsL i = (bsB i).map V.bl := by unfold bsL bsB; rw [List.map_map]; rfl
theorem due_bs (i : Nat) : (((List.range 15).filter fun _ => true).map fun k => V.bl (k == i)) ++ [V.bl (decide ((8 : Int) < (i : Nat)))] = (bsB i).map V.bl := by
  unfold bsB
  have a1 : ((List.range 15).map fun k => V.bl (k == i)) = ((List.range 15).map fun j => bsOf i j).map V.bl := by
    rw [List.map_map]
    apply List.map_congr_left
    intro k hk
    have := List.mem_range.mp hk
    show V.bl (k == i) = V.bl (bsOf i k)
    unfold bsOf
    rw [if_pos this]
  have a2 : V.bl (decide ((8 : Int) < (i : Nat))) = V.bl (bsOf i 15) := by
    unfold bsOf
    rw [if_neg (by decide)]
    congr 1
    rw [Bool.eq_iff_iff, decide_eq_true_eq, decide_eq_true_eq]
    omega
  rw [show List.range 16 = List.range 15 ++ [15] from List.range_succ, List.map_append, List.map_append, List.filter_eq_self.mpr (fun _ _ => rfl), a1, a2]
  rfl
def spIsE (K : PySem.W.Frag) (cl : Nat → Addr) (CE : Addr) : Sp := fun vs H Q _ => ∃ (ea D : Addr) (i : Nat), vs = [.ref ea, .int (i : Nat)] ∧ ExcH H ea D ∧ SortOk K cl CE D i ∧ ∀ H', Same H H' → Q (.bl true) H'
section
variable {P : Program} {w : World} {K : PySem.W.Frag} {mg : Str → Option Value} {base : Heap} {f CE : Addr} {cl : Nat → Addr} {fd : FuncData}
theorem ndKW : ([Str.ofString "_law_k", Str.ofString "_law_which"] : List Str).Nodup := by decide +kernel
theorem scIsE : FnScope ["_law_e", "_law_which", "_law_due"] ["_law_e", "_law_which"] (defScope sIsE) := ⟨rfl, rfl, rfl, by decide +kernel, rfl, by decide +kernel, by decide +kernel⟩
theorem says_bls {ok : Addr → Prop} {H : Hp} {n : Nat} : ∀ (bs : List Bool), Paired (Says K ok H n) (bs.map V.bl) (bs.map .bl)
  | [] => .nil
  | _ :: bs => .cons Says.bl (says_bls bs)
theorem ok_isE {g : Addr} {gd : FuncData} (F : Fun K "_law_is" "_law_is" sIsE f fd) (U : TxtX mg cl CE) (cS : CalleeM P w K mg base 1 "_law_sorts" g gd ["_law_e"] (spSorts K cl CE)) : FnOk P w K mg base CX0 2 f fd ["_law_e", "_law_which"] (spIsE K cl CE) := by
  refine F.ok scIsE (fun vs H Q E h => ?_) (fun cdv A outer s H vs Q E hr h => ?_)
  · obtain ⟨ea, D, i, rfl, _⟩ := h
    rfl
  obtain ⟨ea, D, i, rfl, he, so, q⟩ := h
  have hU := hr.units
  refine ⟨_, pss_cons (ps_if (PW.pt (pw_or (pt_not (pt_val (cB (r := rG K) call_isinstG U.isi boot_isinstance (ac (pv 0) (ac (pe_glob (v := .ref CE) rfl U.ce rfl) pa_nil))))) (pw_or1 (pt_not (pt_val (cB (r := rGT K) call_isinstGT U.isi boot_isinstance (ac (pv 0) (ac (pe_bltn (v := .ty "ValueError") rfl U.ve (by decide +kernel : bootBuiltins "ValueError" = some (.type "ValueError")) rfl) pa_nil)))))))) (pss_one (ps_ret pe_bl)) pss_nil)
    (pss_cons (ps_set (i := 2) scIsE.nd rfl (Or.inl rfl) (pe_op op_cat (pe_lc ["_law_which"] ["_law_k", "_law_which"] [none, some 1] rfl ⟨rfl, rfl, rfl, rfl⟩ (pi_range1 rfl U.ran (ac pe_int pa_nil)) (gown_name 0) rfl rfl rfl
        (fun pins fp s H C => ⟨pg_name (i := 0) ndKW rfl (Or.inl rfl) (.inr rfl), pif_nil, pe_cmpR op_eq (pv 0) (pv 1) (nomark _)⟩)) (pe_lst (ac (pe_cmpR op_gt (pv 1) pe_int (nomark _)) pa_nil))))
    (pss_one (ps_ret (pe_cmpR (op_eqS hU) (cM cS hr.m (ac (pv 0) pa_nil)) (pv 2) (nomark _))))), ?_⟩
  refine ⟨_, rfl, ea, D, CE, _, rfl, he, so.ex, so.ce, _, rfl, ?_⟩
  refine iteF ?_
  refine ⟨_, rfl, ea, D, _, _, rfl, he, so.ex, so.ve, _, rfl, ?_⟩
  refine iteF ?_
  refine ⟨15, rfl, by decide, by decide, fun D1 hD1 => ?_⟩
  refine lc_selr (n := 15) (fun _ => true) (fun k => .bl (k == i)) hD1 (by decide) ?_ fun H1 u1 eD => ?_
  · intro j H' N S hj sH qy qn
    refine ⟨fun _ => ⟨_, rfl, _, rfl, rfl, ?_⟩, fun e => Bool.noConfusion e⟩
    have e0 : decide (V.int ((0 : Int) + (j : Int)) = V.int ((i : Nat) : Int)) = (j == i) := by
      rw [Bool.eq_iff_iff, decide_eq_true_eq, beq_iff_eq]
      constructor
      · intro z; have := V.int.inj z; omega
      · intro z; rw [z, Int.zero_add]
    rw [e0]
    exact qy _ (Same.refl _) rfl
  refine ⟨_, rfl, _, _, rfl, rfl, (by show 1 ≤ sizeLine; decide), fun l2 hl2 => ?_⟩
  have u2 := same_new hl2 (.lst [.bl (decide ((8 : Int) < (i : Nat)))])
  refine ⟨D1, l2, _, _, rfl, rfl, u2 _ _ eD, upd_same, (by show 16 ≤ sizeLine; decide), fun l3 hl3 => ?_⟩
  rw [due_bs i]
  have u3 := same_new hl3 (.lst ((bsB i).map V.bl))
  have e3 : upd (upd H1 l2 (.lst [.bl (decide ((8 : Int) < (i : Nat)))])) l3 (.lst ((bsB i).map V.bl)) l3 = some (.lst ((bsB i).map V.bl)) := upd_same
  have w3 := u1.trans (u2.trans u3)
  generalize upd (upd H1 l2 (.lst [.bl (decide ((8 : Int) < (i : Nat)))])) l3 (.lst ((bsB i).map V.bl)) = H3 at u3 e3 w3 ⊢
  refine ⟨_, rfl, ea, D, i, rfl, he.same w3, so, fun l4 H4 s4 _ e4 => ?_⟩
  rw [bsL_eq] at e4
  exact ⟨_, rfl, l4, l3, 1, .lst ((bsB i).map .bl), fun _ => True, fun _ => True, rfl, rfl, by decide, Says.lst True.intro e4 (says_bls _), Says.lst True.intro (s4 _ _ e3) (says_bls _), q _ (w3.trans s4)⟩
end
end K15

set_option Elab.async false
set_option linter.all false
set_option maxRecDepth 100000
set_option maxHeartbeats 4000000
namespace K15
open PySem L2 PyProof.Rows
structure FourOk (K : PySem.W.Frag) (cl : Nat → Addr) (CE : Addr) : Prop where
  so : ∀ i, i < 4 → SortOk K cl CE (cl i) i
  ex : ∀ i, i < 4 → PySem.W.exmOne K (.ref (cl i)) (.ref CE) = some true
def spRefused (c : C5) (cl : Nat → Addr) : Sp := fun vs H Q _ => ∃ (a b : Addr) (ps : List Addr) (rows : List Rw) (bars : List Str) (i : Nat), vs = [.ref a, .ref b] ∧ H a = some (.lst (ps.map V.ref)) ∧ Paired (PAt c H) ps rows ∧ (∀ r ∈ rows, r.ok) ∧ rows.length ≤ 100 ∧ H b = some (.lst (bars.map V.str)) ∧ bars.length ≤ 60 ∧ (∀ z ∈ bars, OkS z) ∧ i < 4 ∧ Due rows bars (cl 1) (cl 2) (cl 0) (cl 3) (cl i) ∧ ∀ (l : Addr) (H' : Hp), Same H H' → H' l = some (.lst [.int (i : Nat)]) → Q (.ref l) H'
theorem keep_bs : ∀ i : Nat, i < 4 → (List.range 16).filter (fun k => bsOf i k) = [i] := by decide +kernel
section
variable {P : Program} {w : World} {K : PySem.W.Frag} {mg : Str → Option Value} {base : Heap} {f CE CF : Addr} {cl : Nat → Addr} {fd : FuncData} {c : C5}
theorem ndKE : ([Str.ofString "_law_k", Str.ofString "_law_e"] : List Str).Nodup := by decide +kernel
theorem scRefused : FnScope ["_law_made", "_law_bars", "_law_found", "_law_e"] ["_law_made", "_law_bars"] (defScope sRefused) := ⟨rfl, rfl, rfl, by decide +kernel, rfl, by decide +kernel, by decide +kernel⟩
theorem ok_refused {g gF : Addr} {gd eF : FuncData} (F : Fun K "_law_refused" "_law_refused" sRefused f fd) (U : TxtX mg cl CE) (Fo : FourOk K cl CE) (MF : Mk K CF gF) (GF : FnOk P w K mg base (CXs P w) 4 gF eF ["self", "parameters", "bars"] (spFIR K c (cl 1) (cl 2) (cl 0) (cl 3))) (mF : mg "Form" = some (.ref CF)) (bF : Binds K eF ["self", "parameters", "bars"] [])
    (cS : CalleeM P w K mg base 1 "_law_sorts" g gd ["_law_e"] (spSorts K cl CE)) : FnOk P w K mg base CX0 6 f fd ["_law_made", "_law_bars"] (spRefused c cl) := by
  refine F.ok scRefused (fun vs H Q E h => ?_) (fun cdv A outer s H vs Q E hr h => ?_)
  · obtain ⟨a, b, ps, rows, bars, i, rfl, _⟩ := h
    rfl
  obtain ⟨a, b, ps, rows, bars, i, rfl, ha, hp, hok, lr, hb, lb, hS, hi, due, q⟩ := h
  have hr1 : Room 1 _ := hr.mono (by decide)
  refine ⟨_, pss_cons (ps_set (i := 2) scRefused.nd rfl (Or.inl rfl) (pe_un un_neg pe_int))
    (pss_cons (ps_tryS rfl rfl (ph_asC (i := 3) scRefused.nd rfl rfl rfl rfl U.ce
        (fun ea => pss_one (ps_lcH (ea := ea) (i := 2) ["_law_e"] ["_law_k", "_law_e"] [none, some 3] scRefused.nd rfl (Or.inl rfl) rfl ⟨rfl, rfl, rfl, rfl⟩ (pi_range1H rfl U.ran (ac pe_int pa_nil)) (gown_name 0) rfl rfl rfl
        (fun pins fp s H C => ⟨pg_name (i := 0) ndKE rfl (Or.inl rfl) (.inr rfl), pif_one (pt_val (pe_ix (r := rIxL K) ix_list (cM cS (hr1.m.mark _) (ac (pv 1) pa_nil)) (pv 0) (fun _ _ => rfl))), pv 0⟩))) ph_nil)
      (fun pins σ xe E hp => s1_expr (p2_make MF GF hr rfl mF bF .nil hp (ac (pv 0) (ac (pv 1) pa_nil)))))
    (pss_one (ps_ret (pv 2)))), ?_⟩
  refine ⟨_, rfl, ?_⟩
  refine ⟨_, rfl, _, rfl, fun x dx hx hdx hne => ?_⟩
  have smk : Same H (upd (upd H dx (.own x)) x (.ins CF dx [])) := same_make0 hx hdx
  refine ⟨x, a, b, ps, rows, bars, cl i, rfl, smk _ _ ha, pats_same smk hp, hok, lr, smk _ _ hb, lb, hS, due, fun od H1 s1 => ?_⟩
  refine ⟨cl i, rfl, fun t ea hea => .inl ⟨Fo.ex i hi, ?_⟩⟩
  have u1 : Same H (upd H1 ea (excC ea (cl i) od t)) := smk.trans (s1.trans (same_new hea _))
  have e1 : upd H1 ea (excC ea (cl i) od t) ea = some (excC ea (cl i) od t) := upd_same
  generalize upd H1 ea (excC ea (cl i) od t) = H2 at u1 e1 ⊢
  refine ⟨16, cl i, od, t, rfl, by decide, by decide, fun D hD => ?_⟩
  refine lc_selrH (n := 16) (fun k => bsOf i k) (fun k => .int (k : Nat)) hD (by decide) e1 ?_ fun H3 u3 eD => ?_
  · intro j H' N S hj sH qy qn
    refine ⟨_, rfl, ea, cl i, i, rfl, .inl ⟨od, t, sH _ _ e1⟩, Fo.so i hi, fun l H4 s4 _ e4 => ?_⟩
    have e0 : (0 : Int) + (j : Int) = (j : Nat) := by omega
    have at_ : atI (bsL i) ((0 : Int) + (j : Int)) = some (V.bl (bsOf i j)) := by
      rw [e0]
      refine atI_nat ?_
      unfold bsL
      rw [List.getElem?_map, List.getElem?_range hj]
      rfl
    refine ⟨_, rfl, l, bsL i, _, _, rfl, rfl, SqL.of e4, at_, _, rfl, ?_⟩
    refine ⟨fun e => ⟨_, rfl, ?_⟩, fun e => qn _ s4 e⟩
    rw [e0]
    exact qy _ s4 e
  rw [keep_bs i hi] at eD
  exact ⟨_, rfl, q D H3 (u1.trans u3) eD⟩
end
end K15

set_option Elab.async false
set_option linter.all false
set_option maxRecDepth 100000
set_option maxHeartbeats 4000000
namespace K15
open PySem L2 PyProof.Rows
section
variable {P : Program} {w : World} {K : PySem.W.Frag} {mg : Str → Option Value} {base : Heap} {f : Addr} {fd : FuncData}
theorem scNth : FnScope ["_law_script", "_law_k"] ["_law_script", "_law_k"] (defScope sNth) := ⟨rfl, rfl, rfl, by decide +kernel, rfl, by decide +kernel, by decide +kernel⟩
theorem ok_nth (F : Fun K "_law_nth" "_law_nth" sNth f fd) (T : Txt1 K mg) : FnOk P w K mg base CX0 1 f fd ["_law_script", "_law_k"] (spNth K) := by
  refine F.ok scNth (fun vs H Q E h => ?_) (fun cdv A outer s H vs Q E hr h => ?_)
  · obtain ⟨a, ns, k, rfl, _⟩ := h
    rfl
  obtain ⟨a, ns, k, rfl, hS, q⟩ := h
  refine ⟨_, pss_one (ps_ret (pe_ifExp (pt_cmpR op_lt (pv 1) (cB call_len_seq T.len PySem.boot_len (ac (pv 0) pa_nil)) (nomark _)) (pe_ix ix_list (pv 0) (pv 1) (fun _ _ => rfl)) pe_int)), ?_⟩
  refine ⟨_, rfl, _, rfl, a, _, rfl, .inl hS, _, _, rfl, rfl, _, rfl, ?_⟩
  refine ite2 (fun c => ?_) (fun c => q 0)
  have c' : (k : Int) < (((ns.map V.int).length : Nat) : Int) := of_decide_eq_true c
  have hk : k < ns.length := by rw [List.length_map] at c'; omega
  exact ⟨_, rfl, _, rfl, a, _, _, .int ns[k], rfl, rfl, hS, atI_nat (by rw [List.getElem?_map, List.getElem?_eq_getElem hk]; rfl), q _⟩


end
end K15

set_option Elab.async false
set_option linter.all false
set_option maxRecDepth 100000
set_option maxHeartbeats 4000000
namespace K15
open PySem L2 PyProof.Rows
section
variable {P : Program} {w : World} {K : PySem.W.Frag} {mg : Str → Option Value} {base : Heap} {f : Addr} {fd : FuncData}
/-! ### _law_called -/
theorem ten_at (i : Int) (h0 : 0 ≤ i) (h1 : i < 10) : ∃ z : Str, atI ([V.str "a", V.str "b", V.str "c", V.str "ab", V.str "ba", V.str "aa", V.str "self", V.str "abcdefgh", V.str "z", V.str "zz"] : List V) i = some (.str z) ∧ nameB z = true := by
  have h : i = 0 ∨ i = 1 ∨ i = 2 ∨ i = 3 ∨ i = 4 ∨ i = 5 ∨ i = 6 ∨ i = 7 ∨ i = 8 ∨ i = 9 := by omega
  rcases h with rfl | rfl | rfl | rfl | rfl | rfl | rfl | rfl | rfl | rfl <;> exact ⟨_, rfl, by decide +kernel⟩
theorem letter_at (i : Int) (h0 : 0 ≤ i) (h1 : i < 26) : ∃ c : Nat, atI letters.cps.toList i = some c ∧ 97 ≤ c ∧ c ≤ 122 := by
  have e : i = ((i.toNat : Nat) : Int) := by omega
  refine ⟨97 + i.toNat, ?_, by omega, by omega⟩
  rw [e]
  exact atI_nat (letters_at i.toNat (by omega))
theorem scCalled : FnScope ["_law_cell", "_law_rest", "_law_found", "_law_k"] ["_law_cell"] (defScope sCalled) := ⟨rfl, rfl, rfl, by decide +kernel, rfl, by decide +kernel, by decide +kernel⟩
theorem ok_called (F : Fun K "_law_called" "_law_called" sCalled f fd) (T : Txt1 K mg) : FnOk P w K mg base CX0 1 f fd ["_law_cell"] spCalled := by
  refine F.ok scCalled (fun vs H Q E h => ?_) (fun cdv A outer s H vs Q E hr h => ?_)
  · obtain ⟨n, rfl, _⟩ := h
    rfl
  obtain ⟨n, rfl, q⟩ := h
  refine ⟨_, pss_cons (ps_if (pt_cmpR op_eq (pe_op op_mod (pv 0) pe_int) pe_int (nomark _)) (pss_one (ps_ret (pe_ix ix_list
      (pe_lst (ac pe_str (ac pe_str (ac pe_str (ac pe_str (ac pe_str (ac pe_str (ac pe_str (ac pe_str (ac pe_str (ac pe_str pa_nil)))))))))))
      (pe_op op_mod (pe_op op_fdiv (pv 0) pe_int) pe_int) (fun _ _ => rfl)))) pss_nil)
    (pss_cons (ps_set (i := 1) scCalled.nd rfl (Or.inl rfl) (pe_op op_fdiv (pv 0) pe_int))
    (pss_cons (ps_set (i := 2) scCalled.nd rfl (Or.inl rfl) pe_str)
    (pss_cons (ps_for PassesOwn.never rfl (pi_range1 rfl T.range (ac (pe_op op_add pe_int (pe_op op_mod (pe_op op_fdiv (pv 0) pe_int) pe_int)) pa_nil)) (pg_name (i := 3) scCalled.nd rfl (Or.inl rfl))
      (pss_cons (ps_set (i := 2) scCalled.nd rfl (Or.inl rfl) (pe_op op_add_str (pe_ix ix_str pe_str (pe_op op_mod (pv 1) pe_int) (fun _ _ => rfl)) (pv 2)))
      (pss_one (ps_set (i := 1) scCalled.nd rfl (Or.inl rfl) (pe_op op_fdiv (pv 1) pe_int)))))
    (pss_one (ps_ret (pv 2)))))), ?_⟩
  refine ⟨_, rfl, _, _, rfl, rfl, (by show (0 : Int) < 2; decide), rfl, _, rfl, ?_⟩
  refine ite2 (fun _ => ?_) (fun _ => ?_)
  · refine ⟨(by show 10 ≤ sizeLine; decide), fun p hp => ?_⟩
    obtain ⟨z, hz, hn⟩ := ten_at (n / 2 % 10) (by omega) (by omega)
    exact ⟨_, rfl, _, _, rfl, rfl, ⟨by decide, by decide⟩, _, _, rfl, rfl, (by show (0 : Int) < 10; decide), p, _, _, .str z, rfl, rfl, SqL.of upd_same, hz, q z _ (same_new hp _) hn⟩
  · refine ⟨_, rfl, _, _, rfl, rfl, ⟨by decide, by decide⟩, ?_⟩
    show tSeq _ _ _ _ _
    refine ⟨_, rfl, _, _, rfl, rfl, ⟨by decide, by decide⟩, _, _, rfl, rfl, (by show (0 : Int) < 8; decide), _, _, rfl, rfl, 1 + n / 2 % 8, rfl, by omega, by omega, ?_⟩
    refine for_range (n := (1 + n / 2 % 8).toNat) (fun i σ H2 => ∃ (r : Int) (z : Str) (v : Option V), σ = [some (.int n), some (.int r), some (.str z), v] ∧ H2 = H ∧ z.length = i ∧ ∀ c ∈ z.cps.toList, 97 ≤ c ∧ c ≤ 122)
      ⟨n / 16, "", none, rfl, rfl, rfl, fun c hc => by rw [show ("" : Str).cps.toList = [] from nil_cps] at hc; cases hc⟩ ?_ ?_
    · rintro i σ H2 hi ⟨r, z, v, rfl, rfl, hl, hc⟩
      obtain ⟨c, h1, h2⟩ := letter_at (r % 26) (by omega) (by omega)
      refine ⟨_, rfl, _, _, rfl, rfl, (by show (0 : Int) < 26; decide), letters, _, c, rfl, rfl, (by rw [letters_len]; decide), h1, _, rfl, _, _, rfl, rfl, ?_, ?_⟩
      · show 1 + z.length ≤ sizeLine
        have : (1 + n / 2 % 8).toNat ≤ 8 := by omega
        exact Nat.le_of_lt (small1000 (by omega))
      · refine ⟨_, rfl, _, _, rfl, rfl, ⟨by decide, by decide⟩, r / 26, _, _, rfl, rfl, ?_, ?_⟩
        · rw [app_len, hl]
          show 1 + i = i + 1
          omega
        · intro d hd
          rw [app_cps] at hd
          rcases List.mem_append.mp hd with e | e
          · have e' : d = c := by simpa using e
            rw [e']; exact h2
          · exact hc d e
    · rintro σ H2 ⟨r, z, v, rfl, rfl, hl, hc⟩
      exact ⟨_, rfl, q z _ (Same.refl _) (nameB_iff.mpr ⟨by omega, by omega, hc⟩)⟩

end
end K15

set_option Elab.async false
set_option linter.all false
set_option maxRecDepth 100000
set_option maxHeartbeats 4000000
namespace K15
open PySem L2 PyProof.Rows
/-- an exception with an own dict of one name -/
def XV (H : Hp) (x C : Addr) (nm : Str) (v : V) : Prop := ∃ d tu, H x = some (excX x C (some d) tu) ∧ H d = some (.xd [(nm, v)])
theorem XV.same {H H' : Hp} {x C : Addr} {nm : Str} {v : V} (h : XV H x C nm v) (s : Same H H') : XV H' x C nm v := by
  obtain ⟨d, tu, h1, h2⟩ := h
  exact ⟨d, tu, s _ _ h1, s _ _ h2⟩
theorem XV.exc {H : Hp} {x C : Addr} {nm : Str} {v : V} (h : XV H x C nm v) : ExcH H x C := by
  obtain ⟨d, tu, h1, h2⟩ := h
  exact .inr ⟨_, _, h1⟩
theorem made_x {H : Hp} {x C tu d : Addr} {nm : Str} {v : V} (hx : H x = none) (hd : upd H x (excX x C none tu) d = none) : Same H (upd (upd (upd H x (excX x C none tu)) x (excX x C (some d) tu)) d (.xd [(nm, v)])) ∧ XV (upd (upd (upd H x (excX x C none tu)) x (excX x C (some d) tu)) d (.xd [(nm, v)])) x C nm v := by
  have nd : x ≠ d := fun z => by rw [← z, upd_same] at hd; cases hd
  refine ⟨fun b u e => ?_, d, tu, ?_, upd_same⟩
  · have nx : b ≠ x := ne_of_none e hx
    have e2 : upd H x (excX x C none tu) b = some u := by rw [upd_ne nx]; exact e
    rw [upd_ne (ne_of_none e2 hd), upd_ne nx]
    exact e2
  · rw [upd_ne nd, upd_same]
theorem gName_go {i : Nat} {v : V} {σ : L2.St} {H : Hp} {Q : L2.St → Hp → Prop} (h : Q (σ.set i (some v)) H) : gName i v σ H Q := h
theorem ints_says {K : PySem.W.Frag} {ok : Addr → Prop} {H : Hp} {n : Nat} : ∀ (ts : List Int), Paired (Says K ok H n) (ts.map V.int) (ts.map .int)
  | [] => .nil
  | t :: ts => .cons .int (ints_says ts)
theorem paired_rep {H : Hp} {c : C5} {p : Addr} {r : Rw} (h : PAt c H p r) : ∀ k : Nat, Paired (PAt c H) (List.replicate k p) (List.replicate k r)
  | 0 => .nil
  | k + 1 => .cons h (paired_rep h k)
structure LawX (P : Program) (w : World) (K : PySem.W.Frag) (mg : Str → Option Value) (base : Heap) (cl : Nat → Addr) (CE g2 g3 g5 gm : Addr) (d2 d3 d5 dm : FuncData) : Prop where
  so : ∀ i, i < 16 → SortOk K cl CE (cl i) i
  p0 : PCls K mg base "NoName" (cl 0)
  p1 : PCls K mg base "TooMany" (cl 1)
  p4 : PCls K mg base "NoChange" (cl 4)
  p6 : PCls K mg base "NoText" (cl 6)
  p7 : PCls K mg base "NoRow" (cl 7)
  p8 : PCls K mg base "Unknown" (cl 8)
  x2 : XCls P w K mg base "BadOrder" (cl 2) g2 d2 "at" "at"
  x3 : XCls P w K mg base "Twice" (cl 3) g3 d3 "name" "name"
  x5 : XCls P w K mg base "NoDefault" (cl 5) g5 d5 "number" "number"
  x9 : XCls P w K mg base "Doubled" (cl 9) gm dm "number" "number"
  x10 : XCls P w K mg base "Over" (cl 10) gm dm "number" "number"
  x11 : XCls P w K mg base "Barred" (cl 11) gm dm "number" "number"
  x12 : XCls P w K mg base "Again" (cl 12) gm dm "number" "number"
  x13 : XCls P w K mg base "Strange" (cl 13) gm dm "number" "number"
  x14 : XCls P w K mg base "Lacking" (cl 14) gm dm "number" "number"
  x15 : XCls P w K mg base "Misfit" (cl 15) gm dm "number" "number"
section
variable {P : Program} {w : World} {K : PySem.W.Frag} {mg : Str → Option Value} {base : Heap} {f CE N i0 i1 i2 g2 g3 g5 gm : Addr} {cl : Nat → Addr} {fd d0 d1 d2' d2 d3 d5 dm : FuncData} {c : C5}
theorem ndKP : ([Str.ofString "_law_k", Str.ofString "_law_plain"] : List Str).Nodup := by decide +kernel
theorem scLaw : FnScope ["_law_script", "_law_number", "_law_name", "_law_plain", "_law_order", "_law_twice", "_law_default", "_law_some", "_law_k", "_law_base"] ["_law_script"] (defScope sLaw) := ⟨rfl, rfl, rfl, by decide +kernel, rfl, by decide +kernel, by decide +kernel⟩
theorem ok_law {h1 h2 h3 h4 h5 : Addr} {e1 e2 e3 e4 e5 : FuncData} (F : Fun K "law" "law" sLaw f fd) (U : TxtX mg cl CE) (LX : LawX P w K mg base cl CE g2 g3 g5 gm d2 d3 d5 dm) (UC : Ctors P w K mg base c N i0 i1 i2 d0 d1 d2')
    (cN : Callee P w K mg base 1 "_law_nth" h1 e1 ["_law_script", "_law_k"] (spNth K)) (cC : Callee P w K mg base 1 "_law_called" h2 e2 ["_law_cell"] spCalled) (cS : CalleeM P w K mg base 1 "_law_sorts" h3 e3 ["_law_e"] (spSorts K cl CE)) (cI : Callee P w K mg base 2 "_law_is" h4 e4 ["_law_e", "_law_which"] (spIsE K cl CE)) (cR : Callee P w K mg base 6 "_law_refused" h5 e5 ["_law_made", "_law_bars"] (spRefused c cl)) :
    FnOk P w K mg base CX0 7 f fd ["_law_script"] (spLaw K) := by
  refine F.ok scLaw (fun vs H Q E h => ?_) (fun cdv A outer s H vs Q E hr h => ?_)
  · obtain ⟨a, ns, rfl, _⟩ := h
    rfl
  obtain ⟨sa, ns, rfl, hS, h63, q⟩ := h
  have hr1 : Room 1 _ := hr.mono (by decide)
  have hr2 : Room 2 _ := hr.mono (by decide)
  have hr4 : Room 4 _ := hr.mono (by decide)
  have hU := hr.units
  have so := LX.so
  refine ⟨_, pss_cons (ps_set (i := 1) scLaw.nd rfl (Or.inl rfl) (pe_op op_sub (pe_op op_mod (pe_op op_fdiv (cF cN hr1 (ac (pv 0) (ac pe_int pa_nil))) pe_int) pe_int) pe_int))
    (pss_cons (ps_if (pt_cmpR op_eq (pe_op op_mod (cF cN hr1 (ac (pv 0) (ac pe_int pa_nil))) pe_int) pe_int (nomark _)) (pss_one (ps_set (i := 1) scLaw.nd rfl (Or.inl rfl) (pe_op op_add (pe_op op_sub (pe_op op_mod (pe_op op_fdiv (cF cN hr1 (ac (pv 0) (ac pe_int pa_nil))) pe_int) (pe_op op_sub (pe_op op_mul pe_int (pe_op op_pow pe_int pe_int)) pe_int)) (pe_op op_pow pe_int pe_int)) pe_int))) pss_nil)
    (pss_cons (ps_set (i := 2) scLaw.nd rfl (Or.inl rfl) (cF cC hr1 (ac (cF cN hr1 (ac (pv 0) (ac pe_int pa_nil))) pa_nil)))
    (pss_cons (ps_set (i := 3) scLaw.nd rfl (Or.inr rfl) (pe_lst (ac (pe_makeP LX.p0.own LX.p0.kp PySem.F.excBase_ValueError (by decide) PySem.F.excBase_ValueError (ac pe_str pa_nil)) (ac (pe_makeP LX.p1.own LX.p1.kp PySem.F.excBase_ValueError (by decide) PySem.F.excBase_ValueError (ac pe_str pa_nil)) (ac (pe_makeP LX.p4.own LX.p4.kp PySem.F.excBase_ValueError (by decide) PySem.F.excBase_ValueError (ac pe_str pa_nil)) (ac (pe_makeP LX.p6.own LX.p6.kp PySem.F.excBase_ValueError (by decide) PySem.F.excBase_ValueError (ac pe_str pa_nil)) (ac (pe_makeP LX.p7.own LX.p7.kp PySem.F.excBase_ValueError (by decide) PySem.F.excBase_ValueError (ac pe_str pa_nil)) (ac (pe_makeP LX.p8.own LX.p8.kp PySem.F.excBase_ValueError (by decide) PySem.F.excBase_ValueError (ac pe_str pa_nil)) pa_nil))))))))
    (pss_cons (ps_if (pt_cmpR (op_neS hU) (pe_lc ["_law_plain"] ["_law_k", "_law_plain"] [none, some 3] rfl ⟨rfl, rfl, rfl, rfl⟩ (pi_range1 rfl U.ran (ac pe_int pa_nil)) (gown_name 0) rfl rfl rfl
        (fun pins fp s H C => ⟨pg_name (i := 0) ndKP rfl (Or.inl rfl) (.inr rfl), pif_one (pt_not (pt_val (cF cI hr2 (ac (pe_ix (r := rIxL K) ix_list (pv 1) (pv 0) (fun _ _ => rfl)) (ac (pe_ix (r := rIxL K) ix_list (pe_lst (ac pe_int (ac pe_int (ac pe_int (ac pe_int (ac pe_int (ac pe_int pa_nil))))))) (pv 0) (fun _ _ => rfl)) pa_nil))))), pv 0⟩)) (pe_lst pa_nil) (nomark _)) (pss_one (ps_ret pe_bl)) pss_nil)
    (pss_cons (ps_set (i := 4) scLaw.nd rfl (Or.inl rfl) (pe_makeX LX.x2.call LX.x2.ok hr2 rfl LX.x2.gl LX.x2.bd pass0 (ac (pv 1) pa_nil)))
    (pss_cons (ps_set (i := 5) scLaw.nd rfl (Or.inl rfl) (pe_makeX LX.x3.call LX.x3.ok hr2 rfl LX.x3.gl LX.x3.bd pass0 (ac (pv 2) pa_nil)))
    (pss_cons (ps_set (i := 6) scLaw.nd rfl (Or.inl rfl) (pe_makeX LX.x5.call LX.x5.ok hr2 rfl LX.x5.gl LX.x5.bd pass0 (ac (pv 1) pa_nil)))
    (pss_cons (ps_if (PW.pt (pw_or (pt_not (pt_val (cF cI hr2 (ac (pv 4) (ac pe_int pa_nil))))) (pw_or (pt_not (pt_val (cF cI hr2 (ac (pv 5) (ac pe_int pa_nil))))) (pw_or1 (pt_not (pt_val (cF cI hr2 (ac (pv 6) (ac pe_int pa_nil))))))))) (pss_one (ps_ret pe_bl)) pss_nil)
    (pss_cons (ps_if (PW.pt (pw_or (pt_cmpR op_ne (pe_fldX (pv 4) rfl) (pv 1) (nomark _)) (pw_or (pt_cmpR op_ne (pe_fldX (pv 5) rfl) (pv 2) (nomark _)) (pw_or1 (pt_cmpR op_ne (pe_fldX (pv 6) rfl) (pv 1) (nomark _)))))) (pss_one (ps_ret pe_bl)) pss_nil)
    (pss_cons (ps_set (i := 7) scLaw.nd rfl (Or.inl rfl) (pe_lst (ac (pe_makeX LX.x9.call LX.x9.ok hr2 rfl LX.x9.gl LX.x9.bd pass0 (ac (pv 1) pa_nil)) (ac (pe_makeX LX.x10.call LX.x10.ok hr2 rfl LX.x10.gl LX.x10.bd pass0 (ac (pv 1) pa_nil)) (ac (pe_makeX LX.x11.call LX.x11.ok hr2 rfl LX.x11.gl LX.x11.bd pass0 (ac (pv 1) pa_nil)) (ac (pe_makeX LX.x12.call LX.x12.ok hr2 rfl LX.x12.gl LX.x12.bd pass0 (ac (pv 1) pa_nil)) (ac (pe_makeX LX.x13.call LX.x13.ok hr2 rfl LX.x13.gl LX.x13.bd pass0 (ac (pv 1) pa_nil)) (ac (pe_makeX LX.x14.call LX.x14.ok hr2 rfl LX.x14.gl LX.x14.bd pass0 (ac (pv 1) pa_nil)) pa_nil))))))))
    (pss_cons (ps_for PassesOwn.never rfl (pi_range1 rfl U.ran (ac pe_int pa_nil)) (pg_name (i := 8) scLaw.nd rfl (Or.inl rfl)) (pss_one (ps_if (PW.pt (pw_or (pt_not (pt_val (cF cI hr2 (ac (pe_ix ix_list (pv 7) (pv 8) (fun _ _ => rfl)) (ac (pe_op op_add pe_int (pv 8)) pa_nil))))) (pw_or1 (pt_cmpR op_ne (pe_fldX (pe_ix ix_list (pv 7) (pv 8) (fun _ _ => rfl)) rfl) (pv 1) (nomark _))))) (pss_one (ps_ret pe_bl)) pss_nil)))
    (pss_cons (ps_set (i := 9) scLaw.nd rfl (Or.inl rfl) (pe_makeX LX.x15.call LX.x15.ok hr2 rfl LX.x15.gl LX.x15.bd pass0 (ac (pv 1) pa_nil)))
    (pss_cons (ps_if (PW.pt (pw_or (pt_cmpR (op_neS hU) (cM cS hr1.m (ac (pv 9) pa_nil)) (pe_op op_cat (pe_op op_rep (pe_lst (ac pe_bl pa_nil)) pe_int) (pe_lst (ac pe_bl pa_nil))) (nomark _)) (pw_or (pt_not (pt_val (cB (r := rG K) call_isinstG U.isi boot_isinstance (ac (pv 9) (ac (pe_glob (v := .ref CE) rfl U.ce rfl) pa_nil))))) (pw_or1 (pt_cmpR op_ne (pe_fldX (pv 9) rfl) (pv 1) (nomark _)))))) (pss_one (ps_ret pe_bl)) pss_nil)
    (pss_cons (ps_if (PW.pt (pw_or (pt_cmpR (op_neS hU) (cF cR hr (ac (pe_lst (ac (cMk (E := fun _ _ _ => False) UC.e1 (dvs := [.bl false]) (.cons rfl .nil) passF hr4 (ac (pv 2) pa_nil)) (ac (cMk (E := fun _ _ _ => False) UC.k1 .nil passF hr4 (ac (pv 2) (ac pe_bl pa_nil))) pa_nil))) (ac (pe_lst pa_nil) pa_nil))) (pe_lst (ac pe_int pa_nil)) (nomark _)) (pw_or1 (pt_cmpR (op_neS hU) (cF cR hr (ac (pe_lst (ac (cMk (E := fun _ _ _ => False) UC.k2 .nil passF hr4 (ac (pv 2) pa_nil)) (ac (cMk (E := fun _ _ _ => False) UC.e0 (dvs := [.bl false]) (.cons rfl .nil) passF hr4 (ac (pv 2) pa_nil)) pa_nil))) (ac (pe_lst pa_nil) pa_nil))) (pe_lst (ac pe_int pa_nil)) (nomark _))))) (pss_one (ps_ret pe_bl)) pss_nil)
    (pss_one (ps_ret (pe_and (pe_cmpR (op_eqS hU) (cF cR hr (ac (pe_op op_rep (pe_lst (ac (cMk (E := fun _ _ _ => False) UC.e0 (dvs := [.bl false]) (.cons rfl .nil) passF hr4 (ac (pv 2) pa_nil)) pa_nil)) pe_int) (ac (pe_lst pa_nil) pa_nil))) (pe_lst (ac pe_int pa_nil)) (nomark _)) (pe_one (pe_cmpR (op_eqS hU) (cF cR hr (ac (pe_lst pa_nil) (ac (pe_lst (ac (pe_op op_add_str (pv 2) pe_str) pa_nil)) pa_nil))) (pe_lst (ac pe_int pa_nil)) (nomark _)))))))))))))))))))), ?_⟩
  refine ⟨_, rfl, sa, ns, 0, rfl, hS, fun n0 => ?_⟩
  refine ⟨_, _, rfl, rfl, ⟨by decide, by decide⟩, _, _, rfl, rfl, (by show (0 : Int) < 41; decide), _, _, rfl, rfl, ?_⟩
  refine gName_go ?_
  dsimp only
  refine seq_via (fun σ H' => ∃ n : Int, σ = [some (.ref sa), some (.int n), none, none, none, none, none, none, none, none] ∧ Same H H') ?_ fun go => ?_
  rotate_left 1
  · refine ⟨_, rfl, sa, ns, 0, rfl, hS, fun n1 => ?_⟩
    refine ⟨_, _, rfl, rfl, (by show (0 : Int) < 2; decide), rfl, _, rfl, ?_⟩
    refine ite2 (fun _ => ?_) (fun _ => ?_)
    · refine ⟨_, rfl, sa, ns, 0, rfl, hS, fun n2 => ?_⟩
      refine ⟨_, _, rfl, rfl, ⟨by decide, by decide⟩, _, _, rfl, rfl, ⟨by decide, by decide, by decide⟩, _, _, rfl, rfl, .inl ⟨by decide, by decide⟩, _, _, rfl, rfl, _, _, rfl, rfl, (by show (0 : Int) < 2 * 10 ^ Int.toNat 60 - 1; decide +kernel), _, _, rfl, rfl, ⟨by decide, by decide, by decide⟩, _, _, rfl, rfl, _, _, rfl, rfl, ?_⟩
      exact go _ _ ⟨_, rfl, Same.refl _⟩
    · exact go _ _ ⟨_, rfl, Same.refl _⟩
  rintro _ H0 ⟨n, rfl, s0⟩
  refine ⟨_, rfl, sa, ns, 1, rfl, s0.seq hS, fun n1 => ?_⟩
  refine ⟨n1, rfl, fun z H1 s1 hz => ?_⟩
  -- the plain ones
  refine ⟨by show 1 ≤ sizeLine; decide, fun p0 t0 hp0 => ?_⟩
  have u0 := same_new hp0 (excX p0 (cl 0) none t0)
  have f0 : ExcH (upd H1 p0 (excX p0 (cl 0) none t0)) p0 (cl 0) := .inr ⟨none, t0, upd_same⟩
  generalize upd H1 p0 (excX p0 (cl 0) none t0) = G0 at u0 f0 ⊢
  refine ⟨by show 1 ≤ sizeLine; decide, fun p1 t1 hp1 => ?_⟩
  have u1 := same_new hp1 (excX p1 (cl 1) none t1)
  have f1 : ExcH (upd G0 p1 (excX p1 (cl 1) none t1)) p1 (cl 1) := .inr ⟨none, t1, upd_same⟩
  generalize upd G0 p1 (excX p1 (cl 1) none t1) = G1 at u1 f1 ⊢
  refine ⟨by show 1 ≤ sizeLine; decide, fun p2 t2 hp2 => ?_⟩
  have u2 := same_new hp2 (excX p2 (cl 4) none t2)
  have f2 : ExcH (upd G1 p2 (excX p2 (cl 4) none t2)) p2 (cl 4) := .inr ⟨none, t2, upd_same⟩
  generalize upd G1 p2 (excX p2 (cl 4) none t2) = G2 at u2 f2 ⊢
  refine ⟨by show 1 ≤ sizeLine; decide, fun p3 t3 hp3 => ?_⟩
  have u3 := same_new hp3 (excX p3 (cl 6) none t3)
  have f3 : ExcH (upd G2 p3 (excX p3 (cl 6) none t3)) p3 (cl 6) := .inr ⟨none, t3, upd_same⟩
  generalize upd G2 p3 (excX p3 (cl 6) none t3) = G3 at u3 f3 ⊢
  refine ⟨by show 1 ≤ sizeLine; decide, fun p4 t4 hp4 => ?_⟩
  have u4 := same_new hp4 (excX p4 (cl 7) none t4)
  have f4 : ExcH (upd G3 p4 (excX p4 (cl 7) none t4)) p4 (cl 7) := .inr ⟨none, t4, upd_same⟩
  generalize upd G3 p4 (excX p4 (cl 7) none t4) = G4 at u4 f4 ⊢
  refine ⟨by show 1 ≤ sizeLine; decide, fun p5 t5 hp5 => ?_⟩
  have u5 := same_new hp5 (excX p5 (cl 8) none t5)
  have f5 : ExcH (upd G4 p5 (excX p5 (cl 8) none t5)) p5 (cl 8) := .inr ⟨none, t5, upd_same⟩
  generalize upd G4 p5 (excX p5 (cl 8) none t5) = G5 at u5 f5 ⊢
  refine ⟨(by show 6 ≤ sizeLine; decide), fun lp hlp => ?_⟩
  have up := same_new hlp (.lst [.ref p0, .ref p1, .ref p2, .ref p3, .ref p4, .ref p5])
  have ep : upd G5 lp (.lst [.ref p0, .ref p1, .ref p2, .ref p3, .ref p4, .ref p5]) lp = some (.lst [.ref p0, .ref p1, .ref p2, .ref p3, .ref p4, .ref p5]) := upd_same
  have x0 := f0.same (u1.trans (u2.trans (u3.trans (u4.trans (u5.trans up)))))
  have x1 := f1.same (u2.trans (u3.trans (u4.trans (u5.trans up))))
  have x2 := f2.same (u3.trans (u4.trans (u5.trans up)))
  have x3 := f3.same (u4.trans (u5.trans up))
  have x4 := f4.same (u5.trans up)
  have x5 := f5.same up
  generalize upd G5 lp (.lst [.ref p0, .ref p1, .ref p2, .ref p3, .ref p4, .ref p5]) = H2 at up ep x0 x1 x2 x3 x4 x5 ⊢
  refine gName_go ?_
  dsimp only
  have plAt : ∀ k : Nat, k < 6 → ∃ (e D : Addr) (i : Nat), atI [V.ref p0, .ref p1, .ref p2, .ref p3, .ref p4, .ref p5] (k : Int) = some (.ref e) ∧ atI [V.int 0, .int 1, .int 4, .int 6, .int 7, .int 8] (k : Int) = some (.int (i : Nat)) ∧ ExcH H2 e D ∧ SortOk K cl CE D i := fun k hk => by
    match k, hk with
    | 0, _ => exact ⟨p0, cl 0, 0, rfl, rfl, x0, so 0 (by decide)⟩
    | 1, _ => exact ⟨p1, cl 1, 1, rfl, rfl, x1, so 1 (by decide)⟩
    | 2, _ => exact ⟨p2, cl 4, 4, rfl, rfl, x2, so 4 (by decide)⟩
    | 3, _ => exact ⟨p3, cl 6, 6, rfl, rfl, x3, so 6 (by decide)⟩
    | 4, _ => exact ⟨p4, cl 7, 7, rfl, rfl, x4, so 7 (by decide)⟩
    | 5, _ => exact ⟨p5, cl 8, 8, rfl, rfl, x5, so 8 (by decide)⟩
  refine ⟨6, rfl, by decide, by decide, fun D hD => ?_⟩
  refine lc_selr (n := 6) (fun _ => false) (fun k => .int (k : Nat)) hD (by decide) ?_ fun H3 u3 eD => ?_
  · intro k H' N' S hk sH qy qn
    obtain ⟨e, D', i, a1, a2, hx, hso⟩ := plAt k hk
    have e0 : (0 : Int) + (k : Int) = (k : Nat) := by omega
    rw [e0]
    refine ⟨_, rfl, _, rfl, lp, _, _, _, rfl, rfl, SqL.of (sH _ _ ep), a1, ?_⟩
    refine ⟨(by show 6 ≤ sizeLine; decide), fun l6 hl6 => ?_⟩
    have u6 := same_new hl6 (.lst [.int 0, .int 1, .int 4, .int 6, .int 7, .int 8])
    refine ⟨_, rfl, l6, _, _, _, rfl, rfl, SqL.of upd_same, a2, ?_⟩
    refine ⟨e, D', i, rfl, hx.same (sH.trans u6), hso, fun H7 s7 => ⟨_, rfl, ?_⟩⟩
    exact ⟨fun e => Bool.noConfusion e, fun _ => qn _ (u6.trans s7) rfl⟩
  have eE : ((List.range 6).filter fun _ => false).map (fun k => V.int (k : Nat)) = [] := by decide +kernel
  rw [eE] at eD
  refine ⟨(by show 0 ≤ sizeLine; decide), fun l4 hl4 => ?_⟩
  have u4 := same_new hl4 (.lst [])
  refine ⟨D, l4, 1, .lst [], fun _ => True, fun _ => True, rfl, rfl, by decide, Says.lst True.intro (u4 _ _ eD) .nil, Says.lst True.intro upd_same .nil, _, rfl, iteF ?_⟩
  show tSeq _ _ _ _ (upd H3 l4 (.lst []))
  generalize upd H3 l4 (.lst []) = H4 at u4 ⊢
  refine ⟨_, rfl, by show 1 ≤ sizeLine; decide, fun xO tO hxO htO hnO => ⟨xO, cl 2, tO, _, rfl, upd_same, LX.x2.set, LX.x2.no, fun dO hdO => ⟨rfl, ?_⟩⟩⟩
  obtain ⟨sO, vO⟩ := made_x (nm := "at") (v := .int n) hxO hdO
  show tSeq _ _ _ _ (upd (upd (upd H4 xO (excX xO (cl 2) none tO)) xO (excX xO (cl 2) (some dO) tO)) dO (.xd [("at", .int n)]))
  generalize upd (upd (upd H4 xO (excX xO (cl 2) none tO)) xO (excX xO (cl 2) (some dO) tO)) dO (.xd [("at", .int n)]) = H5 at sO vO ⊢
  refine ⟨_, rfl, by show 1 ≤ sizeLine; decide, fun xT tT hxT htT hnT => ⟨xT, cl 3, tT, _, rfl, upd_same, LX.x3.set, LX.x3.no, fun dT hdT => ⟨rfl, ?_⟩⟩⟩
  obtain ⟨sT, vT⟩ := made_x (nm := "name") (v := .str z) hxT hdT
  show tSeq _ _ _ _ (upd (upd (upd H5 xT (excX xT (cl 3) none tT)) xT (excX xT (cl 3) (some dT) tT)) dT (.xd [("name", .str z)]))
  generalize upd (upd (upd H5 xT (excX xT (cl 3) none tT)) xT (excX xT (cl 3) (some dT) tT)) dT (.xd [("name", .str z)]) = H6 at sT vT ⊢
  refine ⟨_, rfl, by show 1 ≤ sizeLine; decide, fun xD tD hxD htD hnD => ⟨xD, cl 5, tD, _, rfl, upd_same, LX.x5.set, LX.x5.no, fun dD hdD => ⟨rfl, ?_⟩⟩⟩
  obtain ⟨sD, vD⟩ := made_x (nm := "number") (v := .int n) hxD hdD
  show tSeq _ _ _ _ (upd (upd (upd H6 xD (excX xD (cl 5) none tD)) xD (excX xD (cl 5) (some dD) tD)) dD (.xd [("number", .int n)]))
  generalize upd (upd (upd H6 xD (excX xD (cl 5) none tD)) xD (excX xD (cl 5) (some dD) tD)) dD (.xd [("number", .int n)]) = H7 at sD vD ⊢
  have vO7 := vO.same (sT.trans sD)
  have vT7 := vT.same sD
  refine ⟨_, rfl, xO, cl 2, 2, rfl, vO7.exc, so 2 (by decide), fun H8 s8 => ⟨_, rfl, iteF ?_⟩⟩
  refine ⟨_, rfl, xT, cl 3, 3, rfl, (vT7.same s8).exc, so 3 (by decide), fun H9 s9 => ⟨_, rfl, iteF ?_⟩⟩
  refine ⟨_, rfl, xD, cl 5, 5, rfl, (vD.same (s8.trans s9)).exc, so 5 (by decide), fun H10 s10 => ⟨_, rfl, iteF ?_⟩⟩
  have w10 := s8.trans (s9.trans s10)
  obtain ⟨dO', tO', aO, bO⟩ := vO7.same w10
  obtain ⟨dT', tT', aT, bT⟩ := vT7.same w10
  obtain ⟨dD', tD', aD, bD⟩ := vD.same w10
  refine ⟨_, rfl, xO, cl 2, tO', dO', _, _, rfl, aO, bO, LX.x2.ex, LX.x2.set, LX.x2.no, rfl, _, rfl, rfl, _, rfl, ?_⟩
  rw [decide_eq_true rfl]
  refine iteF ?_
  refine ⟨_, rfl, xT, cl 3, tT', dT', _, _, rfl, aT, bT, LX.x3.ex, LX.x3.set, LX.x3.no, rfl, _, rfl, rfl, _, rfl, ?_⟩
  rw [decide_eq_true rfl]
  refine iteF ?_
  refine ⟨_, rfl, xD, cl 5, tD', dD', _, _, rfl, aD, bD, LX.x5.ex, LX.x5.set, LX.x5.no, rfl, _, rfl, rfl, _, rfl, ?_⟩
  rw [decide_eq_true rfl]
  refine iteF ?_
  -- the misfits
  refine ⟨_, rfl, by show 1 ≤ sizeLine; decide, fun xM0 tM0 hxM0 htM0 hnM0 => ⟨xM0, cl 9, tM0, _, rfl, upd_same, LX.x9.set, LX.x9.no, fun dM0 hdM0 => ⟨rfl, ?_⟩⟩⟩
  obtain ⟨sM0, vM0⟩ := made_x (nm := "number") (v := .int n) hxM0 hdM0
  generalize upd (upd (upd H10 xM0 (excX xM0 (cl 9) none tM0)) xM0 (excX xM0 (cl 9) (some dM0) tM0)) dM0 (.xd [("number", .int n)]) = J0 at sM0 vM0 ⊢
  refine ⟨_, rfl, by show 1 ≤ sizeLine; decide, fun xM1 tM1 hxM1 htM1 hnM1 => ⟨xM1, cl 10, tM1, _, rfl, upd_same, LX.x10.set, LX.x10.no, fun dM1 hdM1 => ⟨rfl, ?_⟩⟩⟩
  obtain ⟨sM1, vM1⟩ := made_x (nm := "number") (v := .int n) hxM1 hdM1
  generalize upd (upd (upd J0 xM1 (excX xM1 (cl 10) none tM1)) xM1 (excX xM1 (cl 10) (some dM1) tM1)) dM1 (.xd [("number", .int n)]) = J1 at sM1 vM1 ⊢
  refine ⟨_, rfl, by show 1 ≤ sizeLine; decide, fun xM2 tM2 hxM2 htM2 hnM2 => ⟨xM2, cl 11, tM2, _, rfl, upd_same, LX.x11.set, LX.x11.no, fun dM2 hdM2 => ⟨rfl, ?_⟩⟩⟩
  obtain ⟨sM2, vM2⟩ := made_x (nm := "number") (v := .int n) hxM2 hdM2
  generalize upd (upd (upd J1 xM2 (excX xM2 (cl 11) none tM2)) xM2 (excX xM2 (cl 11) (some dM2) tM2)) dM2 (.xd [("number", .int n)]) = J2 at sM2 vM2 ⊢
  refine ⟨_, rfl, by show 1 ≤ sizeLine; decide, fun xM3 tM3 hxM3 htM3 hnM3 => ⟨xM3, cl 12, tM3, _, rfl, upd_same, LX.x12.set, LX.x12.no, fun dM3 hdM3 => ⟨rfl, ?_⟩⟩⟩
  obtain ⟨sM3, vM3⟩ := made_x (nm := "number") (v := .int n) hxM3 hdM3
  generalize upd (upd (upd J2 xM3 (excX xM3 (cl 12) none tM3)) xM3 (excX xM3 (cl 12) (some dM3) tM3)) dM3 (.xd [("number", .int n)]) = J3 at sM3 vM3 ⊢
  refine ⟨_, rfl, by show 1 ≤ sizeLine; decide, fun xM4 tM4 hxM4 htM4 hnM4 => ⟨xM4, cl 13, tM4, _, rfl, upd_same, LX.x13.set, LX.x13.no, fun dM4 hdM4 => ⟨rfl, ?_⟩⟩⟩
  obtain ⟨sM4, vM4⟩ := made_x (nm := "number") (v := .int n) hxM4 hdM4
  generalize upd (upd (upd J3 xM4 (excX xM4 (cl 13) none tM4)) xM4 (excX xM4 (cl 13) (some dM4) tM4)) dM4 (.xd [("number", .int n)]) = J4 at sM4 vM4 ⊢
  refine ⟨_, rfl, by show 1 ≤ sizeLine; decide, fun xM5 tM5 hxM5 htM5 hnM5 => ⟨xM5, cl 14, tM5, _, rfl, upd_same, LX.x14.set, LX.x14.no, fun dM5 hdM5 => ⟨rfl, ?_⟩⟩⟩
  obtain ⟨sM5, vM5⟩ := made_x (nm := "number") (v := .int n) hxM5 hdM5
  generalize upd (upd (upd J4 xM5 (excX xM5 (cl 14) none tM5)) xM5 (excX xM5 (cl 14) (some dM5) tM5)) dM5 (.xd [("number", .int n)]) = J5 at sM5 vM5 ⊢
  refine ⟨(by show 6 ≤ sizeLine; decide), fun ls hls => ?_⟩
  have us := same_new hls (.lst [.ref xM0, .ref xM1, .ref xM2, .ref xM3, .ref xM4, .ref xM5])
  have es : upd J5 ls (.lst [.ref xM0, .ref xM1, .ref xM2, .ref xM3, .ref xM4, .ref xM5]) ls = some (.lst [.ref xM0, .ref xM1, .ref xM2, .ref xM3, .ref xM4, .ref xM5]) := upd_same
  have y0 := vM0.same (sM1.trans (sM2.trans (sM3.trans (sM4.trans (sM5.trans us)))))
  have y1 := vM1.same (sM2.trans (sM3.trans (sM4.trans (sM5.trans us))))
  have y2 := vM2.same (sM3.trans (sM4.trans (sM5.trans us)))
  have y3 := vM3.same (sM4.trans (sM5.trans us))
  have y4 := vM4.same (sM5.trans us)
  have y5 := vM5.same us
  show tSeq _ _ _ _ (upd J5 ls (.lst [.ref xM0, .ref xM1, .ref xM2, .ref xM3, .ref xM4, .ref xM5]))
  generalize upd J5 ls (.lst [.ref xM0, .ref xM1, .ref xM2, .ref xM3, .ref xM4, .ref xM5]) = H11 at us es y0 y1 y2 y3 y4 y5 ⊢
  have msAt : ∀ k : Nat, k < 6 → ∃ (e : Addr), atI [V.ref xM0, .ref xM1, .ref xM2, .ref xM3, .ref xM4, .ref xM5] (k : Int) = some (.ref e) ∧ XV H11 e (cl (9 + k)) "number" (.int n) ∧ ExcCls K (cl (9 + k)) ∧ XSet K (cl (9 + k)) ∧ NoAttr K (cl (9 + k)) "number" := fun k hk => by
    match k, hk with
    | 0, _ => exact ⟨xM0, rfl, y0, LX.x9.ex, LX.x9.set, LX.x9.no⟩
    | 1, _ => exact ⟨xM1, rfl, y1, LX.x10.ex, LX.x10.set, LX.x10.no⟩
    | 2, _ => exact ⟨xM2, rfl, y2, LX.x11.ex, LX.x11.set, LX.x11.no⟩
    | 3, _ => exact ⟨xM3, rfl, y3, LX.x12.ex, LX.x12.set, LX.x12.no⟩
    | 4, _ => exact ⟨xM4, rfl, y4, LX.x13.ex, LX.x13.set, LX.x13.no⟩
    | 5, _ => exact ⟨xM5, rfl, y5, LX.x14.ex, LX.x14.set, LX.x14.no⟩
  refine ⟨6, rfl, by decide, by decide, for_range (lo := 0) (n := 6) (fun i σ H' => ∃ v8, σ = [some (.ref sa), some (.int n), some (.str z), some (.ref lp), some (.ref xO), some (.ref xT), some (.ref xD), some (.ref ls), v8, none] ∧ Same H11 H') ⟨_, rfl, Same.refl _⟩ ?_ ?_⟩
  · rintro k σ H' hk ⟨v8, rfl, sH⟩
    have e0 : (0 : Int) + (k : Int) = (k : Nat) := by omega
    rw [e0]
    obtain ⟨e, a1, hv, hex, hset, hno⟩ := msAt k hk
    refine ⟨_, rfl, _, rfl, ls, _, _, _, rfl, rfl, SqL.of (sH _ _ es), a1, _, rfl, _, _, rfl, rfl, ?_⟩
    refine ⟨e, cl (9 + k), 9 + k, rfl, (hv.same sH).exc, so (9 + k) (by omega), fun H2' s2' => ⟨_, rfl, iteF ?_⟩⟩
    obtain ⟨d', t', a2, b2⟩ := hv.same (sH.trans s2')
    refine ⟨_, rfl, _, rfl, ls, _, _, _, rfl, rfl, SqL.of (s2' _ _ (sH _ _ es)), a1, e, cl (9 + k), t', d', _, _, rfl, a2, b2, hex, hset, hno, rfl, _, rfl, rfl, _, rfl, ?_⟩
    rw [decide_eq_true rfl]
    exact iteF ⟨_, rfl, sH.trans s2'⟩
  rintro _ H12 ⟨v8, rfl, s12⟩
  dsimp only
  -- the base of misfits
  refine ⟨_, rfl, by show 1 ≤ sizeLine; decide, fun xB tB hxB htB hnB => ⟨xB, cl 15, tB, _, rfl, upd_same, LX.x15.set, LX.x15.no, fun dB hdB => ⟨rfl, ?_⟩⟩⟩
  obtain ⟨sB, vB⟩ := made_x (nm := "number") (v := .int n) hxB hdB
  show tSeq _ _ _ _ (upd (upd (upd H12 xB (excX xB (cl 15) none tB)) xB (excX xB (cl 15) (some dB) tB)) dB (.xd [("number", .int n)]))
  generalize upd (upd (upd H12 xB (excX xB (cl 15) none tB)) xB (excX xB (cl 15) (some dB) tB)) dB (.xd [("number", .int n)]) = H13 at sB vB ⊢
  refine ⟨_, rfl, xB, cl 15, 15, rfl, vB.exc, so 15 (by decide), fun l14 H14 s14 _ e14 => ?_⟩
  rw [bsL_eq] at e14
  refine ⟨(by show 1 ≤ sizeLine; decide), fun la hla => ?_⟩
  have ua := same_new hla (.lst [.bl false])
  refine ⟨la, 15, _, rfl, rfl, upd_same, by decide, by decide, (by show 15 ≤ sizeLine; decide), fun lb hlb => ?_⟩
  rw [show (List.replicate (Int.toNat 15) [V.bl false]).flatten = List.replicate 15 (V.bl false) by decide +kernel]
  have ub := same_new hlb (.lst (List.replicate 15 (V.bl false)))
  have eb : upd (upd H14 la (.lst [.bl false])) lb (.lst (List.replicate 15 (V.bl false))) lb = some (.lst (List.replicate 15 (V.bl false))) := upd_same
  have wb := ua.trans ub
  generalize upd (upd H14 la (.lst [.bl false])) lb (.lst (List.replicate 15 (V.bl false))) = H15 at ub eb wb ⊢
  refine ⟨(by show 1 ≤ sizeLine; decide), fun lc hlc => ?_⟩
  have uc := same_new hlc (.lst [.bl true])
  refine ⟨lb, lc, _, _, rfl, rfl, uc _ _ eb, upd_same, (by show 16 ≤ sizeLine; decide), fun ld hld => ?_⟩
  rw [show List.replicate 15 (V.bl false) ++ [V.bl true] = (bsB 15).map V.bl by decide +kernel]
  have ud := same_new hld (.lst ((bsB 15).map V.bl))
  have ed : upd (upd H15 lc (.lst [.bl true])) ld (.lst ((bsB 15).map V.bl)) ld = some (.lst ((bsB 15).map V.bl)) := upd_same
  have wd := wb.trans (uc.trans ud)
  generalize upd (upd H15 lc (.lst [.bl true])) ld (.lst ((bsB 15).map V.bl)) = H16 at ud ed wd ⊢
  refine ⟨l14, ld, 1, .lst ((bsB 15).map .bl), fun _ => True, fun _ => True, rfl, rfl, by decide, Says.lst True.intro (wd _ _ e14) (says_bls _), Says.lst True.intro ed (says_bls _), _, rfl, iteF ?_⟩
  have vB16 := vB.same (s14.trans wd)
  refine ⟨_, rfl, xB, cl 15, CE, _, rfl, vB16.exc, (so 15 (by decide)).ex, (so 15 (by decide)).ce, _, rfl, iteF ?_⟩
  obtain ⟨dB', tB', aB, bB⟩ := vB16
  refine ⟨_, rfl, xB, cl 15, tB', dB', _, _, rfl, aB, bB, LX.x15.ex, LX.x15.set, LX.x15.no, rfl, _, rfl, rfl, _, rfl, ?_⟩
  rw [decide_eq_true rfl]
  refine iteF ?_
  show tSeq _ _ _ _ H16
  -- refused: twice
  refine ⟨_, rfl, fun xa ea hxa hea hna => ⟨xa, ea, .str z, false, rfl, upd_same, .inl ⟨z, rfl, nameB_ok hz⟩, fun _ Ka sa => ⟨rfl, ?_⟩, fun e => absurd e (by rw [show nmV (.str z) = true from hz]; exact Bool.noConfusion)⟩⟩
  have va : Same H16 (upd Ka xa (.ins c.c1 ea (pf "both" (.str z) false))) := same_after hxa hea sa
  have qa : PAt c (upd Ka xa (.ins c.c1 ea (pf "both" (.str z) false))) xa ⟨1, z, false⟩ := ⟨ea, upd_same⟩
  generalize upd Ka xa (.ins c.c1 ea (pf "both" (.str z) false)) = Ka1 at va qa ⊢
  refine ⟨_, rfl, fun xb eb hxb heb hnb => ⟨xb, eb, .str z, true, rfl, upd_same, .inl ⟨z, rfl, nameB_ok hz⟩, fun _ Kb sb => ⟨rfl, ?_⟩, fun e => absurd e (by rw [show nmV (.str z) = true from hz]; exact Bool.noConfusion)⟩⟩
  have vb : Same Ka1 (upd Kb xb (.ins c.c1 eb (pf "both" (.str z) true))) := same_after hxb heb sb
  have qb : PAt c (upd Kb xb (.ins c.c1 eb (pf "both" (.str z) true))) xb ⟨1, z, true⟩ := ⟨eb, upd_same⟩
  generalize upd Kb xb (.ins c.c1 eb (pf "both" (.str z) true)) = Kb1 at vb qb ⊢
  refine ⟨(by show 2 ≤ sizeLine; decide), fun m1 hm1 => ?_⟩
  have w1 := same_new hm1 (.lst [.ref xa, .ref xb])
  have o1 : upd Kb1 m1 (.lst [.ref xa, .ref xb]) m1 = some (.lst ([xa, xb].map V.ref)) := upd_same
  generalize upd Kb1 m1 (.lst [.ref xa, .ref xb]) = L1 at w1 o1 ⊢
  refine ⟨(by show 0 ≤ sizeLine; decide), fun m2 hm2 => ?_⟩
  have w2 := same_new hm2 (.lst [])
  have o2 : upd L1 m2 (.lst []) m2 = some (.lst (([] : List Str).map V.str)) := upd_same
  generalize upd L1 m2 (.lst []) = L2' at w2 o2 ⊢
  have zr : ∀ k b, k < 5 → Rw.ok ⟨k, z, b⟩ := fun k b hk => ⟨hk, hz⟩
  refine ⟨m1, m2, [xa, xb], [⟨1, z, false⟩, ⟨1, z, true⟩], [], 3, rfl, w2 _ _ o1, .cons ((qa.same vb).same (w1.trans w2)) (.cons (qb.same (w1.trans w2)) .nil), ?_, (by show 2 ≤ 100; decide), o2, by decide, (fun _ h => by cases h), by decide, .inr ⟨(by show 2 ≤ 24; decide), .inr ⟨rfl, .inr ⟨(fun _ h => by cases h), ?_, rfl⟩⟩⟩, fun l1 N1 r1 g1 => ?_⟩
  · intro r hr
    rcases List.mem_cons.mp hr with rfl | hr
    · exact zr 1 false (by decide)
    · rw [List.mem_singleton.mp hr]; exact zr 1 true (by decide)
  · intro nd
    have : [z, z].Nodup := nd
    simp at this
  refine ⟨(by show 1 ≤ sizeLine; decide), fun m3 hm3 => ?_⟩
  have w3 := same_new hm3 (.lst [.int 3])
  refine ⟨l1, m3, 1, .lst [.int 3], fun _ => True, fun _ => True, rfl, rfl, by decide, Says.lst True.intro (w3 _ _ g1) (ints_says [3]), Says.lst True.intro upd_same (ints_says [3]), _, rfl, iteF ?_⟩
  generalize upd N1 m3 (.lst [.int 3]) = N2 at w3 ⊢
  -- refused: order
  refine ⟨_, rfl, fun xc ec hxc hec hnc => ⟨xc, ec, .str z, rfl, upd_same, .inl ⟨z, rfl, nameB_ok hz⟩, fun _ Kc sc => ⟨rfl, ?_⟩, fun e => absurd e (by rw [show nmV (.str z) = true from hz]; exact Bool.noConfusion)⟩⟩
  have vc : Same N2 (upd Kc xc (.ins c.c2 ec (pf "tail" (.str z) true))) := same_after hxc hec sc
  have qc : PAt c (upd Kc xc (.ins c.c2 ec (pf "tail" (.str z) true))) xc ⟨2, z, true⟩ := ⟨ec, upd_same⟩
  generalize upd Kc xc (.ins c.c2 ec (pf "tail" (.str z) true)) = Kc1 at vc qc ⊢
  refine ⟨_, rfl, fun xd ed hxd hed hnd => ⟨xd, ed, .str z, false, rfl, upd_same, .inl ⟨z, rfl, nameB_ok hz⟩, fun _ Kd sd => ⟨rfl, ?_⟩, fun e => absurd e (by rw [show nmV (.str z) = true from hz]; exact Bool.noConfusion)⟩⟩
  have vd : Same Kc1 (upd Kd xd (.ins c.c0 ed (pf "seat" (.str z) false))) := same_after hxd hed sd
  have qd : PAt c (upd Kd xd (.ins c.c0 ed (pf "seat" (.str z) false))) xd ⟨0, z, false⟩ := ⟨ed, upd_same⟩
  generalize upd Kd xd (.ins c.c0 ed (pf "seat" (.str z) false)) = Kd1 at vd qd ⊢
  refine ⟨(by show 2 ≤ sizeLine; decide), fun m4 hm4 => ?_⟩
  have w4 := same_new hm4 (.lst [.ref xc, .ref xd])
  have o4 : upd Kd1 m4 (.lst [.ref xc, .ref xd]) m4 = some (.lst ([xc, xd].map V.ref)) := upd_same
  generalize upd Kd1 m4 (.lst [.ref xc, .ref xd]) = L4 at w4 o4 ⊢
  refine ⟨(by show 0 ≤ sizeLine; decide), fun m5 hm5 => ?_⟩
  have w5 := same_new hm5 (.lst [])
  have o5 : upd L4 m5 (.lst []) m5 = some (.lst (([] : List Str).map V.str)) := upd_same
  generalize upd L4 m5 (.lst []) = L5 at w5 o5 ⊢
  refine ⟨m4, m5, [xc, xd], [⟨2, z, true⟩, ⟨0, z, false⟩], [], 2, rfl, w5 _ _ o4, .cons ((qc.same vd).same (w4.trans w5)) (.cons (qd.same (w4.trans w5)) .nil), ?_, (by show 2 ≤ 100; decide), o5, by decide, (fun _ h => by cases h), by decide, .inr ⟨(by show 2 ≤ 24; decide), .inl ⟨rfl, rfl⟩⟩, fun l2 N3 r2 g2' => ?_⟩
  · intro r hr
    rcases List.mem_cons.mp hr with rfl | hr
    · exact zr 2 true (by decide)
    · rw [List.mem_singleton.mp hr]; exact zr 0 false (by decide)
  refine ⟨(by show 1 ≤ sizeLine; decide), fun m6 hm6 => ?_⟩
  have w6 := same_new hm6 (.lst [.int 2])
  refine ⟨l2, m6, 1, .lst [.int 2], fun _ => True, fun _ => True, rfl, rfl, by decide, Says.lst True.intro (w6 _ _ g2') (ints_says [2]), Says.lst True.intro upd_same (ints_says [2]), _, rfl, iteF ?_⟩
  generalize upd N3 m6 (.lst [.int 2]) = N4 at w6 ⊢
  -- refused: many
  refine ⟨_, rfl, fun xf ef hxf hef hnf => ⟨xf, ef, .str z, false, rfl, upd_same, .inl ⟨z, rfl, nameB_ok hz⟩, fun _ Kf sf => ⟨rfl, ?_⟩, fun e => absurd e (by rw [show nmV (.str z) = true from hz]; exact Bool.noConfusion)⟩⟩
  have vf : Same N4 (upd Kf xf (.ins c.c0 ef (pf "seat" (.str z) false))) := same_after hxf hef sf
  have qf : PAt c (upd Kf xf (.ins c.c0 ef (pf "seat" (.str z) false))) xf ⟨0, z, false⟩ := ⟨ef, upd_same⟩
  generalize upd Kf xf (.ins c.c0 ef (pf "seat" (.str z) false)) = Kf1 at vf qf ⊢
  refine ⟨(by show 1 ≤ sizeLine; decide), fun m7 hm7 => ?_⟩
  have w7 := same_new hm7 (.lst [.ref xf])
  refine ⟨m7, 25, _, rfl, rfl, upd_same, by decide, by decide, (by show 25 ≤ sizeLine; decide), fun m8 hm8 => ?_⟩
  rw [show (List.replicate (Int.toNat 25) [V.ref xf]).flatten = (List.replicate 25 xf).map V.ref from rfl]
  have w8 := same_new hm8 (.lst ((List.replicate 25 xf).map V.ref))
  have o8 : upd (upd Kf1 m7 (.lst [.ref xf])) m8 (.lst ((List.replicate 25 xf).map V.ref)) m8 = some (.lst ((List.replicate 25 xf).map V.ref)) := upd_same
  have w78 := w7.trans w8
  generalize upd (upd Kf1 m7 (.lst [.ref xf])) m8 (.lst ((List.replicate 25 xf).map V.ref)) = L8 at w8 o8 w78 ⊢
  refine ⟨(by show 0 ≤ sizeLine; decide), fun m9 hm9 => ?_⟩
  have w9 := same_new hm9 (.lst [])
  have o9 : upd L8 m9 (.lst []) m9 = some (.lst (([] : List Str).map V.str)) := upd_same
  generalize upd L8 m9 (.lst []) = L9 at w9 o9 ⊢
  refine ⟨m8, m9, List.replicate 25 xf, List.replicate 25 ⟨0, z, false⟩, [], 1, rfl, w9 _ _ o8, paired_rep (qf.same (w78.trans w9)) 25, ?_, (by rw [List.length_replicate]; decide), o9, by decide, (fun _ h => by cases h), by decide, .inl ⟨(by rw [List.length_replicate]; decide), rfl⟩, fun l3 N5 r3 g3' => ?_⟩
  · intro r hr
    rw [List.eq_of_mem_replicate hr]
    exact zr 0 false (by decide)
  refine ⟨(by show 1 ≤ sizeLine; decide), fun m10 hm10 => ?_⟩
  have w10' := same_new hm10 (.lst [.int 1])
  refine ⟨l3, m10, 1, .lst [.int 1], fun _ => True, fun _ => True, rfl, rfl, by decide, Says.lst True.intro (w10' _ _ g3') (ints_says [1]), Says.lst True.intro upd_same (ints_says [1]), _, rfl, iteT ?_⟩
  generalize upd N5 m10 (.lst [.int 1]) = N6 at w10' ⊢
  -- refused: a bar that is no name
  refine ⟨(by show 0 ≤ sizeLine; decide), fun m11 hm11 => ?_⟩
  have w11 := same_new hm11 (.lst [])
  have o11 : upd N6 m11 (.lst []) m11 = some (.lst (([] : List Addr).map V.ref)) := upd_same
  generalize upd N6 m11 (.lst []) = L11 at w11 o11 ⊢
  obtain ⟨z1, z2, z3⟩ := nameB_iff.mp hz
  have lz : (z ++ ("abcdefgh" : Str)).length = z.length + 8 := app_len _ _
  refine ⟨_, rfl, _, _, rfl, rfl, (by have : (1000 : Nat) ≤ sizeLine := by decide
                                      show z.length + 8 ≤ sizeLine
                                      omega), ?_⟩
  refine ⟨(by show 1 ≤ sizeLine; decide), fun m12 hm12 => ?_⟩
  have w12 := same_new hm12 (.lst [.str (z ++ "abcdefgh")])
  have o12 : upd L11 m12 (.lst [.str (z ++ "abcdefgh")]) m12 = some (.lst ([z ++ ("abcdefgh" : Str)].map V.str)) := upd_same
  generalize upd L11 m12 (.lst [.str (z ++ "abcdefgh")]) = L12 at w12 o12 ⊢
  have bad : nameB (z ++ ("abcdefgh" : Str)) = false := by
    cases e : nameB (z ++ ("abcdefgh" : Str)) with
    | false => rfl
    | true =>
      have := (nameB_iff.mp e).2.1
      omega
  refine ⟨m11, m12, [], [], [z ++ ("abcdefgh" : Str)], 0, rfl, w12 _ _ o11, .nil, (fun _ h => by cases h), by decide, o12, (by show 1 ≤ 60; decide), ?_, by decide, .inr ⟨by decide, .inr ⟨rfl, .inl ⟨⟨_, List.mem_singleton.mpr rfl, bad⟩, rfl⟩⟩⟩, fun l4' N7 r4 g4' => ?_⟩
  · intro y hy
    rw [List.mem_singleton.mp hy]
    refine ⟨by omega, fun ch hch => ?_⟩
    rw [app_cps] at hch
    rcases List.mem_append.mp hch with hch | hch
    · have := z3 ch hch
      omega
    · have : ∀ ch ∈ ("abcdefgh" : Str).cps.toList, ch < 128 := by decide +kernel
      exact this ch hch
  refine ⟨(by show 1 ≤ sizeLine; decide), fun m13 hm13 => ?_⟩
  have w13 := same_new hm13 (.lst [.int 0])
  exact ⟨l4', m13, 1, .lst [.int 0], fun _ => True, fun _ => True, rfl, rfl, by decide, Says.lst True.intro (w13 _ _ g4') (ints_says [0]), Says.lst True.intro upd_same (ints_says [0]), q _⟩
-- end
end
end K15

set_option Elab.async false
def PySem.W.Fast.tw15784142403121302727 : Unit := ()
def PySem.W.Fast.tw926407715215057455 : Unit := ()
def PySem.W.Fast.tw10868452119873276083 : Unit := ()
def PySem.W.Fast.tw135375320812250029 : Unit := ()
def PySem.W.Fast.tw1726550201548759338 : Unit := ()
def PySem.W.Fast.tw2895324902102140196 : Unit := ()
def PySem.W.Fast.tw6057645963861975327 : Unit := ()
def PySem.W.Fast.tw10674423516636874333 : Unit := ()
def PySem.W.Fast.tw9365804181191079831 : Unit := ()
def PySem.W.Fast.tw11128269930487488432 : Unit := ()
def PySem.W.Fast.tw7451617222958393632 : Unit := ()
def PySem.W.Fast.tw981495030841276350 : Unit := ()
def PySem.W.Fast.tw5380347095699171261 : Unit := ()
def PySem.W.Fast.tw12546258724183733330 : Unit := ()
def PySem.W.Fast.tw3177762147390198821 : Unit := ()
def PySem.W.Fast.tw10167370614634218001 : Unit := ()
def PySem.W.Fast.tw11993492480368306287 : Unit := ()
def PySem.W.Fast.tw11863148309371749619 : Unit := ()
def PySem.W.Fast.tw5366145291083058125 : Unit := ()
def PySem.W.Fast.tw18190414808552527830 : Unit := ()
def PySem.W.Fast.tw14294141547413577441 : Unit := ()
def PySem.W.Fast.tw10026680213771113277 : Unit := ()
def PySem.W.Fast.tw11980096464413389533 : Unit := ()
def PySem.W.Fast.tw9471921068420250884 : Unit := ()
def PySem.W.Fast.tw1074425842872430938 : Unit := ()
def PySem.W.Fast.tw13261158450473595229 : Unit := ()
def PySem.W.Fast.tw6205625335990258810 : Unit := ()
def PySem.W.Fast.tw1825132041771409275 : Unit := ()
def PySem.W.Fast.tw18076810072195378502 : Unit := ()
def PySem.W.Fast.tw605694781831162594 : Unit := ()
def PySem.W.Fast.tw13995759177784561930 : Unit := ()
set_option linter.all false
set_option maxRecDepth 100000
set_option maxHeartbeats 4000000
namespace K15
open PySem L2 PyProof.Rows
theorem own_in {K : PySem.W.Frag} {h : Heap} {mg : Str → Option Value} {x : Str} {C : Addr} {bm : List Value} {nid : String} (X : K.In h) (G : h.Ns mainGlobals mg) (e : PySem.W.nsIn K mainGlobals x = some (some (.ref C))) (q : PySem.W.excIn K C bm nid = true) : OwnCls x C bm nid mg h := by
  have b : mg x = some (.ref C) := PySem.W.mg_of X G e
  refine ⟨b, ?_⟩
  simp only [PySem.W.excIn] at q
  split at q
  case h_2 => cases q
  rename_i dd cd sl ho
  obtain ⟨nm, bs, mro, ns, qn, hd, sn, sub, ab, col, del⟩ := cd
  obtain ⟨l⟩ := sl
  dsimp only at q
  split at q
  case h_2 => cases q
  rename_i C' m k0 k1 k2 k3 n k5
  simp only [Bool.and_eq_true, beq_iff_eq, Bool.not_eq_true'] at q
  obtain ⟨⟨⟨⟨⟨rfl, rfl⟩, rfl⟩, ht⟩, hok⟩, hni⟩ := q
  exact ⟨m, ns, nm, qn, bs, hd, sn, sub, ab, col, dd, k0, k1, k2, k3, k5, _, X _ _ ho, .of_isNs (PySem.W.isNs_of_in X hok), PySem.W.nsMap_none_of_in X hok hni, PySem.W.tail_of_in X ht⟩
theorem ktab_of {w : World} {K : PySem.W.Frag} {Gr : Addr} {es : Array DictEntry} {n : Nat} {t0 t1 t2 t3 t4 : Tok} (hl : K.lookup Gr = some ⟨.type "dict", none, .dict es n, #[]⟩) (hk : PySem.W.KeysLit w.params es.toList) (h0 : PySem.W.nsIn K Gr "seat" = some (some (.int 0 t0))) (h1 : PySem.W.nsIn K Gr "both" = some (some (.int 0 t1))) (h2 : PySem.W.nsIn K Gr "tail" = some (some (.int 1 t2)))
    (h3 : PySem.W.nsIn K Gr "tag" = some (some (.int 2 t3))) (h4 : PySem.W.nsIn K Gr "bag" = some (some (.int 3 t4))) : KTab w K Gr grpV := by
  refine ⟨⟨es, n, hl, hk⟩, fun x v h => ?_⟩
  unfold grpV at h
  by_cases e0 : x = "seat"
  · subst e0; rw [List.lookup_cons_self] at h; cases h; exact ⟨_, h0, _, rfl⟩
  rw [List.lookup_cons, beq_eq_false_iff_ne.mpr e0] at h
  by_cases e1 : x = "both"
  · subst e1; rw [List.lookup_cons_self] at h; cases h; exact ⟨_, h1, _, rfl⟩
  rw [List.lookup_cons, beq_eq_false_iff_ne.mpr e1] at h
  by_cases e2 : x = "tail"
  · subst e2; rw [List.lookup_cons_self] at h; cases h; exact ⟨_, h2, _, rfl⟩
  rw [List.lookup_cons, beq_eq_false_iff_ne.mpr e2] at h
  by_cases e3 : x = "tag"
  · subst e3; rw [List.lookup_cons_self] at h; cases h; exact ⟨_, h3, _, rfl⟩
  rw [List.lookup_cons, beq_eq_false_iff_ne.mpr e3] at h
  by_cases e4 : x = "bag"
  · subst e4; rw [List.lookup_cons_self] at h; cases h; exact ⟨_, h4, _, rfl⟩
  rw [List.lookup_cons, beq_eq_false_iff_ne.mpr e4] at h
  cases h
theorem all_mk {l : PySem.W.OpenLaw} {w : World} {K : PySem.W.Frag} {h : Heap} {mg : Str → Option Value} {fa D C0 C1 C2 FM f1 f2 f3 f4 f5 f6 f7 f8 f9 f10 f11 f12 f13 f14 f15 f16 f17 f18 f19 f20 f21 f22 f23 f24 f25 T8 T9 T11 : Addr} (X : K.In h) (G : h.Ns mainGlobals mg) (hfa : mg "law" = some (.ref fa))
    {od1 an1 od2 an2 od3 an3 od4 an4 od5 an5 od6 an6 od7 an7 od8 an8 od9 an9 od10 an10 od11 an11 od12 an12 od13 an13 od14 an14 od15 an15 od16 an16 od17 an17 od18 an18 od19 an19 od20 an20 od21 an21 od22 an22 od23 an23 od24 an24 od25 an25 odT8 odT9 odT11 : Option Addr} {sl1 sl2 sl3 sl4 sl5 sl6 sl7 sl8 sl9 sl10 sl11 sl12 sl13 sl14 sl15 sl16 sl17 sl18 sl19 sl20 sl21 sl22 sl23 sl24 sl25 slT8 slT9 slT11 : Array (Option Value)} {oc1 kV1 dc1 pm1 cd1 ct1 oc2 kV2 dc2 pm2 cd2 ct2 oc3 kV3 dc3 pm3 cd3 ct3 oc4 kV4 dc4 pm4 cd4 ct4 oc5 kV5 dc5 pm5 cd5 ct5 oc6 kV6 dc6 pm6 cd6 ct6 oc7 kV7 dc7 pm7 cd7 ct7 oc8 kV8 dc8 pm8 cd8 ct8 oc9 kV9 dc9 pm9 cd9 ct9 oc10 kV10 dc10 pm10 cd10 ct10 oc11 kV11 dc11 pm11 cd11 ct11 oc12 kV12 dc12 pm12 cd12 ct12 oc13 kV13 dc13 pm13 cd13 ct13 oc14 kV14 dc14 pm14 cd14 ct14 oc15 kV15 dc15 pm15 cd15 ct15 oc16 kV16 dc16 pm16 cd16 ct16 oc17 kV17 dc17 pm17 cd17 ct17 oc18 kV18 dc18 pm18 cd18 ct18 oc19 kV19 dc19 pm19 cd19 ct19 oc20 kV20 dc20 pm20 cd20 ct20 oc21 kV21 dc21 pm21 cd21 ct21 oc22 kV22 dc22 pm22 cd22 ct22 oc23 kV23 dc23 pm23 cd23 ct23 oc24 kV24 dc24 pm24 cd24 ct24 oc25 kV25 dc25 pm25 cd25 ct25 ocT8 ocT9 ocT11 : Value}
    {nT8 nT9 nT11 : Nat}
    {CE E0 E1 E2 E3 E4 E5 E6 E7 E8 E9 E10 E11 E12 E13 E14 E15 tP tB tO sg Gr : Addr} {tL tN tMP tMB ktP0 ktP1 ktB0 ktB1 ktO0 ktO1 ktO2 ksg0 ksg1 kG0 kG1 kG2 kG3 kG4 : Tok} {odtP odtB odtO odsg : Option Addr} {ntP ntB ntO nsg nG : Nat} {sltP sltB sltO slsg : Array (Option Value)} {esG : Array DictEntry}
    (aD : PySem.W.nsIn K mainGlobals "Parameter" = some (some (.ref D))) (pgD : PySem.W.plainGet K D Str.empty = true) (hdD : PySem.W.hasDictIn K D = true) (poD : PySem.W.plainOver K D = true) (saD : PySem.W.findIn K (.ref D) "__setattr__" = some (some (.builtin "object.__setattr__"))) (mkD : PySem.W.makesIn K D = true) (kcD : PySem.W.keepIn K (.ref D) = true)
    (aC0 : PySem.W.nsIn K mainGlobals "Seat" = some (some (.ref C0))) (pgC0 : PySem.W.plainGet K C0 Str.empty = true) (hdC0 : PySem.W.hasDictIn K C0 = true) (poC0 : PySem.W.plainOver K C0 = true) (saC0 : PySem.W.findIn K (.ref C0) "__setattr__" = some (some (.builtin "object.__setattr__"))) (mkC0 : PySem.W.makesIn K C0 = true) (kcC0 : PySem.W.keepIn K (.ref C0) = true)
    (nC0_word : PySem.W.findIn K (.ref C0) "word" = some none)
    (nC0_name : PySem.W.findIn K (.ref C0) "name" = some none)
    (nC0_may_lack : PySem.W.findIn K (.ref C0) "may_lack" = some none)
    (aC1 : PySem.W.nsIn K mainGlobals "Both" = some (some (.ref C1))) (pgC1 : PySem.W.plainGet K C1 Str.empty = true) (hdC1 : PySem.W.hasDictIn K C1 = true) (poC1 : PySem.W.plainOver K C1 = true) (saC1 : PySem.W.findIn K (.ref C1) "__setattr__" = some (some (.builtin "object.__setattr__"))) (mkC1 : PySem.W.makesIn K C1 = true) (kcC1 : PySem.W.keepIn K (.ref C1) = true)
    (nC1_word : PySem.W.findIn K (.ref C1) "word" = some none)
    (nC1_name : PySem.W.findIn K (.ref C1) "name" = some none)
    (nC1_may_lack : PySem.W.findIn K (.ref C1) "may_lack" = some none)
    (aC2 : PySem.W.nsIn K mainGlobals "Tail" = some (some (.ref C2))) (pgC2 : PySem.W.plainGet K C2 Str.empty = true) (hdC2 : PySem.W.hasDictIn K C2 = true) (poC2 : PySem.W.plainOver K C2 = true) (saC2 : PySem.W.findIn K (.ref C2) "__setattr__" = some (some (.builtin "object.__setattr__"))) (mkC2 : PySem.W.makesIn K C2 = true) (kcC2 : PySem.W.keepIn K (.ref C2) = true)
    (nC2_word : PySem.W.findIn K (.ref C2) "word" = some none)
    (nC2_name : PySem.W.findIn K (.ref C2) "name" = some none)
    (nC2_may_lack : PySem.W.findIn K (.ref C2) "may_lack" = some none)
    (aFM : PySem.W.nsIn K mainGlobals "Form" = some (some (.ref FM))) (pgFM : PySem.W.plainGet K FM Str.empty = true) (hdFM : PySem.W.hasDictIn K FM = true) (poFM : PySem.W.plainOver K FM = true) (saFM : PySem.W.findIn K (.ref FM) "__setattr__" = some (some (.builtin "object.__setattr__"))) (mkFM : PySem.W.makesIn K FM = true) (kcFM : PySem.W.keepIn K (.ref FM) = true)
    (a1 : PySem.W.nsIn K mainGlobals "is_name" = some (some (.ref f1)))
    (l1 : K.lookup f1 = some ⟨oc1, od1, .func (PySem.W.fnOf "is_name" "is_name" (defArgs sIs) (defBody sIs) (defScope sIs) .none kV1 dc1 pm1 an1 cd1 ct1), sl1⟩) (c1 : PySem.W.codeIn K cd1 "is_name" = true) (k1 : PySem.W.keepIn K (.ref f1) = true)
    (a2 : PySem.W.findIn K (.ref D) "__init__" = some (some (.ref f2))) (i2 : PySem.W.isFn K (.ref f2) = true)
    (l2 : K.lookup f2 = some ⟨oc2, od2, .func (PySem.W.fnOf "__init__" "Parameter.__init__" (defArgs sPInit) (defBody sPInit) (defScope sPInit) .none kV2 dc2 pm2 an2 cd2 ct2), sl2⟩) (c2 : PySem.W.codeIn K cd2 "Parameter.__init__" = true) (k2 : PySem.W.keepIn K (.ref f2) = true)
    (a3 : PySem.W.findIn K (.ref D) "free" = some (some (.ref f3))) (i3 : PySem.W.isFn K (.ref f3) = true)
    (l3 : K.lookup f3 = some ⟨oc3, od3, .func (PySem.W.fnOf "free" "Parameter.free" (defArgs sFree) (defBody sFree) (defScope sFree) .none kV3 dc3 pm3 an3 cd3 ct3), sl3⟩) (c3 : PySem.W.codeIn K cd3 "Parameter.free" = true) (k3 : PySem.W.keepIn K (.ref f3) = true)
    (a4 : PySem.W.findIn K (.ref D) "by_place" = some (some (.ref f4))) (i4 : PySem.W.isFn K (.ref f4) = true)
    (l4 : K.lookup f4 = some ⟨oc4, od4, .func (PySem.W.fnOf "by_place" "Parameter.by_place" (defArgs sByPlace) (defBody sByPlace) (defScope sByPlace) .none kV4 dc4 pm4 an4 cd4 ct4), sl4⟩) (c4 : PySem.W.codeIn K cd4 "Parameter.by_place" = true) (k4 : PySem.W.keepIn K (.ref f4) = true)
    (a5 : PySem.W.findIn K (.ref D) "by_name" = some (some (.ref f5))) (i5 : PySem.W.isFn K (.ref f5) = true)
    (l5 : K.lookup f5 = some ⟨oc5, od5, .func (PySem.W.fnOf "by_name" "Parameter.by_name" (defArgs sByName) (defBody sByName) (defScope sByName) .none kV5 dc5 pm5 an5 cd5 ct5), sl5⟩) (c5 : PySem.W.codeIn K cd5 "Parameter.by_name" = true) (k5 : PySem.W.keepIn K (.ref f5) = true)
    (a6 : PySem.W.findIn K (.ref D) "takes_one" = some (some (.ref f6))) (i6 : PySem.W.isFn K (.ref f6) = true)
    (l6 : K.lookup f6 = some ⟨oc6, od6, .func (PySem.W.fnOf "takes_one" "Parameter.takes_one" (defArgs sTakes) (defBody sTakes) (defScope sTakes) .none kV6 dc6 pm6 an6 cd6 ct6), sl6⟩) (c6 : PySem.W.codeIn K cd6 "Parameter.takes_one" = true) (k6 : PySem.W.keepIn K (.ref f6) = true)
    (a7 : PySem.W.findIn K (.ref D) "told" = some (some (.ref f7))) (i7 : PySem.W.isFn K (.ref f7) = true)
    (l7 : K.lookup f7 = some ⟨oc7, od7, .func (PySem.W.fnOf "told" "Parameter.told" (defArgs sTold) (defBody sTold) (defScope sTold) .none kV7 dc7 pm7 an7 cd7 ct7), sl7⟩) (c7 : PySem.W.codeIn K cd7 "Parameter.told" = true) (k7 : PySem.W.keepIn K (.ref f7) = true)
    (a8 : PySem.W.findIn K (.ref C0) "__init__" = some (some (.ref f8))) (i8 : PySem.W.isFn K (.ref f8) = true)
    (l8 : K.lookup f8 = some ⟨oc8, od8, .func (PySem.W.fnOf "__init__" "Seat.__init__" (defArgs sSeat) (defBody sSeat) (defScope sSeat) (.ref T8) kV8 dc8 pm8 an8 cd8 ct8), sl8⟩) (c8 : PySem.W.codeIn K cd8 "Seat.__init__" = true) (k8 : PySem.W.keepIn K (.ref f8) = true)
    (t8 : K.lookup T8 = some ⟨ocT8, odT8, .seq #[Value.bool false] nT8, slT8⟩)
    (a9 : PySem.W.findIn K (.ref C1) "__init__" = some (some (.ref f9))) (i9 : PySem.W.isFn K (.ref f9) = true)
    (l9 : K.lookup f9 = some ⟨oc9, od9, .func (PySem.W.fnOf "__init__" "Both.__init__" (defArgs sBoth) (defBody sBoth) (defScope sBoth) (.ref T9) kV9 dc9 pm9 an9 cd9 ct9), sl9⟩) (c9 : PySem.W.codeIn K cd9 "Both.__init__" = true) (k9 : PySem.W.keepIn K (.ref f9) = true)
    (t9 : K.lookup T9 = some ⟨ocT9, odT9, .seq #[Value.bool false] nT9, slT9⟩)
    (a10 : PySem.W.findIn K (.ref C2) "__init__" = some (some (.ref f10))) (i10 : PySem.W.isFn K (.ref f10) = true)
    (l10 : K.lookup f10 = some ⟨oc10, od10, .func (PySem.W.fnOf "__init__" "Tail.__init__" (defArgs sTail) (defBody sTail) (defScope sTail) .none kV10 dc10 pm10 an10 cd10 ct10), sl10⟩) (c10 : PySem.W.codeIn K cd10 "Tail.__init__" = true) (k10 : PySem.W.keepIn K (.ref f10) = true)
    (a11 : PySem.W.findIn K (.ref FM) "__init__" = some (some (.ref f11))) (i11 : PySem.W.isFn K (.ref f11) = true)
    (l11 : K.lookup f11 = some ⟨oc11, od11, .func (PySem.W.fnOf "__init__" "Form.__init__" (defArgs sFInit) (defBody sFInit) (defScope sFInit) (.ref T11) kV11 dc11 pm11 an11 cd11 ct11), sl11⟩) (c11 : PySem.W.codeIn K cd11 "Form.__init__" = true) (k11 : PySem.W.keepIn K (.ref f11) = true)
    (t11 : K.lookup T11 = some ⟨ocT11, odT11, .seq #[Value.none] nT11, slT11⟩)
    (a12 : PySem.W.findIn K (.ref E2) "__init__" = some (some (.ref f12))) (i12 : PySem.W.isFn K (.ref f12) = true)
    (l12 : K.lookup f12 = some ⟨oc12, od12, .func (PySem.W.fnOf "__init__" "BadOrder.__init__" (defArgs sXBad) (defBody sXBad) (defScope sXBad) .none kV12 dc12 pm12 an12 cd12 ct12), sl12⟩) (c12 : PySem.W.codeIn K cd12 "BadOrder.__init__" = true) (k12 : PySem.W.keepIn K (.ref f12) = true)
    (a13 : PySem.W.findIn K (.ref E3) "__init__" = some (some (.ref f13))) (i13 : PySem.W.isFn K (.ref f13) = true)
    (l13 : K.lookup f13 = some ⟨oc13, od13, .func (PySem.W.fnOf "__init__" "Twice.__init__" (defArgs sXTwice) (defBody sXTwice) (defScope sXTwice) .none kV13 dc13 pm13 an13 cd13 ct13), sl13⟩) (c13 : PySem.W.codeIn K cd13 "Twice.__init__" = true) (k13 : PySem.W.keepIn K (.ref f13) = true)
    (a14 : PySem.W.findIn K (.ref E5) "__init__" = some (some (.ref f14))) (i14 : PySem.W.isFn K (.ref f14) = true)
    (l14 : K.lookup f14 = some ⟨oc14, od14, .func (PySem.W.fnOf "__init__" "NoDefault.__init__" (defArgs sXNoDef) (defBody sXNoDef) (defScope sXNoDef) .none kV14 dc14 pm14 an14 cd14 ct14), sl14⟩) (c14 : PySem.W.codeIn K cd14 "NoDefault.__init__" = true) (k14 : PySem.W.keepIn K (.ref f14) = true)
    (a15 : PySem.W.findIn K (.ref E15) "__init__" = some (some (.ref f15))) (i15 : PySem.W.isFn K (.ref f15) = true)
    (l15 : K.lookup f15 = some ⟨oc15, od15, .func (PySem.W.fnOf "__init__" "Misfit.__init__" (defArgs sXMis) (defBody sXMis) (defScope sXMis) .none kV15 dc15 pm15 an15 cd15 ct15), sl15⟩) (c15 : PySem.W.codeIn K cd15 "Misfit.__init__" = true) (k15 : PySem.W.keepIn K (.ref f15) = true)
    (a16 : PySem.W.nsIn K mainGlobals "refuse_too_many" = some (some (.ref f16)))
    (l16 : K.lookup f16 = some ⟨oc16, od16, .func (PySem.W.fnOf "refuse_too_many" "refuse_too_many" (defArgs sRMany) (defBody sRMany) (defScope sRMany) .none kV16 dc16 pm16 an16 cd16 ct16), sl16⟩) (c16 : PySem.W.codeIn K cd16 "refuse_too_many" = true) (k16 : PySem.W.keepIn K (.ref f16) = true)
    (a17 : PySem.W.nsIn K mainGlobals "refuse_bad_order" = some (some (.ref f17)))
    (l17 : K.lookup f17 = some ⟨oc17, od17, .func (PySem.W.fnOf "refuse_bad_order" "refuse_bad_order" (defArgs sROrder) (defBody sROrder) (defScope sROrder) .none kV17 dc17 pm17 an17 cd17 ct17), sl17⟩) (c17 : PySem.W.codeIn K cd17 "refuse_bad_order" = true) (k17 : PySem.W.keepIn K (.ref f17) = true)
    (a18 : PySem.W.nsIn K mainGlobals "refuse_bars_without_name" = some (some (.ref f18)))
    (l18 : K.lookup f18 = some ⟨oc18, od18, .func (PySem.W.fnOf "refuse_bars_without_name" "refuse_bars_without_name" (defArgs sRBars) (defBody sRBars) (defScope sRBars) .none kV18 dc18 pm18 an18 cd18 ct18), sl18⟩) (c18 : PySem.W.codeIn K cd18 "refuse_bars_without_name" = true) (k18 : PySem.W.keepIn K (.ref f18) = true)
    (a19 : PySem.W.nsIn K mainGlobals "refuse_twice" = some (some (.ref f19)))
    (l19 : K.lookup f19 = some ⟨oc19, od19, .func (PySem.W.fnOf "refuse_twice" "refuse_twice" (defArgs sRTwice) (defBody sRTwice) (defScope sRTwice) .none kV19 dc19 pm19 an19 cd19 ct19), sl19⟩) (c19 : PySem.W.codeIn K cd19 "refuse_twice" = true) (k19 : PySem.W.keepIn K (.ref f19) = true)
    (a20 : PySem.W.nsIn K mainGlobals "_law_nth" = some (some (.ref f20)))
    (l20 : K.lookup f20 = some ⟨oc20, od20, .func (PySem.W.fnOf "_law_nth" "_law_nth" (defArgs sNth) (defBody sNth) (defScope sNth) .none kV20 dc20 pm20 an20 cd20 ct20), sl20⟩) (c20 : PySem.W.codeIn K cd20 "_law_nth" = true) (k20 : PySem.W.keepIn K (.ref f20) = true)
    (a21 : PySem.W.nsIn K mainGlobals "_law_called" = some (some (.ref f21)))
    (l21 : K.lookup f21 = some ⟨oc21, od21, .func (PySem.W.fnOf "_law_called" "_law_called" (defArgs sCalled) (defBody sCalled) (defScope sCalled) .none kV21 dc21 pm21 an21 cd21 ct21), sl21⟩) (c21 : PySem.W.codeIn K cd21 "_law_called" = true) (k21 : PySem.W.keepIn K (.ref f21) = true)
    (a22 : PySem.W.nsIn K mainGlobals "_law_sorts" = some (some (.ref f22)))
    (l22 : K.lookup f22 = some ⟨oc22, od22, .func (PySem.W.fnOf "_law_sorts" "_law_sorts" (defArgs sSorts) (defBody sSorts) (defScope sSorts) .none kV22 dc22 pm22 an22 cd22 ct22), sl22⟩) (c22 : PySem.W.codeIn K cd22 "_law_sorts" = true) (k22 : PySem.W.keepIn K (.ref f22) = true)
    (a23 : PySem.W.nsIn K mainGlobals "_law_is" = some (some (.ref f23)))
    (l23 : K.lookup f23 = some ⟨oc23, od23, .func (PySem.W.fnOf "_law_is" "_law_is" (defArgs sIsE) (defBody sIsE) (defScope sIsE) .none kV23 dc23 pm23 an23 cd23 ct23), sl23⟩) (c23 : PySem.W.codeIn K cd23 "_law_is" = true) (k23 : PySem.W.keepIn K (.ref f23) = true)
    (a24 : PySem.W.nsIn K mainGlobals "_law_refused" = some (some (.ref f24)))
    (l24 : K.lookup f24 = some ⟨oc24, od24, .func (PySem.W.fnOf "_law_refused" "_law_refused" (defArgs sRefused) (defBody sRefused) (defScope sRefused) .none kV24 dc24 pm24 an24 cd24 ct24), sl24⟩) (c24 : PySem.W.codeIn K cd24 "_law_refused" = true) (k24 : PySem.W.keepIn K (.ref f24) = true)
    (a25 : PySem.W.nsIn K mainGlobals "law" = some (some (.ref f25)))
    (l25 : K.lookup f25 = some ⟨oc25, od25, .func (PySem.W.fnOf "law" "law" (defArgs sLaw) (defBody sLaw) (defScope sLaw) .none kV25 dc25 pm25 an25 cd25 ct25), sl25⟩) (c25 : PySem.W.codeIn K cd25 "law" = true) (k25 : PySem.W.keepIn K (.ref f25) = true)
    (zisinstance : PySem.W.nsIn K mainGlobals "isinstance" = some none)
    (zstr : PySem.W.nsIn K mainGlobals "str" = some none)
    (zbool : PySem.W.nsIn K mainGlobals "bool" = some none)
    (zlen : PySem.W.nsIn K mainGlobals "len" = some none)
    (zall : PySem.W.nsIn K mainGlobals "all" = some none)
    (zrange : PySem.W.nsIn K mainGlobals "range" = some none)
    (zlist : PySem.W.nsIn K mainGlobals "list" = some none)
    (zenumerate : PySem.W.nsIn K mainGlobals "enumerate" = some none)
    (zset : PySem.W.nsIn K mainGlobals "set" = some none)
    (zValueError : PySem.W.nsIn K mainGlobals "ValueError" = some none)
    (gL : PySem.W.nsIn K mainGlobals "LETTERS" = some (some (.str letters tL)))
    (gN : PySem.W.nsIn K mainGlobals "LONGEST" = some (some (.int 8 tN)))
    (gMP : PySem.W.nsIn K mainGlobals "MOST_PARAMETERS" = some (some (.int 24 tMP)))
    (gMB : PySem.W.nsIn K mainGlobals "MOST_BARS" = some (some (.int 60 tMB)))
    (ytP : PySem.W.nsIn K mainGlobals "BY_PLACE" = some (some (.ref tP)))
    (utP : K.lookup tP = some ⟨.type "tuple", odtP, .seq #[.str "seat" ktP0, .str "both" ktP1] ntP, sltP⟩)
    (ytB : PySem.W.nsIn K mainGlobals "BY_NAME" = some (some (.ref tB)))
    (utB : K.lookup tB = some ⟨.type "tuple", odtB, .seq #[.str "both" ktB0, .str "tag" ktB1] ntB, sltB⟩)
    (ytO : PySem.W.nsIn K mainGlobals "OF_ONE_THING" = some (some (.ref tO)))
    (utO : K.lookup tO = some ⟨.type "tuple", odtO, .seq #[.str "seat" ktO0, .str "both" ktO1, .str "tag" ktO2] ntO, sltO⟩)
    (ysg : PySem.W.nsIn K mainGlobals "SINGLE_GROUPS" = some (some (.ref sg)))
    (usg : K.lookup sg = some ⟨.type "tuple", odsg, .seq #[.int 1 ksg0, .int 3 ksg1] nsg, slsg⟩)
    (yGr : PySem.W.nsIn K mainGlobals "GROUPS" = some (some (.ref Gr)))
    (lGr : K.lookup Gr = some ⟨.type "dict", none, .dict esG nG, #[]⟩)
    (kGr : PySem.W.KeysLit w.params esG.toList)
    (eG0 : PySem.W.nsIn K Gr "seat" = some (some (.int 0 kG0)))
    (eG1 : PySem.W.nsIn K Gr "both" = some (some (.int 0 kG1)))
    (eG2 : PySem.W.nsIn K Gr "tail" = some (some (.int 1 kG2)))
    (eG3 : PySem.W.nsIn K Gr "tag" = some (some (.int 2 kG3)))
    (eG4 : PySem.W.nsIn K Gr "bag" = some (some (.int 3 kG4)))
    (dga : PySem.W.specialIn K (.ref D) "__getattribute__" = some (some (.builtin "type.__getattribute__")))
    (drd : PySem.W.readsIn K D (.type "type") = true)
    (dfc : PySem.W.findCls K (.ref D) (.type "type") "__init__" = some (.val (.ref f2)))
    (h0_3 : PySem.W.findIn K (.ref C0) "free" = some (some (.ref f3)))
    (h0_4 : PySem.W.findIn K (.ref C0) "by_place" = some (some (.ref f4)))
    (h0_5 : PySem.W.findIn K (.ref C0) "by_name" = some (some (.ref f5)))
    (h0_6 : PySem.W.findIn K (.ref C0) "takes_one" = some (some (.ref f6)))
    (h0_7 : PySem.W.findIn K (.ref C0) "told" = some (some (.ref f7)))
    (h1_3 : PySem.W.findIn K (.ref C1) "free" = some (some (.ref f3)))
    (h1_4 : PySem.W.findIn K (.ref C1) "by_place" = some (some (.ref f4)))
    (h1_5 : PySem.W.findIn K (.ref C1) "by_name" = some (some (.ref f5)))
    (h1_6 : PySem.W.findIn K (.ref C1) "takes_one" = some (some (.ref f6)))
    (h1_7 : PySem.W.findIn K (.ref C1) "told" = some (some (.ref f7)))
    (h2_3 : PySem.W.findIn K (.ref C2) "free" = some (some (.ref f3)))
    (h2_4 : PySem.W.findIn K (.ref C2) "by_place" = some (some (.ref f4)))
    (h2_5 : PySem.W.findIn K (.ref C2) "by_name" = some (some (.ref f5)))
    (h2_6 : PySem.W.findIn K (.ref C2) "takes_one" = some (some (.ref f6)))
    (h2_7 : PySem.W.findIn K (.ref C2) "told" = some (some (.ref f7)))
    (yCE : PySem.W.nsIn K mainGlobals "CallError" = some (some (.ref CE)))
    (xgt : PySem.W.specialIn K (.builtin "object.__class__") "__get__" = some (some (.builtin "getset_descriptor.__get__")))
    (xtk : PySem.W.takesIn K (.builtin "object.__class__") = some true)
    (yE0 : PySem.W.nsIn K mainGlobals "NoName" = some (some (.ref E0)))
    (ec0 : (PySem.W.clsIn K E0).isSome = true)
    (ea0 : PySem.W.findIn K (.ref E0) "__getattribute__" = some (some (.builtin "BaseException.__getattribute__")))
    (en0 : PySem.W.findIn K (.ref E0) "__getattr__" = some none)
    (el0 : PySem.W.findIn K (.ref E0) "__class__" = some (some (.builtin "object.__class__")))
    (eb0 : PySem.W.mroIn K E0 (.type "BaseException") = some true)
    (eo0 : PySem.W.mroIn K E0 (.type "object") = some true)
    (xm0 : L2.xmIn K E0 = true)
    (ek0 : PySem.W.keepIn K (.ref E0) = true)
    (k0_0 : PySem.W.kitOne K (.ref E0) (.ref E0) = some true)
    (k0_1 : PySem.W.kitOne K (.ref E0) (.ref E1) = some false)
    (k0_2 : PySem.W.kitOne K (.ref E0) (.ref E2) = some false)
    (k0_3 : PySem.W.kitOne K (.ref E0) (.ref E3) = some false)
    (k0_4 : PySem.W.kitOne K (.ref E0) (.ref E4) = some false)
    (k0_5 : PySem.W.kitOne K (.ref E0) (.ref E5) = some false)
    (k0_6 : PySem.W.kitOne K (.ref E0) (.ref E6) = some false)
    (k0_7 : PySem.W.kitOne K (.ref E0) (.ref E7) = some false)
    (k0_8 : PySem.W.kitOne K (.ref E0) (.ref E8) = some false)
    (k0_9 : PySem.W.kitOne K (.ref E0) (.ref E9) = some false)
    (k0_10 : PySem.W.kitOne K (.ref E0) (.ref E10) = some false)
    (k0_11 : PySem.W.kitOne K (.ref E0) (.ref E11) = some false)
    (k0_12 : PySem.W.kitOne K (.ref E0) (.ref E12) = some false)
    (k0_13 : PySem.W.kitOne K (.ref E0) (.ref E13) = some false)
    (k0_14 : PySem.W.kitOne K (.ref E0) (.ref E14) = some false)
    (k0_15 : PySem.W.kitOne K (.ref E0) (.ref E15) = some false)
    (kc0 : PySem.W.kitOne K (.ref E0) (.ref CE) = some true)
    (kv0 : PySem.W.kitOne K (.ref E0) (.type "ValueError") = some true)
    (em0 : PySem.W.exmOne K (.ref E0) (.ref CE) = some true)
    (xo0 : PySem.W.excIn K E0 [.type "ValueError", .type "Exception", .type "BaseException", .type "object"] "ValueError.__new__" = true)
    (yE1 : PySem.W.nsIn K mainGlobals "TooMany" = some (some (.ref E1)))
    (ec1 : (PySem.W.clsIn K E1).isSome = true)
    (ea1 : PySem.W.findIn K (.ref E1) "__getattribute__" = some (some (.builtin "BaseException.__getattribute__")))
    (en1 : PySem.W.findIn K (.ref E1) "__getattr__" = some none)
    (el1 : PySem.W.findIn K (.ref E1) "__class__" = some (some (.builtin "object.__class__")))
    (eb1 : PySem.W.mroIn K E1 (.type "BaseException") = some true)
    (eo1 : PySem.W.mroIn K E1 (.type "object") = some true)
    (xm1 : L2.xmIn K E1 = true)
    (ek1 : PySem.W.keepIn K (.ref E1) = true)
    (k1_0 : PySem.W.kitOne K (.ref E1) (.ref E0) = some false)
    (k1_1 : PySem.W.kitOne K (.ref E1) (.ref E1) = some true)
    (k1_2 : PySem.W.kitOne K (.ref E1) (.ref E2) = some false)
    (k1_3 : PySem.W.kitOne K (.ref E1) (.ref E3) = some false)
    (k1_4 : PySem.W.kitOne K (.ref E1) (.ref E4) = some false)
    (k1_5 : PySem.W.kitOne K (.ref E1) (.ref E5) = some false)
    (k1_6 : PySem.W.kitOne K (.ref E1) (.ref E6) = some false)
    (k1_7 : PySem.W.kitOne K (.ref E1) (.ref E7) = some false)
    (k1_8 : PySem.W.kitOne K (.ref E1) (.ref E8) = some false)
    (k1_9 : PySem.W.kitOne K (.ref E1) (.ref E9) = some false)
    (k1_10 : PySem.W.kitOne K (.ref E1) (.ref E10) = some false)
    (k1_11 : PySem.W.kitOne K (.ref E1) (.ref E11) = some false)
    (k1_12 : PySem.W.kitOne K (.ref E1) (.ref E12) = some false)
    (k1_13 : PySem.W.kitOne K (.ref E1) (.ref E13) = some false)
    (k1_14 : PySem.W.kitOne K (.ref E1) (.ref E14) = some false)
    (k1_15 : PySem.W.kitOne K (.ref E1) (.ref E15) = some false)
    (kc1 : PySem.W.kitOne K (.ref E1) (.ref CE) = some true)
    (kv1 : PySem.W.kitOne K (.ref E1) (.type "ValueError") = some true)
    (em1 : PySem.W.exmOne K (.ref E1) (.ref CE) = some true)
    (xo1 : PySem.W.excIn K E1 [.type "ValueError", .type "Exception", .type "BaseException", .type "object"] "ValueError.__new__" = true)
    (yE2 : PySem.W.nsIn K mainGlobals "BadOrder" = some (some (.ref E2)))
    (ec2 : (PySem.W.clsIn K E2).isSome = true)
    (ea2 : PySem.W.findIn K (.ref E2) "__getattribute__" = some (some (.builtin "BaseException.__getattribute__")))
    (en2 : PySem.W.findIn K (.ref E2) "__getattr__" = some none)
    (el2 : PySem.W.findIn K (.ref E2) "__class__" = some (some (.builtin "object.__class__")))
    (eb2 : PySem.W.mroIn K E2 (.type "BaseException") = some true)
    (eo2 : PySem.W.mroIn K E2 (.type "object") = some true)
    (xm2 : L2.xmIn K E2 = true)
    (ek2 : PySem.W.keepIn K (.ref E2) = true)
    (k2_0 : PySem.W.kitOne K (.ref E2) (.ref E0) = some false)
    (k2_1 : PySem.W.kitOne K (.ref E2) (.ref E1) = some false)
    (k2_2 : PySem.W.kitOne K (.ref E2) (.ref E2) = some true)
    (k2_3 : PySem.W.kitOne K (.ref E2) (.ref E3) = some false)
    (k2_4 : PySem.W.kitOne K (.ref E2) (.ref E4) = some false)
    (k2_5 : PySem.W.kitOne K (.ref E2) (.ref E5) = some false)
    (k2_6 : PySem.W.kitOne K (.ref E2) (.ref E6) = some false)
    (k2_7 : PySem.W.kitOne K (.ref E2) (.ref E7) = some false)
    (k2_8 : PySem.W.kitOne K (.ref E2) (.ref E8) = some false)
    (k2_9 : PySem.W.kitOne K (.ref E2) (.ref E9) = some false)
    (k2_10 : PySem.W.kitOne K (.ref E2) (.ref E10) = some false)
    (k2_11 : PySem.W.kitOne K (.ref E2) (.ref E11) = some false)
    (k2_12 : PySem.W.kitOne K (.ref E2) (.ref E12) = some false)
    (k2_13 : PySem.W.kitOne K (.ref E2) (.ref E13) = some false)
    (k2_14 : PySem.W.kitOne K (.ref E2) (.ref E14) = some false)
    (k2_15 : PySem.W.kitOne K (.ref E2) (.ref E15) = some false)
    (kc2 : PySem.W.kitOne K (.ref E2) (.ref CE) = some true)
    (kv2 : PySem.W.kitOne K (.ref E2) (.type "ValueError") = some true)
    (em2 : PySem.W.exmOne K (.ref E2) (.ref CE) = some true)
    (es2 : PySem.W.specialIn K (.ref E2) "__call__" = some (some (.builtin "type.__call__")))
    (et2 : PySem.W.instIn K (.ref E2) (.type "type") = some true)
    (xt2 : L2.xtIn K E2 = true)
    (ef2 : PySem.W.findIn K (.ref E2) "__setattr__" = some (some (.builtin "object.__setattr__")))
    (eq2 : PySem.W.findIn K (.ref E2) "at" = some none)
    (yE3 : PySem.W.nsIn K mainGlobals "Twice" = some (some (.ref E3)))
    (ec3 : (PySem.W.clsIn K E3).isSome = true)
    (ea3 : PySem.W.findIn K (.ref E3) "__getattribute__" = some (some (.builtin "BaseException.__getattribute__")))
    (en3 : PySem.W.findIn K (.ref E3) "__getattr__" = some none)
    (el3 : PySem.W.findIn K (.ref E3) "__class__" = some (some (.builtin "object.__class__")))
    (eb3 : PySem.W.mroIn K E3 (.type "BaseException") = some true)
    (eo3 : PySem.W.mroIn K E3 (.type "object") = some true)
    (xm3 : L2.xmIn K E3 = true)
    (ek3 : PySem.W.keepIn K (.ref E3) = true)
    (k3_0 : PySem.W.kitOne K (.ref E3) (.ref E0) = some false)
    (k3_1 : PySem.W.kitOne K (.ref E3) (.ref E1) = some false)
    (k3_2 : PySem.W.kitOne K (.ref E3) (.ref E2) = some false)
    (k3_3 : PySem.W.kitOne K (.ref E3) (.ref E3) = some true)
    (k3_4 : PySem.W.kitOne K (.ref E3) (.ref E4) = some false)
    (k3_5 : PySem.W.kitOne K (.ref E3) (.ref E5) = some false)
    (k3_6 : PySem.W.kitOne K (.ref E3) (.ref E6) = some false)
    (k3_7 : PySem.W.kitOne K (.ref E3) (.ref E7) = some false)
    (k3_8 : PySem.W.kitOne K (.ref E3) (.ref E8) = some false)
    (k3_9 : PySem.W.kitOne K (.ref E3) (.ref E9) = some false)
    (k3_10 : PySem.W.kitOne K (.ref E3) (.ref E10) = some false)
    (k3_11 : PySem.W.kitOne K (.ref E3) (.ref E11) = some false)
    (k3_12 : PySem.W.kitOne K (.ref E3) (.ref E12) = some false)
    (k3_13 : PySem.W.kitOne K (.ref E3) (.ref E13) = some false)
    (k3_14 : PySem.W.kitOne K (.ref E3) (.ref E14) = some false)
    (k3_15 : PySem.W.kitOne K (.ref E3) (.ref E15) = some false)
    (kc3 : PySem.W.kitOne K (.ref E3) (.ref CE) = some true)
    (kv3 : PySem.W.kitOne K (.ref E3) (.type "ValueError") = some true)
    (em3 : PySem.W.exmOne K (.ref E3) (.ref CE) = some true)
    (es3 : PySem.W.specialIn K (.ref E3) "__call__" = some (some (.builtin "type.__call__")))
    (et3 : PySem.W.instIn K (.ref E3) (.type "type") = some true)
    (xt3 : L2.xtIn K E3 = true)
    (ef3 : PySem.W.findIn K (.ref E3) "__setattr__" = some (some (.builtin "object.__setattr__")))
    (eq3 : PySem.W.findIn K (.ref E3) "name" = some none)
    (yE4 : PySem.W.nsIn K mainGlobals "NoChange" = some (some (.ref E4)))
    (ec4 : (PySem.W.clsIn K E4).isSome = true)
    (ea4 : PySem.W.findIn K (.ref E4) "__getattribute__" = some (some (.builtin "BaseException.__getattribute__")))
    (en4 : PySem.W.findIn K (.ref E4) "__getattr__" = some none)
    (el4 : PySem.W.findIn K (.ref E4) "__class__" = some (some (.builtin "object.__class__")))
    (eb4 : PySem.W.mroIn K E4 (.type "BaseException") = some true)
    (eo4 : PySem.W.mroIn K E4 (.type "object") = some true)
    (xm4 : L2.xmIn K E4 = true)
    (ek4 : PySem.W.keepIn K (.ref E4) = true)
    (k4_0 : PySem.W.kitOne K (.ref E4) (.ref E0) = some false)
    (k4_1 : PySem.W.kitOne K (.ref E4) (.ref E1) = some false)
    (k4_2 : PySem.W.kitOne K (.ref E4) (.ref E2) = some false)
    (k4_3 : PySem.W.kitOne K (.ref E4) (.ref E3) = some false)
    (k4_4 : PySem.W.kitOne K (.ref E4) (.ref E4) = some true)
    (k4_5 : PySem.W.kitOne K (.ref E4) (.ref E5) = some false)
    (k4_6 : PySem.W.kitOne K (.ref E4) (.ref E6) = some false)
    (k4_7 : PySem.W.kitOne K (.ref E4) (.ref E7) = some false)
    (k4_8 : PySem.W.kitOne K (.ref E4) (.ref E8) = some false)
    (k4_9 : PySem.W.kitOne K (.ref E4) (.ref E9) = some false)
    (k4_10 : PySem.W.kitOne K (.ref E4) (.ref E10) = some false)
    (k4_11 : PySem.W.kitOne K (.ref E4) (.ref E11) = some false)
    (k4_12 : PySem.W.kitOne K (.ref E4) (.ref E12) = some false)
    (k4_13 : PySem.W.kitOne K (.ref E4) (.ref E13) = some false)
    (k4_14 : PySem.W.kitOne K (.ref E4) (.ref E14) = some false)
    (k4_15 : PySem.W.kitOne K (.ref E4) (.ref E15) = some false)
    (kc4 : PySem.W.kitOne K (.ref E4) (.ref CE) = some true)
    (kv4 : PySem.W.kitOne K (.ref E4) (.type "ValueError") = some true)
    (xo4 : PySem.W.excIn K E4 [.type "ValueError", .type "Exception", .type "BaseException", .type "object"] "ValueError.__new__" = true)
    (yE5 : PySem.W.nsIn K mainGlobals "NoDefault" = some (some (.ref E5)))
    (ec5 : (PySem.W.clsIn K E5).isSome = true)
    (ea5 : PySem.W.findIn K (.ref E5) "__getattribute__" = some (some (.builtin "BaseException.__getattribute__")))
    (en5 : PySem.W.findIn K (.ref E5) "__getattr__" = some none)
    (el5 : PySem.W.findIn K (.ref E5) "__class__" = some (some (.builtin "object.__class__")))
    (eb5 : PySem.W.mroIn K E5 (.type "BaseException") = some true)
    (eo5 : PySem.W.mroIn K E5 (.type "object") = some true)
    (xm5 : L2.xmIn K E5 = true)
    (ek5 : PySem.W.keepIn K (.ref E5) = true)
    (k5_0 : PySem.W.kitOne K (.ref E5) (.ref E0) = some false)
    (k5_1 : PySem.W.kitOne K (.ref E5) (.ref E1) = some false)
    (k5_2 : PySem.W.kitOne K (.ref E5) (.ref E2) = some false)
    (k5_3 : PySem.W.kitOne K (.ref E5) (.ref E3) = some false)
    (k5_4 : PySem.W.kitOne K (.ref E5) (.ref E4) = some false)
    (k5_5 : PySem.W.kitOne K (.ref E5) (.ref E5) = some true)
    (k5_6 : PySem.W.kitOne K (.ref E5) (.ref E6) = some false)
    (k5_7 : PySem.W.kitOne K (.ref E5) (.ref E7) = some false)
    (k5_8 : PySem.W.kitOne K (.ref E5) (.ref E8) = some false)
    (k5_9 : PySem.W.kitOne K (.ref E5) (.ref E9) = some false)
    (k5_10 : PySem.W.kitOne K (.ref E5) (.ref E10) = some false)
    (k5_11 : PySem.W.kitOne K (.ref E5) (.ref E11) = some false)
    (k5_12 : PySem.W.kitOne K (.ref E5) (.ref E12) = some false)
    (k5_13 : PySem.W.kitOne K (.ref E5) (.ref E13) = some false)
    (k5_14 : PySem.W.kitOne K (.ref E5) (.ref E14) = some false)
    (k5_15 : PySem.W.kitOne K (.ref E5) (.ref E15) = some false)
    (kc5 : PySem.W.kitOne K (.ref E5) (.ref CE) = some true)
    (kv5 : PySem.W.kitOne K (.ref E5) (.type "ValueError") = some true)
    (es5 : PySem.W.specialIn K (.ref E5) "__call__" = some (some (.builtin "type.__call__")))
    (et5 : PySem.W.instIn K (.ref E5) (.type "type") = some true)
    (xt5 : L2.xtIn K E5 = true)
    (ef5 : PySem.W.findIn K (.ref E5) "__setattr__" = some (some (.builtin "object.__setattr__")))
    (eq5 : PySem.W.findIn K (.ref E5) "number" = some none)
    (yE6 : PySem.W.nsIn K mainGlobals "NoText" = some (some (.ref E6)))
    (ec6 : (PySem.W.clsIn K E6).isSome = true)
    (ea6 : PySem.W.findIn K (.ref E6) "__getattribute__" = some (some (.builtin "BaseException.__getattribute__")))
    (en6 : PySem.W.findIn K (.ref E6) "__getattr__" = some none)
    (el6 : PySem.W.findIn K (.ref E6) "__class__" = some (some (.builtin "object.__class__")))
    (eb6 : PySem.W.mroIn K E6 (.type "BaseException") = some true)
    (eo6 : PySem.W.mroIn K E6 (.type "object") = some true)
    (xm6 : L2.xmIn K E6 = true)
    (ek6 : PySem.W.keepIn K (.ref E6) = true)
    (k6_0 : PySem.W.kitOne K (.ref E6) (.ref E0) = some false)
    (k6_1 : PySem.W.kitOne K (.ref E6) (.ref E1) = some false)
    (k6_2 : PySem.W.kitOne K (.ref E6) (.ref E2) = some false)
    (k6_3 : PySem.W.kitOne K (.ref E6) (.ref E3) = some false)
    (k6_4 : PySem.W.kitOne K (.ref E6) (.ref E4) = some false)
    (k6_5 : PySem.W.kitOne K (.ref E6) (.ref E5) = some false)
    (k6_6 : PySem.W.kitOne K (.ref E6) (.ref E6) = some true)
    (k6_7 : PySem.W.kitOne K (.ref E6) (.ref E7) = some false)
    (k6_8 : PySem.W.kitOne K (.ref E6) (.ref E8) = some false)
    (k6_9 : PySem.W.kitOne K (.ref E6) (.ref E9) = some false)
    (k6_10 : PySem.W.kitOne K (.ref E6) (.ref E10) = some false)
    (k6_11 : PySem.W.kitOne K (.ref E6) (.ref E11) = some false)
    (k6_12 : PySem.W.kitOne K (.ref E6) (.ref E12) = some false)
    (k6_13 : PySem.W.kitOne K (.ref E6) (.ref E13) = some false)
    (k6_14 : PySem.W.kitOne K (.ref E6) (.ref E14) = some false)
    (k6_15 : PySem.W.kitOne K (.ref E6) (.ref E15) = some false)
    (kc6 : PySem.W.kitOne K (.ref E6) (.ref CE) = some true)
    (kv6 : PySem.W.kitOne K (.ref E6) (.type "ValueError") = some true)
    (xo6 : PySem.W.excIn K E6 [.type "ValueError", .type "Exception", .type "BaseException", .type "object"] "ValueError.__new__" = true)
    (yE7 : PySem.W.nsIn K mainGlobals "NoRow" = some (some (.ref E7)))
    (ec7 : (PySem.W.clsIn K E7).isSome = true)
    (ea7 : PySem.W.findIn K (.ref E7) "__getattribute__" = some (some (.builtin "BaseException.__getattribute__")))
    (en7 : PySem.W.findIn K (.ref E7) "__getattr__" = some none)
    (el7 : PySem.W.findIn K (.ref E7) "__class__" = some (some (.builtin "object.__class__")))
    (eb7 : PySem.W.mroIn K E7 (.type "BaseException") = some true)
    (eo7 : PySem.W.mroIn K E7 (.type "object") = some true)
    (xm7 : L2.xmIn K E7 = true)
    (ek7 : PySem.W.keepIn K (.ref E7) = true)
    (k7_0 : PySem.W.kitOne K (.ref E7) (.ref E0) = some false)
    (k7_1 : PySem.W.kitOne K (.ref E7) (.ref E1) = some false)
    (k7_2 : PySem.W.kitOne K (.ref E7) (.ref E2) = some false)
    (k7_3 : PySem.W.kitOne K (.ref E7) (.ref E3) = some false)
    (k7_4 : PySem.W.kitOne K (.ref E7) (.ref E4) = some false)
    (k7_5 : PySem.W.kitOne K (.ref E7) (.ref E5) = some false)
    (k7_6 : PySem.W.kitOne K (.ref E7) (.ref E6) = some false)
    (k7_7 : PySem.W.kitOne K (.ref E7) (.ref E7) = some true)
    (k7_8 : PySem.W.kitOne K (.ref E7) (.ref E8) = some false)
    (k7_9 : PySem.W.kitOne K (.ref E7) (.ref E9) = some false)
    (k7_10 : PySem.W.kitOne K (.ref E7) (.ref E10) = some false)
    (k7_11 : PySem.W.kitOne K (.ref E7) (.ref E11) = some false)
    (k7_12 : PySem.W.kitOne K (.ref E7) (.ref E12) = some false)
    (k7_13 : PySem.W.kitOne K (.ref E7) (.ref E13) = some false)
    (k7_14 : PySem.W.kitOne K (.ref E7) (.ref E14) = some false)
    (k7_15 : PySem.W.kitOne K (.ref E7) (.ref E15) = some false)
    (kc7 : PySem.W.kitOne K (.ref E7) (.ref CE) = some true)
    (kv7 : PySem.W.kitOne K (.ref E7) (.type "ValueError") = some true)
    (xo7 : PySem.W.excIn K E7 [.type "ValueError", .type "Exception", .type "BaseException", .type "object"] "ValueError.__new__" = true)
    (yE8 : PySem.W.nsIn K mainGlobals "Unknown" = some (some (.ref E8)))
    (ec8 : (PySem.W.clsIn K E8).isSome = true)
    (ea8 : PySem.W.findIn K (.ref E8) "__getattribute__" = some (some (.builtin "BaseException.__getattribute__")))
    (en8 : PySem.W.findIn K (.ref E8) "__getattr__" = some none)
    (el8 : PySem.W.findIn K (.ref E8) "__class__" = some (some (.builtin "object.__class__")))
    (eb8 : PySem.W.mroIn K E8 (.type "BaseException") = some true)
    (eo8 : PySem.W.mroIn K E8 (.type "object") = some true)
    (xm8 : L2.xmIn K E8 = true)
    (ek8 : PySem.W.keepIn K (.ref E8) = true)
    (k8_0 : PySem.W.kitOne K (.ref E8) (.ref E0) = some false)
    (k8_1 : PySem.W.kitOne K (.ref E8) (.ref E1) = some false)
    (k8_2 : PySem.W.kitOne K (.ref E8) (.ref E2) = some false)
    (k8_3 : PySem.W.kitOne K (.ref E8) (.ref E3) = some false)
    (k8_4 : PySem.W.kitOne K (.ref E8) (.ref E4) = some false)
    (k8_5 : PySem.W.kitOne K (.ref E8) (.ref E5) = some false)
    (k8_6 : PySem.W.kitOne K (.ref E8) (.ref E6) = some false)
    (k8_7 : PySem.W.kitOne K (.ref E8) (.ref E7) = some false)
    (k8_8 : PySem.W.kitOne K (.ref E8) (.ref E8) = some true)
    (k8_9 : PySem.W.kitOne K (.ref E8) (.ref E9) = some false)
    (k8_10 : PySem.W.kitOne K (.ref E8) (.ref E10) = some false)
    (k8_11 : PySem.W.kitOne K (.ref E8) (.ref E11) = some false)
    (k8_12 : PySem.W.kitOne K (.ref E8) (.ref E12) = some false)
    (k8_13 : PySem.W.kitOne K (.ref E8) (.ref E13) = some false)
    (k8_14 : PySem.W.kitOne K (.ref E8) (.ref E14) = some false)
    (k8_15 : PySem.W.kitOne K (.ref E8) (.ref E15) = some false)
    (kc8 : PySem.W.kitOne K (.ref E8) (.ref CE) = some true)
    (kv8 : PySem.W.kitOne K (.ref E8) (.type "ValueError") = some true)
    (xo8 : PySem.W.excIn K E8 [.type "ValueError", .type "Exception", .type "BaseException", .type "object"] "ValueError.__new__" = true)
    (yE9 : PySem.W.nsIn K mainGlobals "Doubled" = some (some (.ref E9)))
    (ec9 : (PySem.W.clsIn K E9).isSome = true)
    (ea9 : PySem.W.findIn K (.ref E9) "__getattribute__" = some (some (.builtin "BaseException.__getattribute__")))
    (en9 : PySem.W.findIn K (.ref E9) "__getattr__" = some none)
    (el9 : PySem.W.findIn K (.ref E9) "__class__" = some (some (.builtin "object.__class__")))
    (eb9 : PySem.W.mroIn K E9 (.type "BaseException") = some true)
    (eo9 : PySem.W.mroIn K E9 (.type "object") = some true)
    (xm9 : L2.xmIn K E9 = true)
    (ek9 : PySem.W.keepIn K (.ref E9) = true)
    (k9_0 : PySem.W.kitOne K (.ref E9) (.ref E0) = some false)
    (k9_1 : PySem.W.kitOne K (.ref E9) (.ref E1) = some false)
    (k9_2 : PySem.W.kitOne K (.ref E9) (.ref E2) = some false)
    (k9_3 : PySem.W.kitOne K (.ref E9) (.ref E3) = some false)
    (k9_4 : PySem.W.kitOne K (.ref E9) (.ref E4) = some false)
    (k9_5 : PySem.W.kitOne K (.ref E9) (.ref E5) = some false)
    (k9_6 : PySem.W.kitOne K (.ref E9) (.ref E6) = some false)
    (k9_7 : PySem.W.kitOne K (.ref E9) (.ref E7) = some false)
    (k9_8 : PySem.W.kitOne K (.ref E9) (.ref E8) = some false)
    (k9_9 : PySem.W.kitOne K (.ref E9) (.ref E9) = some true)
    (k9_10 : PySem.W.kitOne K (.ref E9) (.ref E10) = some false)
    (k9_11 : PySem.W.kitOne K (.ref E9) (.ref E11) = some false)
    (k9_12 : PySem.W.kitOne K (.ref E9) (.ref E12) = some false)
    (k9_13 : PySem.W.kitOne K (.ref E9) (.ref E13) = some false)
    (k9_14 : PySem.W.kitOne K (.ref E9) (.ref E14) = some false)
    (k9_15 : PySem.W.kitOne K (.ref E9) (.ref E15) = some true)
    (kc9 : PySem.W.kitOne K (.ref E9) (.ref CE) = some true)
    (kv9 : PySem.W.kitOne K (.ref E9) (.type "ValueError") = some true)
    (ei9 : PySem.W.findIn K (.ref E9) "__init__" = some (some (.ref f15)))
    (es9 : PySem.W.specialIn K (.ref E9) "__call__" = some (some (.builtin "type.__call__")))
    (et9 : PySem.W.instIn K (.ref E9) (.type "type") = some true)
    (xt9 : L2.xtIn K E9 = true)
    (ef9 : PySem.W.findIn K (.ref E9) "__setattr__" = some (some (.builtin "object.__setattr__")))
    (eq9 : PySem.W.findIn K (.ref E9) "number" = some none)
    (yE10 : PySem.W.nsIn K mainGlobals "Over" = some (some (.ref E10)))
    (ec10 : (PySem.W.clsIn K E10).isSome = true)
    (ea10 : PySem.W.findIn K (.ref E10) "__getattribute__" = some (some (.builtin "BaseException.__getattribute__")))
    (en10 : PySem.W.findIn K (.ref E10) "__getattr__" = some none)
    (el10 : PySem.W.findIn K (.ref E10) "__class__" = some (some (.builtin "object.__class__")))
    (eb10 : PySem.W.mroIn K E10 (.type "BaseException") = some true)
    (eo10 : PySem.W.mroIn K E10 (.type "object") = some true)
    (xm10 : L2.xmIn K E10 = true)
    (ek10 : PySem.W.keepIn K (.ref E10) = true)
    (k10_0 : PySem.W.kitOne K (.ref E10) (.ref E0) = some false)
    (k10_1 : PySem.W.kitOne K (.ref E10) (.ref E1) = some false)
    (k10_2 : PySem.W.kitOne K (.ref E10) (.ref E2) = some false)
    (k10_3 : PySem.W.kitOne K (.ref E10) (.ref E3) = some false)
    (k10_4 : PySem.W.kitOne K (.ref E10) (.ref E4) = some false)
    (k10_5 : PySem.W.kitOne K (.ref E10) (.ref E5) = some false)
    (k10_6 : PySem.W.kitOne K (.ref E10) (.ref E6) = some false)
    (k10_7 : PySem.W.kitOne K (.ref E10) (.ref E7) = some false)
    (k10_8 : PySem.W.kitOne K (.ref E10) (.ref E8) = some false)
    (k10_9 : PySem.W.kitOne K (.ref E10) (.ref E9) = some false)
    (k10_10 : PySem.W.kitOne K (.ref E10) (.ref E10) = some true)
    (k10_11 : PySem.W.kitOne K (.ref E10) (.ref E11) = some false)
    (k10_12 : PySem.W.kitOne K (.ref E10) (.ref E12) = some false)
    (k10_13 : PySem.W.kitOne K (.ref E10) (.ref E13) = some false)
    (k10_14 : PySem.W.kitOne K (.ref E10) (.ref E14) = some false)
    (k10_15 : PySem.W.kitOne K (.ref E10) (.ref E15) = some true)
    (kc10 : PySem.W.kitOne K (.ref E10) (.ref CE) = some true)
    (kv10 : PySem.W.kitOne K (.ref E10) (.type "ValueError") = some true)
    (ei10 : PySem.W.findIn K (.ref E10) "__init__" = some (some (.ref f15)))
    (es10 : PySem.W.specialIn K (.ref E10) "__call__" = some (some (.builtin "type.__call__")))
    (et10 : PySem.W.instIn K (.ref E10) (.type "type") = some true)
    (xt10 : L2.xtIn K E10 = true)
    (ef10 : PySem.W.findIn K (.ref E10) "__setattr__" = some (some (.builtin "object.__setattr__")))
    (eq10 : PySem.W.findIn K (.ref E10) "number" = some none)
    (yE11 : PySem.W.nsIn K mainGlobals "Barred" = some (some (.ref E11)))
    (ec11 : (PySem.W.clsIn K E11).isSome = true)
    (ea11 : PySem.W.findIn K (.ref E11) "__getattribute__" = some (some (.builtin "BaseException.__getattribute__")))
    (en11 : PySem.W.findIn K (.ref E11) "__getattr__" = some none)
    (el11 : PySem.W.findIn K (.ref E11) "__class__" = some (some (.builtin "object.__class__")))
    (eb11 : PySem.W.mroIn K E11 (.type "BaseException") = some true)
    (eo11 : PySem.W.mroIn K E11 (.type "object") = some true)
    (xm11 : L2.xmIn K E11 = true)
    (ek11 : PySem.W.keepIn K (.ref E11) = true)
    (k11_0 : PySem.W.kitOne K (.ref E11) (.ref E0) = some false)
    (k11_1 : PySem.W.kitOne K (.ref E11) (.ref E1) = some false)
    (k11_2 : PySem.W.kitOne K (.ref E11) (.ref E2) = some false)
    (k11_3 : PySem.W.kitOne K (.ref E11) (.ref E3) = some false)
    (k11_4 : PySem.W.kitOne K (.ref E11) (.ref E4) = some false)
    (k11_5 : PySem.W.kitOne K (.ref E11) (.ref E5) = some false)
    (k11_6 : PySem.W.kitOne K (.ref E11) (.ref E6) = some false)
    (k11_7 : PySem.W.kitOne K (.ref E11) (.ref E7) = some false)
    (k11_8 : PySem.W.kitOne K (.ref E11) (.ref E8) = some false)
    (k11_9 : PySem.W.kitOne K (.ref E11) (.ref E9) = some false)
    (k11_10 : PySem.W.kitOne K (.ref E11) (.ref E10) = some false)
    (k11_11 : PySem.W.kitOne K (.ref E11) (.ref E11) = some true)
    (k11_12 : PySem.W.kitOne K (.ref E11) (.ref E12) = some false)
    (k11_13 : PySem.W.kitOne K (.ref E11) (.ref E13) = some false)
    (k11_14 : PySem.W.kitOne K (.ref E11) (.ref E14) = some false)
    (k11_15 : PySem.W.kitOne K (.ref E11) (.ref E15) = some true)
    (kc11 : PySem.W.kitOne K (.ref E11) (.ref CE) = some true)
    (kv11 : PySem.W.kitOne K (.ref E11) (.type "ValueError") = some true)
    (ei11 : PySem.W.findIn K (.ref E11) "__init__" = some (some (.ref f15)))
    (es11 : PySem.W.specialIn K (.ref E11) "__call__" = some (some (.builtin "type.__call__")))
    (et11 : PySem.W.instIn K (.ref E11) (.type "type") = some true)
    (xt11 : L2.xtIn K E11 = true)
    (ef11 : PySem.W.findIn K (.ref E11) "__setattr__" = some (some (.builtin "object.__setattr__")))
    (eq11 : PySem.W.findIn K (.ref E11) "number" = some none)
    (yE12 : PySem.W.nsIn K mainGlobals "Again" = some (some (.ref E12)))
    (ec12 : (PySem.W.clsIn K E12).isSome = true)
    (ea12 : PySem.W.findIn K (.ref E12) "__getattribute__" = some (some (.builtin "BaseException.__getattribute__")))
    (en12 : PySem.W.findIn K (.ref E12) "__getattr__" = some none)
    (el12 : PySem.W.findIn K (.ref E12) "__class__" = some (some (.builtin "object.__class__")))
    (eb12 : PySem.W.mroIn K E12 (.type "BaseException") = some true)
    (eo12 : PySem.W.mroIn K E12 (.type "object") = some true)
    (xm12 : L2.xmIn K E12 = true)
    (ek12 : PySem.W.keepIn K (.ref E12) = true)
    (k12_0 : PySem.W.kitOne K (.ref E12) (.ref E0) = some false)
    (k12_1 : PySem.W.kitOne K (.ref E12) (.ref E1) = some false)
    (k12_2 : PySem.W.kitOne K (.ref E12) (.ref E2) = some false)
    (k12_3 : PySem.W.kitOne K (.ref E12) (.ref E3) = some false)
    (k12_4 : PySem.W.kitOne K (.ref E12) (.ref E4) = some false)
    (k12_5 : PySem.W.kitOne K (.ref E12) (.ref E5) = some false)
    (k12_6 : PySem.W.kitOne K (.ref E12) (.ref E6) = some false)
    (k12_7 : PySem.W.kitOne K (.ref E12) (.ref E7) = some false)
    (k12_8 : PySem.W.kitOne K (.ref E12) (.ref E8) = some false)
    (k12_9 : PySem.W.kitOne K (.ref E12) (.ref E9) = some false)
    (k12_10 : PySem.W.kitOne K (.ref E12) (.ref E10) = some false)
    (k12_11 : PySem.W.kitOne K (.ref E12) (.ref E11) = some false)
    (k12_12 : PySem.W.kitOne K (.ref E12) (.ref E12) = some true)
    (k12_13 : PySem.W.kitOne K (.ref E12) (.ref E13) = some false)
    (k12_14 : PySem.W.kitOne K (.ref E12) (.ref E14) = some false)
    (k12_15 : PySem.W.kitOne K (.ref E12) (.ref E15) = some true)
    (kc12 : PySem.W.kitOne K (.ref E12) (.ref CE) = some true)
    (kv12 : PySem.W.kitOne K (.ref E12) (.type "ValueError") = some true)
    (ei12 : PySem.W.findIn K (.ref E12) "__init__" = some (some (.ref f15)))
    (es12 : PySem.W.specialIn K (.ref E12) "__call__" = some (some (.builtin "type.__call__")))
    (et12 : PySem.W.instIn K (.ref E12) (.type "type") = some true)
    (xt12 : L2.xtIn K E12 = true)
    (ef12 : PySem.W.findIn K (.ref E12) "__setattr__" = some (some (.builtin "object.__setattr__")))
    (eq12 : PySem.W.findIn K (.ref E12) "number" = some none)
    (yE13 : PySem.W.nsIn K mainGlobals "Strange" = some (some (.ref E13)))
    (ec13 : (PySem.W.clsIn K E13).isSome = true)
    (ea13 : PySem.W.findIn K (.ref E13) "__getattribute__" = some (some (.builtin "BaseException.__getattribute__")))
    (en13 : PySem.W.findIn K (.ref E13) "__getattr__" = some none)
    (el13 : PySem.W.findIn K (.ref E13) "__class__" = some (some (.builtin "object.__class__")))
    (eb13 : PySem.W.mroIn K E13 (.type "BaseException") = some true)
    (eo13 : PySem.W.mroIn K E13 (.type "object") = some true)
    (xm13 : L2.xmIn K E13 = true)
    (ek13 : PySem.W.keepIn K (.ref E13) = true)
    (k13_0 : PySem.W.kitOne K (.ref E13) (.ref E0) = some false)
    (k13_1 : PySem.W.kitOne K (.ref E13) (.ref E1) = some false)
    (k13_2 : PySem.W.kitOne K (.ref E13) (.ref E2) = some false)
    (k13_3 : PySem.W.kitOne K (.ref E13) (.ref E3) = some false)
    (k13_4 : PySem.W.kitOne K (.ref E13) (.ref E4) = some false)
    (k13_5 : PySem.W.kitOne K (.ref E13) (.ref E5) = some false)
    (k13_6 : PySem.W.kitOne K (.ref E13) (.ref E6) = some false)
    (k13_7 : PySem.W.kitOne K (.ref E13) (.ref E7) = some false)
    (k13_8 : PySem.W.kitOne K (.ref E13) (.ref E8) = some false)
    (k13_9 : PySem.W.kitOne K (.ref E13) (.ref E9) = some false)
    (k13_10 : PySem.W.kitOne K (.ref E13) (.ref E10) = some false)
    (k13_11 : PySem.W.kitOne K (.ref E13) (.ref E11) = some false)
    (k13_12 : PySem.W.kitOne K (.ref E13) (.ref E12) = some false)
    (k13_13 : PySem.W.kitOne K (.ref E13) (.ref E13) = some true)
    (k13_14 : PySem.W.kitOne K (.ref E13) (.ref E14) = some false)
    (k13_15 : PySem.W.kitOne K (.ref E13) (.ref E15) = some true)
    (kc13 : PySem.W.kitOne K (.ref E13) (.ref CE) = some true)
    (kv13 : PySem.W.kitOne K (.ref E13) (.type "ValueError") = some true)
    (ei13 : PySem.W.findIn K (.ref E13) "__init__" = some (some (.ref f15)))
    (es13 : PySem.W.specialIn K (.ref E13) "__call__" = some (some (.builtin "type.__call__")))
    (et13 : PySem.W.instIn K (.ref E13) (.type "type") = some true)
    (xt13 : L2.xtIn K E13 = true)
    (ef13 : PySem.W.findIn K (.ref E13) "__setattr__" = some (some (.builtin "object.__setattr__")))
    (eq13 : PySem.W.findIn K (.ref E13) "number" = some none)
    (yE14 : PySem.W.nsIn K mainGlobals "Lacking" = some (some (.ref E14)))
    (ec14 : (PySem.W.clsIn K E14).isSome = true)
    (ea14 : PySem.W.findIn K (.ref E14) "__getattribute__" = some (some (.builtin "BaseException.__getattribute__")))
    (en14 : PySem.W.findIn K (.ref E14) "__getattr__" = some none)
    (el14 : PySem.W.findIn K (.ref E14) "__class__" = some (some (.builtin "object.__class__")))
    (eb14 : PySem.W.mroIn K E14 (.type "BaseException") = some true)
    (eo14 : PySem.W.mroIn K E14 (.type "object") = some true)
    (xm14 : L2.xmIn K E14 = true)
    (ek14 : PySem.W.keepIn K (.ref E14) = true)
    (k14_0 : PySem.W.kitOne K (.ref E14) (.ref E0) = some false)
    (k14_1 : PySem.W.kitOne K (.ref E14) (.ref E1) = some false)
    (k14_2 : PySem.W.kitOne K (.ref E14) (.ref E2) = some false)
    (k14_3 : PySem.W.kitOne K (.ref E14) (.ref E3) = some false)
    (k14_4 : PySem.W.kitOne K (.ref E14) (.ref E4) = some false)
    (k14_5 : PySem.W.kitOne K (.ref E14) (.ref E5) = some false)
    (k14_6 : PySem.W.kitOne K (.ref E14) (.ref E6) = some false)
    (k14_7 : PySem.W.kitOne K (.ref E14) (.ref E7) = some false)
    (k14_8 : PySem.W.kitOne K (.ref E14) (.ref E8) = some false)
    (k14_9 : PySem.W.kitOne K (.ref E14) (.ref E9) = some false)
    (k14_10 : PySem.W.kitOne K (.ref E14) (.ref E10) = some false)
    (k14_11 : PySem.W.kitOne K (.ref E14) (.ref E11) = some false)
    (k14_12 : PySem.W.kitOne K (.ref E14) (.ref E12) = some false)
    (k14_13 : PySem.W.kitOne K (.ref E14) (.ref E13) = some false)
    (k14_14 : PySem.W.kitOne K (.ref E14) (.ref E14) = some true)
    (k14_15 : PySem.W.kitOne K (.ref E14) (.ref E15) = some true)
    (kc14 : PySem.W.kitOne K (.ref E14) (.ref CE) = some true)
    (kv14 : PySem.W.kitOne K (.ref E14) (.type "ValueError") = some true)
    (ei14 : PySem.W.findIn K (.ref E14) "__init__" = some (some (.ref f15)))
    (es14 : PySem.W.specialIn K (.ref E14) "__call__" = some (some (.builtin "type.__call__")))
    (et14 : PySem.W.instIn K (.ref E14) (.type "type") = some true)
    (xt14 : L2.xtIn K E14 = true)
    (ef14 : PySem.W.findIn K (.ref E14) "__setattr__" = some (some (.builtin "object.__setattr__")))
    (eq14 : PySem.W.findIn K (.ref E14) "number" = some none)
    (yE15 : PySem.W.nsIn K mainGlobals "Misfit" = some (some (.ref E15)))
    (ec15 : (PySem.W.clsIn K E15).isSome = true)
    (ea15 : PySem.W.findIn K (.ref E15) "__getattribute__" = some (some (.builtin "BaseException.__getattribute__")))
    (en15 : PySem.W.findIn K (.ref E15) "__getattr__" = some none)
    (el15 : PySem.W.findIn K (.ref E15) "__class__" = some (some (.builtin "object.__class__")))
    (eb15 : PySem.W.mroIn K E15 (.type "BaseException") = some true)
    (eo15 : PySem.W.mroIn K E15 (.type "object") = some true)
    (xm15 : L2.xmIn K E15 = true)
    (ek15 : PySem.W.keepIn K (.ref E15) = true)
    (k15_0 : PySem.W.kitOne K (.ref E15) (.ref E0) = some false)
    (k15_1 : PySem.W.kitOne K (.ref E15) (.ref E1) = some false)
    (k15_2 : PySem.W.kitOne K (.ref E15) (.ref E2) = some false)
    (k15_3 : PySem.W.kitOne K (.ref E15) (.ref E3) = some false)
    (k15_4 : PySem.W.kitOne K (.ref E15) (.ref E4) = some false)
    (k15_5 : PySem.W.kitOne K (.ref E15) (.ref E5) = some false)
    (k15_6 : PySem.W.kitOne K (.ref E15) (.ref E6) = some false)
    (k15_7 : PySem.W.kitOne K (.ref E15) (.ref E7) = some false)
    (k15_8 : PySem.W.kitOne K (.ref E15) (.ref E8) = some false)
    (k15_9 : PySem.W.kitOne K (.ref E15) (.ref E9) = some false)
    (k15_10 : PySem.W.kitOne K (.ref E15) (.ref E10) = some false)
    (k15_11 : PySem.W.kitOne K (.ref E15) (.ref E11) = some false)
    (k15_12 : PySem.W.kitOne K (.ref E15) (.ref E12) = some false)
    (k15_13 : PySem.W.kitOne K (.ref E15) (.ref E13) = some false)
    (k15_14 : PySem.W.kitOne K (.ref E15) (.ref E14) = some false)
    (k15_15 : PySem.W.kitOne K (.ref E15) (.ref E15) = some true)
    (kc15 : PySem.W.kitOne K (.ref E15) (.ref CE) = some true)
    (kv15 : PySem.W.kitOne K (.ref E15) (.type "ValueError") = some true)
    (es15 : PySem.W.specialIn K (.ref E15) "__call__" = some (some (.builtin "type.__call__")))
    (et15 : PySem.W.instIn K (.ref E15) (.type "type") = some true)
    (xt15 : L2.xtIn K E15 = true)
    (ef15 : PySem.W.findIn K (.ref E15) "__setattr__" = some (some (.builtin "object.__setattr__")))
    (eq15 : PySem.W.findIn K (.ref E15) "number" = some none)
    : ∃ fd : FuncData, (∀ (s : Shared) (v : Value), BindsTo s fd ⟨[v], []⟩ [("_law_script", v)]) ∧ ∀ base : Heap, K.In base → base.Ns mainGlobals mg → FnOk l.prog w K mg base CX0 7 fa fd ["_law_script"] (spLaw K) := by
  have e := hfa.symm.trans (PySem.W.mg_of X G a25)
  cases e
  have F1 := fun_mk (st := sIs) l1 c1 k1
  have b1 := F1.binds (ps := ["thing"]) fun _ _ _ _ _ _ us hl => match us, hl with | [_], _ => rfl
  have F2 := fun_mk (st := sPInit) l2 c2 k2
  have b2 := F2.binds (ps := ["self", "word", "name", "may_lack"]) fun _ _ _ _ _ _ us hl => match us, hl with | [_, _, _, _], _ => rfl
  have F3 := fun_mk (st := sFree) l3 c3 k3
  have b3 := F3.binds (ps := ["self"]) fun _ _ _ _ _ _ us hl => match us, hl with | [_], _ => rfl
  have F4 := fun_mk (st := sByPlace) l4 c4 k4
  have b4 := F4.binds (ps := ["self"]) fun _ _ _ _ _ _ us hl => match us, hl with | [_], _ => rfl
  have F5 := fun_mk (st := sByName) l5 c5 k5
  have b5 := F5.binds (ps := ["self"]) fun _ _ _ _ _ _ us hl => match us, hl with | [_], _ => rfl
  have F6 := fun_mk (st := sTakes) l6 c6 k6
  have b6 := F6.binds (ps := ["self"]) fun _ _ _ _ _ _ us hl => match us, hl with | [_], _ => rfl
  have F7 := fun_mk (st := sTold) l7 c7 k7
  have b7 := F7.binds (ps := ["self"]) fun _ _ _ _ _ _ us hl => match us, hl with | [_], _ => rfl
  have F8 := funD_mk (st := sSeat) (items := [Value.bool false]) l8 c8 k8 t8 rfl
  have F9 := funD_mk (st := sBoth) (items := [Value.bool false]) l9 c9 k9 t9 rfl
  have F10 := fun_mk (st := sTail) l10 c10 k10
  have b10 := F10.binds (ps := ["self", "name"]) fun _ _ _ _ _ _ us hl => match us, hl with | [_, _], _ => rfl
  have F11 := funD_mk (st := sFInit) (items := [Value.none]) l11 c11 k11 t11 rfl
  have F12 := fun_mk (st := sXBad) l12 c12 k12
  have b12 := F12.binds (ps := ["self", "at"]) fun _ _ _ _ _ _ us hl => match us, hl with | [_, _], _ => rfl
  have F13 := fun_mk (st := sXTwice) l13 c13 k13
  have b13 := F13.binds (ps := ["self", "name"]) fun _ _ _ _ _ _ us hl => match us, hl with | [_, _], _ => rfl
  have F14 := fun_mk (st := sXNoDef) l14 c14 k14
  have b14 := F14.binds (ps := ["self", "number"]) fun _ _ _ _ _ _ us hl => match us, hl with | [_, _], _ => rfl
  have F15 := fun_mk (st := sXMis) l15 c15 k15
  have b15 := F15.binds (ps := ["self", "number"]) fun _ _ _ _ _ _ us hl => match us, hl with | [_, _], _ => rfl
  have F16 := fun_mk (st := sRMany) l16 c16 k16
  have b16 := F16.binds (ps := ["parameters", "bars"]) fun _ _ _ _ _ _ us hl => match us, hl with | [_, _], _ => rfl
  have F17 := fun_mk (st := sROrder) l17 c17 k17
  have b17 := F17.binds (ps := ["parameters"]) fun _ _ _ _ _ _ us hl => match us, hl with | [_], _ => rfl
  have F18 := fun_mk (st := sRBars) l18 c18 k18
  have b18 := F18.binds (ps := ["bars"]) fun _ _ _ _ _ _ us hl => match us, hl with | [_], _ => rfl
  have F19 := fun_mk (st := sRTwice) l19 c19 k19
  have b19 := F19.binds (ps := ["parameters", "bars"]) fun _ _ _ _ _ _ us hl => match us, hl with | [_, _], _ => rfl
  have F20 := fun_mk (st := sNth) l20 c20 k20
  have b20 := F20.binds (ps := ["_law_script", "_law_k"]) fun _ _ _ _ _ _ us hl => match us, hl with | [_, _], _ => rfl
  have F21 := fun_mk (st := sCalled) l21 c21 k21
  have b21 := F21.binds (ps := ["_law_cell"]) fun _ _ _ _ _ _ us hl => match us, hl with | [_], _ => rfl
  have F22 := fun_mk (st := sSorts) l22 c22 k22
  have b22 := F22.binds (ps := ["_law_e"]) fun _ _ _ _ _ _ us hl => match us, hl with | [_], _ => rfl
  have F23 := fun_mk (st := sIsE) l23 c23 k23
  have b23 := F23.binds (ps := ["_law_e", "_law_which"]) fun _ _ _ _ _ _ us hl => match us, hl with | [_, _], _ => rfl
  have F24 := fun_mk (st := sRefused) l24 c24 k24
  have b24 := F24.binds (ps := ["_law_made", "_law_bars"]) fun _ _ _ _ _ _ us hl => match us, hl with | [_, _], _ => rfl
  have F25 := fun_mk (st := sLaw) l25 c25 k25
  have no : ∀ {x : Str}, PySem.W.nsIn K mainGlobals x = some none → mg x = none := fun z => PySem.W.mg_none_of X G z
  have T : Txt1 K mg := ⟨no zisinstance, no zstr, no zbool, no zlen, no zall, no zrange, ⟨tL, PySem.W.mg_of X G gL⟩, ⟨tN, PySem.W.mg_of X G gN⟩, kt_NoneType_str K, kt_int_str K, kt_bool_str K, kt_list_str K, kt_tuple_str K, kt_dict_str K, kt_str_str K, kt_bool_bool K⟩
  have Wd : Wds K mg tP tB tO := ⟨PySem.W.mg_of X G ytP, PySem.W.mg_of X G ytB, PySem.W.mg_of X G ytO, fun H => .inr ⟨_, _, _, utP, rfl, rfl, (by show 2 ≤ sizeLine; decide), .cons ⟨_, rfl⟩ (.cons ⟨_, rfl⟩ (.nil))⟩, fun H => .inr ⟨_, _, _, utB, rfl, rfl, (by show 2 ≤ sizeLine; decide), .cons ⟨_, rfl⟩ (.cons ⟨_, rfl⟩ (.nil))⟩, fun H => .inr ⟨_, _, _, utO, rfl, rfl, (by show 3 ≤ sizeLine; decide), .cons ⟨_, rfl⟩ (.cons ⟨_, rfl⟩ (.cons ⟨_, rfl⟩ (.nil)))⟩⟩
  have TF : TxtF w K mg Gr sg := ⟨no zlen, no zenumerate, no zlist, no zset, ⟨tMP, PySem.W.mg_of X G gMP⟩, ⟨tMB, PySem.W.mg_of X G gMB⟩, PySem.W.mg_of X G yGr, ktab_of lGr kGr eG0 eG1 eG2 eG3 eG4, PySem.W.mg_of X G ysg, fun H => .inr ⟨_, _, _, usg, rfl, rfl, (by show 2 ≤ sizeLine; decide), .cons ⟨_, rfl⟩ (.cons ⟨_, rfl⟩ .nil)⟩⟩
  have pc0 : PC K ⟨f3, f4, f5, f6, f7⟩ C0 := ⟨⟨pgC0, hdC0, poC0, saC0⟩, nC0_word, nC0_name, nC0_may_lack, ⟨h0_3, i3, k3⟩, ⟨h0_4, i4, k4⟩, ⟨h0_5, i5, k5⟩, ⟨h0_6, i6, k6⟩, ⟨h0_7, i7, k7⟩⟩
  have pc1 : PC K ⟨f3, f4, f5, f6, f7⟩ C1 := ⟨⟨pgC1, hdC1, poC1, saC1⟩, nC1_word, nC1_name, nC1_may_lack, ⟨h1_3, i3, k3⟩, ⟨h1_4, i4, k4⟩, ⟨h1_5, i5, k5⟩, ⟨h1_6, i6, k6⟩, ⟨h1_7, i7, k7⟩⟩
  have pc2 : PC K ⟨f3, f4, f5, f6, f7⟩ C2 := ⟨⟨pgC2, hdC2, poC2, saC2⟩, nC2_word, nC2_name, nC2_may_lack, ⟨h2_3, i3, k3⟩, ⟨h2_4, i4, k4⟩, ⟨h2_5, i5, k5⟩, ⟨h2_6, i6, k6⟩, ⟨h2_7, i7, k7⟩⟩
  have PP : Pcs K ⟨f3, f4, f5, f6, f7⟩ ⟨C0, C1, C2, C0, C0⟩ := fun k hk => by
    rcases lt5 hk with rfl | rfl | rfl | rfl | rfl
    · exact pc0
    · exact pc1
    · exact pc2
    · exact pc0
    · exact pc0
  let cl : Nat → Addr := fun j => match j with | 0 => E0 | 1 => E1 | 2 => E2 | 3 => E3 | 4 => E4 | 5 => E5 | 6 => E6 | 7 => E7 | 8 => E8 | 9 => E9 | 10 => E10 | 11 => E11 | 12 => E12 | 13 => E13 | 14 => E14 | _ => E15
  have ex0 : ExcCls K E0 := ⟨ec0, ea0, en0, el0, xgt, xtk, eb0, eo0⟩
  have ex1 : ExcCls K E1 := ⟨ec1, ea1, en1, el1, xgt, xtk, eb1, eo1⟩
  have ex2 : ExcCls K E2 := ⟨ec2, ea2, en2, el2, xgt, xtk, eb2, eo2⟩
  have ex3 : ExcCls K E3 := ⟨ec3, ea3, en3, el3, xgt, xtk, eb3, eo3⟩
  have ex4 : ExcCls K E4 := ⟨ec4, ea4, en4, el4, xgt, xtk, eb4, eo4⟩
  have ex5 : ExcCls K E5 := ⟨ec5, ea5, en5, el5, xgt, xtk, eb5, eo5⟩
  have ex6 : ExcCls K E6 := ⟨ec6, ea6, en6, el6, xgt, xtk, eb6, eo6⟩
  have ex7 : ExcCls K E7 := ⟨ec7, ea7, en7, el7, xgt, xtk, eb7, eo7⟩
  have ex8 : ExcCls K E8 := ⟨ec8, ea8, en8, el8, xgt, xtk, eb8, eo8⟩
  have ex9 : ExcCls K E9 := ⟨ec9, ea9, en9, el9, xgt, xtk, eb9, eo9⟩
  have ex10 : ExcCls K E10 := ⟨ec10, ea10, en10, el10, xgt, xtk, eb10, eo10⟩
  have ex11 : ExcCls K E11 := ⟨ec11, ea11, en11, el11, xgt, xtk, eb11, eo11⟩
  have ex12 : ExcCls K E12 := ⟨ec12, ea12, en12, el12, xgt, xtk, eb12, eo12⟩
  have ex13 : ExcCls K E13 := ⟨ec13, ea13, en13, el13, xgt, xtk, eb13, eo13⟩
  have ex14 : ExcCls K E14 := ⟨ec14, ea14, en14, el14, xgt, xtk, eb14, eo14⟩
  have ex15 : ExcCls K E15 := ⟨ec15, ea15, en15, el15, xgt, xtk, eb15, eo15⟩
  have so0 : SortOk K cl CE E0 0 := ⟨ex0, fun l hl => match l, hl with | 0, _ => k0_0 | 1, _ => k0_1 | 2, _ => k0_2 | 3, _ => k0_3 | 4, _ => k0_4 | 5, _ => k0_5 | 6, _ => k0_6 | 7, _ => k0_7 | 8, _ => k0_8 | 9, _ => k0_9 | 10, _ => k0_10 | 11, _ => k0_11 | 12, _ => k0_12 | 13, _ => k0_13 | 14, _ => k0_14 | 15, _ => k0_15 | l + 16, h => absurd h (by omega), kc0, kv0⟩
  have so1 : SortOk K cl CE E1 1 := ⟨ex1, fun l hl => match l, hl with | 0, _ => k1_0 | 1, _ => k1_1 | 2, _ => k1_2 | 3, _ => k1_3 | 4, _ => k1_4 | 5, _ => k1_5 | 6, _ => k1_6 | 7, _ => k1_7 | 8, _ => k1_8 | 9, _ => k1_9 | 10, _ => k1_10 | 11, _ => k1_11 | 12, _ => k1_12 | 13, _ => k1_13 | 14, _ => k1_14 | 15, _ => k1_15 | l + 16, h => absurd h (by omega), kc1, kv1⟩
  have so2 : SortOk K cl CE E2 2 := ⟨ex2, fun l hl => match l, hl with | 0, _ => k2_0 | 1, _ => k2_1 | 2, _ => k2_2 | 3, _ => k2_3 | 4, _ => k2_4 | 5, _ => k2_5 | 6, _ => k2_6 | 7, _ => k2_7 | 8, _ => k2_8 | 9, _ => k2_9 | 10, _ => k2_10 | 11, _ => k2_11 | 12, _ => k2_12 | 13, _ => k2_13 | 14, _ => k2_14 | 15, _ => k2_15 | l + 16, h => absurd h (by omega), kc2, kv2⟩
  have so3 : SortOk K cl CE E3 3 := ⟨ex3, fun l hl => match l, hl with | 0, _ => k3_0 | 1, _ => k3_1 | 2, _ => k3_2 | 3, _ => k3_3 | 4, _ => k3_4 | 5, _ => k3_5 | 6, _ => k3_6 | 7, _ => k3_7 | 8, _ => k3_8 | 9, _ => k3_9 | 10, _ => k3_10 | 11, _ => k3_11 | 12, _ => k3_12 | 13, _ => k3_13 | 14, _ => k3_14 | 15, _ => k3_15 | l + 16, h => absurd h (by omega), kc3, kv3⟩
  have so4 : SortOk K cl CE E4 4 := ⟨ex4, fun l hl => match l, hl with | 0, _ => k4_0 | 1, _ => k4_1 | 2, _ => k4_2 | 3, _ => k4_3 | 4, _ => k4_4 | 5, _ => k4_5 | 6, _ => k4_6 | 7, _ => k4_7 | 8, _ => k4_8 | 9, _ => k4_9 | 10, _ => k4_10 | 11, _ => k4_11 | 12, _ => k4_12 | 13, _ => k4_13 | 14, _ => k4_14 | 15, _ => k4_15 | l + 16, h => absurd h (by omega), kc4, kv4⟩
  have so5 : SortOk K cl CE E5 5 := ⟨ex5, fun l hl => match l, hl with | 0, _ => k5_0 | 1, _ => k5_1 | 2, _ => k5_2 | 3, _ => k5_3 | 4, _ => k5_4 | 5, _ => k5_5 | 6, _ => k5_6 | 7, _ => k5_7 | 8, _ => k5_8 | 9, _ => k5_9 | 10, _ => k5_10 | 11, _ => k5_11 | 12, _ => k5_12 | 13, _ => k5_13 | 14, _ => k5_14 | 15, _ => k5_15 | l + 16, h => absurd h (by omega), kc5, kv5⟩
  have so6 : SortOk K cl CE E6 6 := ⟨ex6, fun l hl => match l, hl with | 0, _ => k6_0 | 1, _ => k6_1 | 2, _ => k6_2 | 3, _ => k6_3 | 4, _ => k6_4 | 5, _ => k6_5 | 6, _ => k6_6 | 7, _ => k6_7 | 8, _ => k6_8 | 9, _ => k6_9 | 10, _ => k6_10 | 11, _ => k6_11 | 12, _ => k6_12 | 13, _ => k6_13 | 14, _ => k6_14 | 15, _ => k6_15 | l + 16, h => absurd h (by omega), kc6, kv6⟩
  have so7 : SortOk K cl CE E7 7 := ⟨ex7, fun l hl => match l, hl with | 0, _ => k7_0 | 1, _ => k7_1 | 2, _ => k7_2 | 3, _ => k7_3 | 4, _ => k7_4 | 5, _ => k7_5 | 6, _ => k7_6 | 7, _ => k7_7 | 8, _ => k7_8 | 9, _ => k7_9 | 10, _ => k7_10 | 11, _ => k7_11 | 12, _ => k7_12 | 13, _ => k7_13 | 14, _ => k7_14 | 15, _ => k7_15 | l + 16, h => absurd h (by omega), kc7, kv7⟩
  have so8 : SortOk K cl CE E8 8 := ⟨ex8, fun l hl => match l, hl with | 0, _ => k8_0 | 1, _ => k8_1 | 2, _ => k8_2 | 3, _ => k8_3 | 4, _ => k8_4 | 5, _ => k8_5 | 6, _ => k8_6 | 7, _ => k8_7 | 8, _ => k8_8 | 9, _ => k8_9 | 10, _ => k8_10 | 11, _ => k8_11 | 12, _ => k8_12 | 13, _ => k8_13 | 14, _ => k8_14 | 15, _ => k8_15 | l + 16, h => absurd h (by omega), kc8, kv8⟩
  have so9 : SortOk K cl CE E9 9 := ⟨ex9, fun l hl => match l, hl with | 0, _ => k9_0 | 1, _ => k9_1 | 2, _ => k9_2 | 3, _ => k9_3 | 4, _ => k9_4 | 5, _ => k9_5 | 6, _ => k9_6 | 7, _ => k9_7 | 8, _ => k9_8 | 9, _ => k9_9 | 10, _ => k9_10 | 11, _ => k9_11 | 12, _ => k9_12 | 13, _ => k9_13 | 14, _ => k9_14 | 15, _ => k9_15 | l + 16, h => absurd h (by omega), kc9, kv9⟩
  have so10 : SortOk K cl CE E10 10 := ⟨ex10, fun l hl => match l, hl with | 0, _ => k10_0 | 1, _ => k10_1 | 2, _ => k10_2 | 3, _ => k10_3 | 4, _ => k10_4 | 5, _ => k10_5 | 6, _ => k10_6 | 7, _ => k10_7 | 8, _ => k10_8 | 9, _ => k10_9 | 10, _ => k10_10 | 11, _ => k10_11 | 12, _ => k10_12 | 13, _ => k10_13 | 14, _ => k10_14 | 15, _ => k10_15 | l + 16, h => absurd h (by omega), kc10, kv10⟩
  have so11 : SortOk K cl CE E11 11 := ⟨ex11, fun l hl => match l, hl with | 0, _ => k11_0 | 1, _ => k11_1 | 2, _ => k11_2 | 3, _ => k11_3 | 4, _ => k11_4 | 5, _ => k11_5 | 6, _ => k11_6 | 7, _ => k11_7 | 8, _ => k11_8 | 9, _ => k11_9 | 10, _ => k11_10 | 11, _ => k11_11 | 12, _ => k11_12 | 13, _ => k11_13 | 14, _ => k11_14 | 15, _ => k11_15 | l + 16, h => absurd h (by omega), kc11, kv11⟩
  have so12 : SortOk K cl CE E12 12 := ⟨ex12, fun l hl => match l, hl with | 0, _ => k12_0 | 1, _ => k12_1 | 2, _ => k12_2 | 3, _ => k12_3 | 4, _ => k12_4 | 5, _ => k12_5 | 6, _ => k12_6 | 7, _ => k12_7 | 8, _ => k12_8 | 9, _ => k12_9 | 10, _ => k12_10 | 11, _ => k12_11 | 12, _ => k12_12 | 13, _ => k12_13 | 14, _ => k12_14 | 15, _ => k12_15 | l + 16, h => absurd h (by omega), kc12, kv12⟩
  have so13 : SortOk K cl CE E13 13 := ⟨ex13, fun l hl => match l, hl with | 0, _ => k13_0 | 1, _ => k13_1 | 2, _ => k13_2 | 3, _ => k13_3 | 4, _ => k13_4 | 5, _ => k13_5 | 6, _ => k13_6 | 7, _ => k13_7 | 8, _ => k13_8 | 9, _ => k13_9 | 10, _ => k13_10 | 11, _ => k13_11 | 12, _ => k13_12 | 13, _ => k13_13 | 14, _ => k13_14 | 15, _ => k13_15 | l + 16, h => absurd h (by omega), kc13, kv13⟩
  have so14 : SortOk K cl CE E14 14 := ⟨ex14, fun l hl => match l, hl with | 0, _ => k14_0 | 1, _ => k14_1 | 2, _ => k14_2 | 3, _ => k14_3 | 4, _ => k14_4 | 5, _ => k14_5 | 6, _ => k14_6 | 7, _ => k14_7 | 8, _ => k14_8 | 9, _ => k14_9 | 10, _ => k14_10 | 11, _ => k14_11 | 12, _ => k14_12 | 13, _ => k14_13 | 14, _ => k14_14 | 15, _ => k14_15 | l + 16, h => absurd h (by omega), kc14, kv14⟩
  have so15 : SortOk K cl CE E15 15 := ⟨ex15, fun l hl => match l, hl with | 0, _ => k15_0 | 1, _ => k15_1 | 2, _ => k15_2 | 3, _ => k15_3 | 4, _ => k15_4 | 5, _ => k15_5 | 6, _ => k15_6 | 7, _ => k15_7 | 8, _ => k15_8 | 9, _ => k15_9 | 10, _ => k15_10 | 11, _ => k15_11 | 12, _ => k15_12 | 13, _ => k15_13 | 14, _ => k15_14 | 15, _ => k15_15 | l + 16, h => absurd h (by omega), kc15, kv15⟩
  have so : ∀ i, i < 16 → SortOk K cl CE (cl i) i := fun i hi => match i, hi with | 0, _ => so0 | 1, _ => so1 | 2, _ => so2 | 3, _ => so3 | 4, _ => so4 | 5, _ => so5 | 6, _ => so6 | 7, _ => so7 | 8, _ => so8 | 9, _ => so9 | 10, _ => so10 | 11, _ => so11 | 12, _ => so12 | 13, _ => so13 | 14, _ => so14 | 15, _ => so15 | l + 16, h => absurd h (by omega)
  have UX : TxtX mg cl CE := ⟨no zisinstance, no zValueError, no zrange, PySem.W.mg_of X G yCE, PySem.W.mg_of X G yE0, PySem.W.mg_of X G yE1, PySem.W.mg_of X G yE2, PySem.W.mg_of X G yE3, PySem.W.mg_of X G yE4, PySem.W.mg_of X G yE5, PySem.W.mg_of X G yE6, PySem.W.mg_of X G yE7, PySem.W.mg_of X G yE8, PySem.W.mg_of X G yE9, PySem.W.mg_of X G yE10, PySem.W.mg_of X G yE11, PySem.W.mg_of X G yE12, PySem.W.mg_of X G yE13, PySem.W.mg_of X G yE14, PySem.W.mg_of X G yE15⟩
  have Fo : FourOk K cl CE := ⟨fun i hi => so i (by omega), fun i hi => match i, hi with | 0, _ => em0 | 1, _ => em1 | 2, _ => em2 | 3, _ => em3 | l + 4, h => absurd h (by omega)⟩
  have b8_0 : Binds K _ ["self", "name", "free"] [] := fun s us KX hl => match us, hl with | [u, v, x], _ => F8.bindsTo (fun _ _ _ _ _ _ _ => ⟨_, rfl, rfl⟩) KX
  have b8_1 : Binds K _ ["self", "name", "free"] [.bool false] := fun s us KX hl => match us, (show us.length = 2 by simpa using hl) with | [u, v], _ => F8.bindsTo (fun _ _ _ _ _ _ _ => ⟨_, rfl, rfl⟩) KX
  have b8_2 : KBinds K _ ["self", "name", "free"] ["free"] g21 g21 := ⟨fun s us ws KX hl => match us, ws, hl with | [u, v], [x], _ => F8.bindsTo (fun _ _ _ _ _ _ _ => ⟨_, rfl, rfl⟩) KX, fun r z => g21_rel r z⟩
  have b9_0 : Binds K _ ["self", "name", "free"] [] := fun s us KX hl => match us, hl with | [u, v, x], _ => F9.bindsTo (fun _ _ _ _ _ _ _ => ⟨_, rfl, rfl⟩) KX
  have b9_1 : Binds K _ ["self", "name", "free"] [.bool false] := fun s us KX hl => match us, (show us.length = 2 by simpa using hl) with | [u, v], _ => F9.bindsTo (fun _ _ _ _ _ _ _ => ⟨_, rfl, rfl⟩) KX
  have b9_2 : KBinds K _ ["self", "name", "free"] ["free"] g21 g21 := ⟨fun s us ws KX hl => match us, ws, hl with | [u, v], [x], _ => F9.bindsTo (fun _ _ _ _ _ _ _ => ⟨_, rfl, rfl⟩) KX, fun r z => g21_rel r z⟩
  have b11_0 : Binds K _ ["self", "parameters", "bars"] [] := fun s us KX hl => match us, hl with | [u, v, x], _ => F11.bindsTo (fun _ _ _ _ _ _ _ => ⟨_, rfl, rfl⟩) KX
  have b11_1 : Binds K _ ["self", "parameters", "bars"] [.none] := fun s us KX hl => match us, (show us.length = 2 by simpa using hl) with | [u, v], _ => F11.bindsTo (fun _ _ _ _ _ _ _ => ⟨_, rfl, rfl⟩) KX
  have b11_2 : KBinds K _ ["self", "parameters", "bars"] ["bars"] g21 g21 := ⟨fun s us ws KX hl => match us, ws, hl with | [u, v], [x], _ => F11.bindsTo (fun _ _ _ _ _ _ _ => ⟨_, rfl, rfl⟩) KX, fun r z => g21_rel r z⟩
  refine ⟨PySem.W.fnOf "law" "law" (defArgs sLaw) (defBody sLaw) (defScope sLaw) .none kV25 dc25 pm25 an25 cd25 ct25, fun s v => .of_eq rfl, fun base KB GB => ?_⟩
  have cI : Callee l.prog w K mg base 1 "is_name" f1 _ ["thing"] (spIs K) := ⟨ok_is F1 T , PySem.W.mg_of X G a1, k1, b1⟩
  have GP : FnOk l.prog w K mg base (CXe l.prog w) 2 f2 _ ["self", "word", "name", "may_lack"] (spP K ⟨f3, f4, f5, f6, f7⟩ E0) := ok_pinit F2 (own_in KB GB yE0 xo0) cI
  have CB : ClsFn K D "__init__" f2 := ⟨dga, drd, dfc, k2⟩
  have mD := PySem.W.mg_of X G aD
  have UC : Ctors l.prog w K mg base ⟨C0, C1, C2, C0, C0⟩ E0 f8 f9 f10 _ _ _ := ⟨⟨⟨mkC0, a8, i8, kcC0⟩, ok_seat F8 pc0 CB mD GP b2, PySem.W.mg_of X G aC0, b8_0⟩, ⟨⟨mkC0, a8, i8, kcC0⟩, ok_seat F8 pc0 CB mD GP b2, PySem.W.mg_of X G aC0, b8_1⟩, b8_2, ⟨⟨mkC1, a9, i9, kcC1⟩, ok_both F9 pc1 CB mD GP b2, PySem.W.mg_of X G aC1, b9_0⟩, ⟨⟨mkC1, a9, i9, kcC1⟩, ok_both F9 pc1 CB mD GP b2, PySem.W.mg_of X G aC1, b9_1⟩, b9_2, ⟨⟨mkC2, a10, i10, kcC2⟩, ok_tail F10 pc2 CB mD GP b2, PySem.W.mg_of X G aC2, b10⟩⟩
  have GN : FnOk l.prog w K mg base CX0 1 f5 _ ["self"] (spIn K ⟨f3, f4, f5, f6, f7⟩ bnL) := ok_by_name F5 Wd
  have p0 : PCls K mg base "NoName" E0 := ⟨own_in KB GB yE0 xo0, ek0, ex0, xm0⟩
  have p1 : PCls K mg base "TooMany" E1 := ⟨own_in KB GB yE1 xo1, ek1, ex1, xm1⟩
  have p4 : PCls K mg base "NoChange" E4 := ⟨own_in KB GB yE4 xo4, ek4, ex4, xm4⟩
  have p6 : PCls K mg base "NoText" E6 := ⟨own_in KB GB yE6 xo6, ek6, ex6, xm6⟩
  have p7 : PCls K mg base "NoRow" E7 := ⟨own_in KB GB yE7 xo7, ek7, ex7, xm7⟩
  have p8 : PCls K mg base "Unknown" E8 := ⟨own_in KB GB yE8 xo8, ek8, ex8, xm8⟩
  have x2 : XCls l.prog w K mg base "BadOrder" E2 f12 _ "at" "at" := ⟨⟨xm2, a12, i12, es2, et2, ek2⟩, ⟨xt2, ef2, eo2⟩, eq2, ex2, PySem.W.mg_of X G yE2, ok_xbad F12, b12⟩
  have x3 : XCls l.prog w K mg base "Twice" E3 f13 _ "name" "name" := ⟨⟨xm3, a13, i13, es3, et3, ek3⟩, ⟨xt3, ef3, eo3⟩, eq3, ex3, PySem.W.mg_of X G yE3, ok_xtwice F13, b13⟩
  have x5 : XCls l.prog w K mg base "NoDefault" E5 f14 _ "number" "number" := ⟨⟨xm5, a14, i14, es5, et5, ek5⟩, ⟨xt5, ef5, eo5⟩, eq5, ex5, PySem.W.mg_of X G yE5, ok_xnodef F14, b14⟩
  have x9 : XCls l.prog w K mg base "Doubled" E9 f15 _ "number" "number" := ⟨⟨xm9, ei9, i15, es9, et9, ek9⟩, ⟨xt9, ef9, eo9⟩, eq9, ex9, PySem.W.mg_of X G yE9, ok_xmis F15, b15⟩
  have x10 : XCls l.prog w K mg base "Over" E10 f15 _ "number" "number" := ⟨⟨xm10, ei10, i15, es10, et10, ek10⟩, ⟨xt10, ef10, eo10⟩, eq10, ex10, PySem.W.mg_of X G yE10, ok_xmis F15, b15⟩
  have x11 : XCls l.prog w K mg base "Barred" E11 f15 _ "number" "number" := ⟨⟨xm11, ei11, i15, es11, et11, ek11⟩, ⟨xt11, ef11, eo11⟩, eq11, ex11, PySem.W.mg_of X G yE11, ok_xmis F15, b15⟩
  have x12 : XCls l.prog w K mg base "Again" E12 f15 _ "number" "number" := ⟨⟨xm12, ei12, i15, es12, et12, ek12⟩, ⟨xt12, ef12, eo12⟩, eq12, ex12, PySem.W.mg_of X G yE12, ok_xmis F15, b15⟩
  have x13 : XCls l.prog w K mg base "Strange" E13 f15 _ "number" "number" := ⟨⟨xm13, ei13, i15, es13, et13, ek13⟩, ⟨xt13, ef13, eo13⟩, eq13, ex13, PySem.W.mg_of X G yE13, ok_xmis F15, b15⟩
  have x14 : XCls l.prog w K mg base "Lacking" E14 f15 _ "number" "number" := ⟨⟨xm14, ei14, i15, es14, et14, ek14⟩, ⟨xt14, ef14, eo14⟩, eq14, ex14, PySem.W.mg_of X G yE14, ok_xmis F15, b15⟩
  have x15 : XCls l.prog w K mg base "Misfit" E15 f15 _ "number" "number" := ⟨⟨xm15, a15, i15, es15, et15, ek15⟩, ⟨xt15, ef15, eo15⟩, eq15, ex15, PySem.W.mg_of X G yE15, ok_xmis F15, b15⟩
  have cM : CalleeS l.prog w K mg base 1 "refuse_too_many" f16 _ ["parameters", "bars"] (spManyR K E1) := ⟨ok_manyR F16 TF p1 , PySem.W.mg_of X G a16, k16, b16⟩
  have cOr : CalleeS l.prog w K mg base 3 "refuse_bad_order" f17 _ ["parameters"] (spOrdR ⟨C0, C1, C2, C0, C0⟩ E2) := ⟨ok_orderR F17 TF PP x2 , PySem.W.mg_of X G a17, k17, b17⟩
  have cBa : CalleeS l.prog w K mg base 2 "refuse_bars_without_name" f18 _ ["bars"] (spRBR K E0) := ⟨ok_rbarsR F18 p0 cI , PySem.W.mg_of X G a18, k18, b18⟩
  have cTw : CalleeS l.prog w K mg base 3 "refuse_twice" f19 _ ["parameters", "bars"] (spTwR ⟨C0, C1, C2, C0, C0⟩ E3) := ⟨ok_twiceR F19 TF PP GN b5 x3 , PySem.W.mg_of X G a19, k19, b19⟩
  have GF : FnOk l.prog w K mg base (CXs l.prog w) 4 f11 _ ["self", "parameters", "bars"] (spFIR K ⟨C0, C1, C2, C0, C0⟩ (cl 1) (cl 2) (cl 0) (cl 3)) := ok_finitR F11 cM cOr cBa cTw
  have cN : Callee l.prog w K mg base 1 "_law_nth" f20 _ ["_law_script", "_law_k"] (spNth K) := ⟨ok_nth F20 T , PySem.W.mg_of X G a20, k20, b20⟩
  have cC : Callee l.prog w K mg base 1 "_law_called" f21 _ ["_law_cell"] spCalled := ⟨ok_called F21 T , PySem.W.mg_of X G a21, k21, b21⟩
  have cS : CalleeM l.prog w K mg base 1 "_law_sorts" f22 _ ["_law_e"] (spSorts K cl CE) := ⟨ok_sorts F22 UX , PySem.W.mg_of X G a22, k22, b22⟩
  have cIs : Callee l.prog w K mg base 2 "_law_is" f23 _ ["_law_e", "_law_which"] (spIsE K cl CE) := ⟨ok_isE F23 UX cS , PySem.W.mg_of X G a23, k23, b23⟩
  have cR : Callee l.prog w K mg base 6 "_law_refused" f24 _ ["_law_made", "_law_bars"] (spRefused ⟨C0, C1, C2, C0, C0⟩ cl) := ⟨ok_refused F24 UX Fo ⟨mkFM, a11, i11, kcFM⟩ GF (PySem.W.mg_of X G aFM) b11_0 cS , PySem.W.mg_of X G a24, k24, b24⟩
  have LX : LawX l.prog w K mg base cl CE f12 f13 f14 f15 _ _ _ _ := ⟨so, p0, p1, p4, p6, p7, p8, x2, x3, x5, x9, x10, x11, x12, x13, x14, x15⟩
  exact ok_law F25 UX LX UC cN cC cS cIs cR
theorem walk {l : PySem.W.OpenLaw} {q : Program} {loose : List Str} {XP : (Str → Option Value) → Heap → Prop} {YP : World → Heap → Prop} {d : DefRec} {K : Params → PySem.W.Frag} (hn : l.most = some 63) (hdf : d.params.defaults = [])
    (hY : ∀ (w : World) (h : Heap), YP w h → (K w.params).In h)
    (F : ∀ (w : World) (mg : Str → Option Value) (fa : Addr) (h : Heap), (K w.params).In h → h.Ns mainGlobals mg → mg d.name = some (.ref fa) →
      ∃ fd : FuncData, (∀ (s : Shared) (u : Value), BindsTo s fd ⟨[u], []⟩ [("_law_script", u)]) ∧ ∀ base : Heap, (K w.params).In base → base.Ns mainGlobals mg → FnOk l.prog w (K w.params) mg base CX0 7 fa fd ["_law_script"] (spLaw (K w.params))) :
    PySem.W.WalkO q loose XP YP l.row.toRowW d [] (fun f vs => PySem.call f vs) :=
  L2.walk_of (n := 63) (k := 7) (x := "_law_script") (CX := fun _ => CX0) (sp := fun w => spLaw (K w.params)) hn (by decide) hdf ⟨rfl, by decide, by decide⟩ hY F (fun _ _ a ns hl _ hS => ⟨a, ns, rfl, hS, hl, fun _ => rfl⟩) fun _ _ _ _ _ z => z
end K15
open PySem PySem.W PyProof.Rows
set_option maxRecDepth 100000 in
set_option maxHeartbeats 0 in
theorem PySem.Challenge.cw_callbinds_k15_refusals_holds : PySem.Challenge.rw_callbinds_k15_refusals.Holds := by
  w_on; o_law; k_head; (case hw => w_witness2)
  k_fill
  refine K15.walk (l := PySem.Challenge.rw_callbinds_k15_refusals) rfl rfl (fun w h Y => PySem.W.kIn_of Y) ?F
  case F =>
    intro w mg fa h KX G hmg
    refine' K15.all_mk KX G hmg ?aD ?pgD ?hdD ?poD ?saD ?mkD ?kcD ?aC0 ?pgC0 ?hdC0 ?poC0 ?saC0 ?mkC0 ?kcC0 ?nC0_word ?nC0_name ?nC0_may_lack ?aC1 ?pgC1 ?hdC1 ?poC1 ?saC1 ?mkC1 ?kcC1 ?nC1_word ?nC1_name ?nC1_may_lack ?aC2 ?pgC2 ?hdC2 ?poC2 ?saC2 ?mkC2 ?kcC2 ?nC2_word ?nC2_name ?nC2_may_lack ?aFM ?pgFM ?hdFM ?poFM ?saFM ?mkFM ?kcFM ?a1 ?l1 ?c1 ?k1 ?a2 ?i2 ?l2 ?c2 ?k2 ?a3 ?i3 ?l3 ?c3 ?k3 ?a4 ?i4 ?l4 ?c4 ?k4 ?a5 ?i5 ?l5 ?c5 ?k5 ?a6 ?i6 ?l6 ?c6 ?k6 ?a7 ?i7 ?l7 ?c7 ?k7 ?a8 ?i8 ?l8 ?c8 ?k8 ?t8 ?a9 ?i9 ?l9 ?c9 ?k9 ?t9 ?a10 ?i10 ?l10 ?c10 ?k10 ?a11 ?i11 ?l11 ?c11 ?k11 ?t11 ?a12 ?i12 ?l12 ?c12 ?k12 ?a13 ?i13 ?l13 ?c13 ?k13 ?a14 ?i14 ?l14 ?c14 ?k14 ?a15 ?i15 ?l15 ?c15 ?k15 ?a16 ?l16 ?c16 ?k16 ?a17 ?l17 ?c17 ?k17 ?a18 ?l18 ?c18 ?k18 ?a19 ?l19 ?c19 ?k19 ?a20 ?l20 ?c20 ?k20 ?a21 ?l21 ?c21 ?k21 ?a22 ?l22 ?c22 ?k22 ?a23 ?l23 ?c23 ?k23 ?a24 ?l24 ?c24 ?k24 ?a25 ?l25 ?c25 ?k25 ?zisinstance ?zstr ?zbool ?zlen ?zall ?zrange ?zlist ?zenumerate ?zset ?zValueError ?gL ?gN ?gMP ?gMB ?ytP ?utP ?ytB ?utB ?ytO ?utO ?ysg ?usg ?yGr ?lGr ?kGr ?eG0 ?eG1 ?eG2 ?eG3 ?eG4 ?dga ?drd ?dfc ?h0_3 ?h0_4 ?h0_5 ?h0_6 ?h0_7 ?h1_3 ?h1_4 ?h1_5 ?h1_6 ?h1_7 ?h2_3 ?h2_4 ?h2_5 ?h2_6 ?h2_7 ?yCE ?xgt ?xtk ?yE0 ?ec0 ?ea0 ?en0 ?el0 ?eb0 ?eo0 ?xm0 ?ek0 ?k0_0 ?k0_1 ?k0_2 ?k0_3 ?k0_4 ?k0_5 ?k0_6 ?k0_7 ?k0_8 ?k0_9 ?k0_10 ?k0_11 ?k0_12 ?k0_13 ?k0_14 ?k0_15 ?kc0 ?kv0 ?em0 ?xo0 ?yE1 ?ec1 ?ea1 ?en1 ?el1 ?eb1 ?eo1 ?xm1 ?ek1 ?k1_0 ?k1_1 ?k1_2 ?k1_3 ?k1_4 ?k1_5 ?k1_6 ?k1_7 ?k1_8 ?k1_9 ?k1_10 ?k1_11 ?k1_12 ?k1_13 ?k1_14 ?k1_15 ?kc1 ?kv1 ?em1 ?xo1 ?yE2 ?ec2 ?ea2 ?en2 ?el2 ?eb2 ?eo2 ?xm2 ?ek2 ?k2_0 ?k2_1 ?k2_2 ?k2_3 ?k2_4 ?k2_5 ?k2_6 ?k2_7 ?k2_8 ?k2_9 ?k2_10 ?k2_11 ?k2_12 ?k2_13 ?k2_14 ?k2_15 ?kc2 ?kv2 ?em2 ?es2 ?et2 ?xt2 ?ef2 ?eq2 ?yE3 ?ec3 ?ea3 ?en3 ?el3 ?eb3 ?eo3 ?xm3 ?ek3 ?k3_0 ?k3_1 ?k3_2 ?k3_3 ?k3_4 ?k3_5 ?k3_6 ?k3_7 ?k3_8 ?k3_9 ?k3_10 ?k3_11 ?k3_12 ?k3_13 ?k3_14 ?k3_15 ?kc3 ?kv3 ?em3 ?es3 ?et3 ?xt3 ?ef3 ?eq3 ?yE4 ?ec4 ?ea4 ?en4 ?el4 ?eb4 ?eo4 ?xm4 ?ek4 ?k4_0 ?k4_1 ?k4_2 ?k4_3 ?k4_4 ?k4_5 ?k4_6 ?k4_7 ?k4_8 ?k4_9 ?k4_10 ?k4_11 ?k4_12 ?k4_13 ?k4_14 ?k4_15 ?kc4 ?kv4 ?xo4 ?yE5 ?ec5 ?ea5 ?en5 ?el5 ?eb5 ?eo5 ?xm5 ?ek5 ?k5_0 ?k5_1 ?k5_2 ?k5_3 ?k5_4 ?k5_5 ?k5_6 ?k5_7 ?k5_8 ?k5_9 ?k5_10 ?k5_11 ?k5_12 ?k5_13 ?k5_14 ?k5_15 ?kc5 ?kv5 ?es5 ?et5 ?xt5 ?ef5 ?eq5 ?yE6 ?ec6 ?ea6 ?en6 ?el6 ?eb6 ?eo6 ?xm6 ?ek6 ?k6_0 ?k6_1 ?k6_2 ?k6_3 ?k6_4 ?k6_5 ?k6_6 ?k6_7 ?k6_8 ?k6_9 ?k6_10 ?k6_11 ?k6_12 ?k6_13 ?k6_14 ?k6_15 ?kc6 ?kv6 ?xo6 ?yE7 ?ec7 ?ea7 ?en7 ?el7 ?eb7 ?eo7 ?xm7 ?ek7 ?k7_0 ?k7_1 ?k7_2 ?k7_3 ?k7_4 ?k7_5 ?k7_6 ?k7_7 ?k7_8 ?k7_9 ?k7_10 ?k7_11 ?k7_12 ?k7_13 ?k7_14 ?k7_15 ?kc7 ?kv7 ?xo7 ?yE8 ?ec8 ?ea8 ?en8 ?el8 ?eb8 ?eo8 ?xm8 ?ek8 ?k8_0 ?k8_1 ?k8_2 ?k8_3 ?k8_4 ?k8_5 ?k8_6 ?k8_7 ?k8_8 ?k8_9 ?k8_10 ?k8_11 ?k8_12 ?k8_13 ?k8_14 ?k8_15 ?kc8 ?kv8 ?xo8 ?yE9 ?ec9 ?ea9 ?en9 ?el9 ?eb9 ?eo9 ?xm9 ?ek9 ?k9_0 ?k9_1 ?k9_2 ?k9_3 ?k9_4 ?k9_5 ?k9_6 ?k9_7 ?k9_8 ?k9_9 ?k9_10 ?k9_11 ?k9_12 ?k9_13 ?k9_14 ?k9_15 ?kc9 ?kv9 ?ei9 ?es9 ?et9 ?xt9 ?ef9 ?eq9 ?yE10 ?ec10 ?ea10 ?en10 ?el10 ?eb10 ?eo10 ?xm10 ?ek10 ?k10_0 ?k10_1 ?k10_2 ?k10_3 ?k10_4 ?k10_5 ?k10_6 ?k10_7 ?k10_8 ?k10_9 ?k10_10 ?k10_11 ?k10_12 ?k10_13 ?k10_14 ?k10_15 ?kc10 ?kv10 ?ei10 ?es10 ?et10 ?xt10 ?ef10 ?eq10 ?yE11 ?ec11 ?ea11 ?en11 ?el11 ?eb11 ?eo11 ?xm11 ?ek11 ?k11_0 ?k11_1 ?k11_2 ?k11_3 ?k11_4 ?k11_5 ?k11_6 ?k11_7 ?k11_8 ?k11_9 ?k11_10 ?k11_11 ?k11_12 ?k11_13 ?k11_14 ?k11_15 ?kc11 ?kv11 ?ei11 ?es11 ?et11 ?xt11 ?ef11 ?eq11 ?yE12 ?ec12 ?ea12 ?en12 ?el12 ?eb12 ?eo12 ?xm12 ?ek12 ?k12_0 ?k12_1 ?k12_2 ?k12_3 ?k12_4 ?k12_5 ?k12_6 ?k12_7 ?k12_8 ?k12_9 ?k12_10 ?k12_11 ?k12_12 ?k12_13 ?k12_14 ?k12_15 ?kc12 ?kv12 ?ei12 ?es12 ?et12 ?xt12 ?ef12 ?eq12 ?yE13 ?ec13 ?ea13 ?en13 ?el13 ?eb13 ?eo13 ?xm13 ?ek13 ?k13_0 ?k13_1 ?k13_2 ?k13_3 ?k13_4 ?k13_5 ?k13_6 ?k13_7 ?k13_8 ?k13_9 ?k13_10 ?k13_11 ?k13_12 ?k13_13 ?k13_14 ?k13_15 ?kc13 ?kv13 ?ei13 ?es13 ?et13 ?xt13 ?ef13 ?eq13 ?yE14 ?ec14 ?ea14 ?en14 ?el14 ?eb14 ?eo14 ?xm14 ?ek14 ?k14_0 ?k14_1 ?k14_2 ?k14_3 ?k14_4 ?k14_5 ?k14_6 ?k14_7 ?k14_8 ?k14_9 ?k14_10 ?k14_11 ?k14_12 ?k14_13 ?k14_14 ?k14_15 ?kc14 ?kv14 ?ei14 ?es14 ?et14 ?xt14 ?ef14 ?eq14 ?yE15 ?ec15 ?ea15 ?en15 ?el15 ?eb15 ?eo15 ?xm15 ?ek15 ?k15_0 ?k15_1 ?k15_2 ?k15_3 ?k15_4 ?k15_5 ?k15_6 ?k15_7 ?k15_8 ?k15_9 ?k15_10 ?k15_11 ?k15_12 ?k15_13 ?k15_14 ?k15_15 ?kc15 ?kv15 ?es15 ?et15 ?xt15 ?ef15 ?eq15
    (case yCE => k_is)
    (case yE0 => k_is)
    (case yE1 => k_is)
    (case yE2 => k_is)
    (case yE3 => k_is)
    (case yE4 => k_is)
    (case yE5 => k_is)
    (case yE6 => k_is)
    (case yE7 => k_is)
    (case yE8 => k_is)
    (case yE9 => k_is)
    (case yE10 => k_is)
    (case yE11 => k_is)
    (case yE12 => k_is)
    (case yE13 => k_is)
    (case yE14 => k_is)
    (case yE15 => k_is)
    (case aD => k_is)
    (case pgD => k_is)
    (case hdD => k_is)
    (case poD => k_is)
    (case saD => k_is)
    (case mkD => k_is)
    (case kcD => k_is)
    (case aC0 => k_is)
    (case pgC0 => k_is)
    (case hdC0 => k_is)
    (case poC0 => k_is)
    (case saC0 => k_is)
    (case mkC0 => k_is)
    (case kcC0 => k_is)
    (case nC0_word => k_is)
    (case nC0_name => k_is)
    (case nC0_may_lack => k_is)
    (case aC1 => k_is)
    (case pgC1 => k_is)
    (case hdC1 => k_is)
    (case poC1 => k_is)
    (case saC1 => k_is)
    (case mkC1 => k_is)
    (case kcC1 => k_is)
    (case nC1_word => k_is)
    (case nC1_name => k_is)
    (case nC1_may_lack => k_is)
    (case aC2 => k_is)
    (case pgC2 => k_is)
    (case hdC2 => k_is)
    (case poC2 => k_is)
    (case saC2 => k_is)
    (case mkC2 => k_is)
    (case kcC2 => k_is)
    (case nC2_word => k_is)
    (case nC2_name => k_is)
    (case nC2_may_lack => k_is)
    (case aFM => k_is)
    (case pgFM => k_is)
    (case hdFM => k_is)
    (case poFM => k_is)
    (case saFM => k_is)
    (case mkFM => k_is)
    (case kcFM => k_is)
    (case a1 => k_is)
    (case l1 => k_is)
    (case c1 => k_is)
    (case k1 => k_is)
    (case a2 => k_is)
    (case i2 => k_is)
    (case l2 => k_is)
    (case c2 => k_is)
    (case k2 => k_is)
    (case a3 => k_is)
    (case i3 => k_is)
    (case l3 => k_is)
    (case c3 => k_is)
    (case k3 => k_is)
    (case a4 => k_is)
    (case i4 => k_is)
    (case l4 => k_is)
    (case c4 => k_is)
    (case k4 => k_is)
    (case a5 => k_is)
    (case i5 => k_is)
    (case l5 => k_is)
    (case c5 => k_is)
    (case k5 => k_is)
    (case a6 => k_is)
    (case i6 => k_is)
    (case l6 => k_is)
    (case c6 => k_is)
    (case k6 => k_is)
    (case a7 => k_is)
    (case i7 => k_is)
    (case l7 => k_is)
    (case c7 => k_is)
    (case k7 => k_is)
    (case a8 => k_is)
    (case i8 => k_is)
    (case l8 => k_is)
    (case c8 => k_is)
    (case k8 => k_is)
    (case t8 => k_is)
    (case a9 => k_is)
    (case i9 => k_is)
    (case l9 => k_is)
    (case c9 => k_is)
    (case k9 => k_is)
    (case t9 => k_is)
    (case a10 => k_is)
    (case i10 => k_is)
    (case l10 => k_is)
    (case c10 => k_is)
    (case k10 => k_is)
    (case a11 => k_is)
    (case i11 => k_is)
    (case l11 => k_is)
    (case c11 => k_is)
    (case k11 => k_is)
    (case t11 => k_is)
    (case a12 => k_is)
    (case i12 => k_is)
    (case l12 => k_is)
    (case c12 => k_is)
    (case k12 => k_is)
    (case a13 => k_is)
    (case i13 => k_is)
    (case l13 => k_is)
    (case c13 => k_is)
    (case k13 => k_is)
    (case a14 => k_is)
    (case i14 => k_is)
    (case l14 => k_is)
    (case c14 => k_is)
    (case k14 => k_is)
    (case a15 => k_is)
    (case i15 => k_is)
    (case l15 => k_is)
    (case c15 => k_is)
    (case k15 => k_is)
    (case a16 => k_is)
    (case l16 => k_is)
    (case c16 => k_is)
    (case k16 => k_is)
    (case a17 => k_is)
    (case l17 => k_is)
    (case c17 => k_is)
    (case k17 => k_is)
    (case a18 => k_is)
    (case l18 => k_is)
    (case c18 => k_is)
    (case k18 => k_is)
    (case a19 => k_is)
    (case l19 => k_is)
    (case c19 => k_is)
    (case k19 => k_is)
    (case a20 => k_is)
    (case l20 => k_is)
    (case c20 => k_is)
    (case k20 => k_is)
    (case a21 => k_is)
    (case l21 => k_is)
    (case c21 => k_is)
    (case k21 => k_is)
    (case a22 => k_is)
    (case l22 => k_is)
    (case c22 => k_is)
    (case k22 => k_is)
    (case a23 => k_is)
    (case l23 => k_is)
    (case c23 => k_is)
    (case k23 => k_is)
    (case a24 => k_is)
    (case l24 => k_is)
    (case c24 => k_is)
    (case k24 => k_is)
    (case a25 => k_is)
    (case l25 => k_is)
    (case c25 => k_is)
    (case k25 => k_is)
    (case zisinstance => k_is)
    (case zstr => k_is)
    (case zbool => k_is)
    (case zlen => k_is)
    (case zall => k_is)
    (case zrange => k_is)
    (case zlist => k_is)
    (case zenumerate => k_is)
    (case zset => k_is)
    (case zValueError => k_is)
    (case gL => k_is)
    (case gN => k_is)
    (case gMP => k_is)
    (case gMB => k_is)
    (case ytP => k_is)
    (case utP => k_is)
    (case ytB => k_is)
    (case utB => k_is)
    (case ytO => k_is)
    (case utO => k_is)
    (case ysg => k_is)
    (case usg => k_is)
    (case yGr => k_is)
    (case lGr => k_is)
    (case kGr => k_keys)
    (case eG0 => k_is)
    (case eG1 => k_is)
    (case eG2 => k_is)
    (case eG3 => k_is)
    (case eG4 => k_is)
    (case dga => k_is)
    (case drd => k_is)
    (case dfc => k_is)
    (case h0_3 => k_is)
    (case h0_4 => k_is)
    (case h0_5 => k_is)
    (case h0_6 => k_is)
    (case h0_7 => k_is)
    (case h1_3 => k_is)
    (case h1_4 => k_is)
    (case h1_5 => k_is)
    (case h1_6 => k_is)
    (case h1_7 => k_is)
    (case h2_3 => k_is)
    (case h2_4 => k_is)
    (case h2_5 => k_is)
    (case h2_6 => k_is)
    (case h2_7 => k_is)
    (case xgt => k_is)
    (case xtk => k_is)
    (case ec0 => first | kernel_rfl | exact rfl)
    (case ea0 => k_is)
    (case en0 => k_is)
    (case el0 => k_is)
    (case eb0 => k_is)
    (case eo0 => k_is)
    (case xm0 => first | kernel_rfl | exact rfl)
    (case ek0 => k_is)
    (case k0_0 => kit_is)
    (case k0_1 => kit_is)
    (case k0_2 => kit_is)
    (case k0_3 => kit_is)
    (case k0_4 => kit_is)
    (case k0_5 => kit_is)
    (case k0_6 => kit_is)
    (case k0_7 => kit_is)
    (case k0_8 => kit_is)
    (case k0_9 => kit_is)
    (case k0_10 => kit_is)
    (case k0_11 => kit_is)
    (case k0_12 => kit_is)
    (case k0_13 => kit_is)
    (case k0_14 => kit_is)
    (case k0_15 => kit_is)
    (case kc0 => kit_is)
    (case kv0 => kit_is)
    (case em0 => kts_exm)
    (case xo0 => k_exc)
    (case ec1 => first | kernel_rfl | exact rfl)
    (case ea1 => k_is)
    (case en1 => k_is)
    (case el1 => k_is)
    (case eb1 => k_is)
    (case eo1 => k_is)
    (case xm1 => first | kernel_rfl | exact rfl)
    (case ek1 => k_is)
    (case k1_0 => kit_is)
    (case k1_1 => kit_is)
    (case k1_2 => kit_is)
    (case k1_3 => kit_is)
    (case k1_4 => kit_is)
    (case k1_5 => kit_is)
    (case k1_6 => kit_is)
    (case k1_7 => kit_is)
    (case k1_8 => kit_is)
    (case k1_9 => kit_is)
    (case k1_10 => kit_is)
    (case k1_11 => kit_is)
    (case k1_12 => kit_is)
    (case k1_13 => kit_is)
    (case k1_14 => kit_is)
    (case k1_15 => kit_is)
    (case kc1 => kit_is)
    (case kv1 => kit_is)
    (case em1 => kts_exm)
    (case xo1 => k_exc)
    (case ec2 => first | kernel_rfl | exact rfl)
    (case ea2 => k_is)
    (case en2 => k_is)
    (case el2 => k_is)
    (case eb2 => k_is)
    (case eo2 => k_is)
    (case xm2 => first | kernel_rfl | exact rfl)
    (case ek2 => k_is)
    (case k2_0 => kit_is)
    (case k2_1 => kit_is)
    (case k2_2 => kit_is)
    (case k2_3 => kit_is)
    (case k2_4 => kit_is)
    (case k2_5 => kit_is)
    (case k2_6 => kit_is)
    (case k2_7 => kit_is)
    (case k2_8 => kit_is)
    (case k2_9 => kit_is)
    (case k2_10 => kit_is)
    (case k2_11 => kit_is)
    (case k2_12 => kit_is)
    (case k2_13 => kit_is)
    (case k2_14 => kit_is)
    (case k2_15 => kit_is)
    (case kc2 => kit_is)
    (case kv2 => kit_is)
    (case em2 => kts_exm)
    (case es2 => k_is)
    (case et2 => k_is)
    (case xt2 => first | kernel_rfl | exact rfl)
    (case ef2 => k_is)
    (case eq2 => k_is)
    (case ec3 => first | kernel_rfl | exact rfl)
    (case ea3 => k_is)
    (case en3 => k_is)
    (case el3 => k_is)
    (case eb3 => k_is)
    (case eo3 => k_is)
    (case xm3 => first | kernel_rfl | exact rfl)
    (case ek3 => k_is)
    (case k3_0 => kit_is)
    (case k3_1 => kit_is)
    (case k3_2 => kit_is)
    (case k3_3 => kit_is)
    (case k3_4 => kit_is)
    (case k3_5 => kit_is)
    (case k3_6 => kit_is)
    (case k3_7 => kit_is)
    (case k3_8 => kit_is)
    (case k3_9 => kit_is)
    (case k3_10 => kit_is)
    (case k3_11 => kit_is)
    (case k3_12 => kit_is)
    (case k3_13 => kit_is)
    (case k3_14 => kit_is)
    (case k3_15 => kit_is)
    (case kc3 => kit_is)
    (case kv3 => kit_is)
    (case em3 => kts_exm)
    (case es3 => k_is)
    (case et3 => k_is)
    (case xt3 => first | kernel_rfl | exact rfl)
    (case ef3 => k_is)
    (case eq3 => k_is)
    (case ec4 => first | kernel_rfl | exact rfl)
    (case ea4 => k_is)
    (case en4 => k_is)
    (case el4 => k_is)
    (case eb4 => k_is)
    (case eo4 => k_is)
    (case xm4 => first | kernel_rfl | exact rfl)
    (case ek4 => k_is)
    (case k4_0 => kit_is)
    (case k4_1 => kit_is)
    (case k4_2 => kit_is)
    (case k4_3 => kit_is)
    (case k4_4 => kit_is)
    (case k4_5 => kit_is)
    (case k4_6 => kit_is)
    (case k4_7 => kit_is)
    (case k4_8 => kit_is)
    (case k4_9 => kit_is)
    (case k4_10 => kit_is)
    (case k4_11 => kit_is)
    (case k4_12 => kit_is)
    (case k4_13 => kit_is)
    (case k4_14 => kit_is)
    (case k4_15 => kit_is)
    (case kc4 => kit_is)
    (case kv4 => kit_is)
    (case xo4 => k_exc)
    (case ec5 => first | kernel_rfl | exact rfl)
    (case ea5 => k_is)
    (case en5 => k_is)
    (case el5 => k_is)
    (case eb5 => k_is)
    (case eo5 => k_is)
    (case xm5 => first | kernel_rfl | exact rfl)
    (case ek5 => k_is)
    (case k5_0 => kit_is)
    (case k5_1 => kit_is)
    (case k5_2 => kit_is)
    (case k5_3 => kit_is)
    (case k5_4 => kit_is)
    (case k5_5 => kit_is)
    (case k5_6 => kit_is)
    (case k5_7 => kit_is)
    (case k5_8 => kit_is)
    (case k5_9 => kit_is)
    (case k5_10 => kit_is)
    (case k5_11 => kit_is)
    (case k5_12 => kit_is)
    (case k5_13 => kit_is)
    (case k5_14 => kit_is)
    (case k5_15 => kit_is)
    (case kc5 => kit_is)
    (case kv5 => kit_is)
    (case es5 => k_is)
    (case et5 => k_is)
    (case xt5 => first | kernel_rfl | exact rfl)
    (case ef5 => k_is)
    (case eq5 => k_is)
    (case ec6 => first | kernel_rfl | exact rfl)
    (case ea6 => k_is)
    (case en6 => k_is)
    (case el6 => k_is)
    (case eb6 => k_is)
    (case eo6 => k_is)
    (case xm6 => first | kernel_rfl | exact rfl)
    (case ek6 => k_is)
    (case k6_0 => kit_is)
    (case k6_1 => kit_is)
    (case k6_2 => kit_is)
    (case k6_3 => kit_is)
    (case k6_4 => kit_is)
    (case k6_5 => kit_is)
    (case k6_6 => kit_is)
    (case k6_7 => kit_is)
    (case k6_8 => kit_is)
    (case k6_9 => kit_is)
    (case k6_10 => kit_is)
    (case k6_11 => kit_is)
    (case k6_12 => kit_is)
    (case k6_13 => kit_is)
    (case k6_14 => kit_is)
    (case k6_15 => kit_is)
    (case kc6 => kit_is)
    (case kv6 => kit_is)
    (case xo6 => k_exc)
    (case ec7 => first | kernel_rfl | exact rfl)
    (case ea7 => k_is)
    (case en7 => k_is)
    (case el7 => k_is)
    (case eb7 => k_is)
    (case eo7 => k_is)
    (case xm7 => first | kernel_rfl | exact rfl)
    (case ek7 => k_is)
    (case k7_0 => kit_is)
    (case k7_1 => kit_is)
    (case k7_2 => kit_is)
    (case k7_3 => kit_is)
    (case k7_4 => kit_is)
    (case k7_5 => kit_is)
    (case k7_6 => kit_is)
    (case k7_7 => kit_is)
    (case k7_8 => kit_is)
    (case k7_9 => kit_is)
    (case k7_10 => kit_is)
    (case k7_11 => kit_is)
    (case k7_12 => kit_is)
    (case k7_13 => kit_is)
    (case k7_14 => kit_is)
    (case k7_15 => kit_is)
    (case kc7 => kit_is)
    (case kv7 => kit_is)
    (case xo7 => k_exc)
    (case ec8 => first | kernel_rfl | exact rfl)
    (case ea8 => k_is)
    (case en8 => k_is)
    (case el8 => k_is)
    (case eb8 => k_is)
    (case eo8 => k_is)
    (case xm8 => first | kernel_rfl | exact rfl)
    (case ek8 => k_is)
    (case k8_0 => kit_is)
    (case k8_1 => kit_is)
    (case k8_2 => kit_is)
    (case k8_3 => kit_is)
    (case k8_4 => kit_is)
    (case k8_5 => kit_is)
    (case k8_6 => kit_is)
    (case k8_7 => kit_is)
    (case k8_8 => kit_is)
    (case k8_9 => kit_is)
    (case k8_10 => kit_is)
    (case k8_11 => kit_is)
    (case k8_12 => kit_is)
    (case k8_13 => kit_is)
    (case k8_14 => kit_is)
    (case k8_15 => kit_is)
    (case kc8 => kit_is)
    (case kv8 => kit_is)
    (case xo8 => k_exc)
    (case ec9 => first | kernel_rfl | exact rfl)
    (case ea9 => k_is)
    (case en9 => k_is)
    (case el9 => k_is)
    (case eb9 => k_is)
    (case eo9 => k_is)
    (case xm9 => first | kernel_rfl | exact rfl)
    (case ek9 => k_is)
    (case k9_0 => kit_is)
    (case k9_1 => kit_is)
    (case k9_2 => kit_is)
    (case k9_3 => kit_is)
    (case k9_4 => kit_is)
    (case k9_5 => kit_is)
    (case k9_6 => kit_is)
    (case k9_7 => kit_is)
    (case k9_8 => kit_is)
    (case k9_9 => kit_is)
    (case k9_10 => kit_is)
    (case k9_11 => kit_is)
    (case k9_12 => kit_is)
    (case k9_13 => kit_is)
    (case k9_14 => kit_is)
    (case k9_15 => kit_is)
    (case kc9 => kit_is)
    (case kv9 => kit_is)
    (case ei9 => k_is)
    (case es9 => k_is)
    (case et9 => k_is)
    (case xt9 => first | kernel_rfl | exact rfl)
    (case ef9 => k_is)
    (case eq9 => k_is)
    (case ec10 => first | kernel_rfl | exact rfl)
    (case ea10 => k_is)
    (case en10 => k_is)
    (case el10 => k_is)
    (case eb10 => k_is)
    (case eo10 => k_is)
    (case xm10 => first | kernel_rfl | exact rfl)
    (case ek10 => k_is)
    (case k10_0 => kit_is)
    (case k10_1 => kit_is)
    (case k10_2 => kit_is)
    (case k10_3 => kit_is)
    (case k10_4 => kit_is)
    (case k10_5 => kit_is)
    (case k10_6 => kit_is)
    (case k10_7 => kit_is)
    (case k10_8 => kit_is)
    (case k10_9 => kit_is)
    (case k10_10 => kit_is)
    (case k10_11 => kit_is)
    (case k10_12 => kit_is)
    (case k10_13 => kit_is)
    (case k10_14 => kit_is)
    (case k10_15 => kit_is)
    (case kc10 => kit_is)
    (case kv10 => kit_is)
    (case ei10 => k_is)
    (case es10 => k_is)
    (case et10 => k_is)
    (case xt10 => first | kernel_rfl | exact rfl)
    (case ef10 => k_is)
    (case eq10 => k_is)
    (case ec11 => first | kernel_rfl | exact rfl)
    (case ea11 => k_is)
    (case en11 => k_is)
    (case el11 => k_is)
    (case eb11 => k_is)
    (case eo11 => k_is)
    (case xm11 => first | kernel_rfl | exact rfl)
    (case ek11 => k_is)
    (case k11_0 => kit_is)
    (case k11_1 => kit_is)
    (case k11_2 => kit_is)
    (case k11_3 => kit_is)
    (case k11_4 => kit_is)
    (case k11_5 => kit_is)
    (case k11_6 => kit_is)
    (case k11_7 => kit_is)
    (case k11_8 => kit_is)
    (case k11_9 => kit_is)
    (case k11_10 => kit_is)
    (case k11_11 => kit_is)
    (case k11_12 => kit_is)
    (case k11_13 => kit_is)
    (case k11_14 => kit_is)
    (case k11_15 => kit_is)
    (case kc11 => kit_is)
    (case kv11 => kit_is)
    (case ei11 => k_is)
    (case es11 => k_is)
    (case et11 => k_is)
    (case xt11 => first | kernel_rfl | exact rfl)
    (case ef11 => k_is)
    (case eq11 => k_is)
    (case ec12 => first | kernel_rfl | exact rfl)
    (case ea12 => k_is)
    (case en12 => k_is)
    (case el12 => k_is)
    (case eb12 => k_is)
    (case eo12 => k_is)
    (case xm12 => first | kernel_rfl | exact rfl)
    (case ek12 => k_is)
    (case k12_0 => kit_is)
    (case k12_1 => kit_is)
    (case k12_2 => kit_is)
    (case k12_3 => kit_is)
    (case k12_4 => kit_is)
    (case k12_5 => kit_is)
    (case k12_6 => kit_is)
    (case k12_7 => kit_is)
    (case k12_8 => kit_is)
    (case k12_9 => kit_is)
    (case k12_10 => kit_is)
    (case k12_11 => kit_is)
    (case k12_12 => kit_is)
    (case k12_13 => kit_is)
    (case k12_14 => kit_is)
    (case k12_15 => kit_is)
    (case kc12 => kit_is)
    (case kv12 => kit_is)
    (case ei12 => k_is)
    (case es12 => k_is)
    (case et12 => k_is)
    (case xt12 => first | kernel_rfl | exact rfl)
    (case ef12 => k_is)
    (case eq12 => k_is)
    (case ec13 => first | kernel_rfl | exact rfl)
    (case ea13 => k_is)
    (case en13 => k_is)
    (case el13 => k_is)
    (case eb13 => k_is)
    (case eo13 => k_is)
    (case xm13 => first | kernel_rfl | exact rfl)
    (case ek13 => k_is)
    (case k13_0 => kit_is)
    (case k13_1 => kit_is)
    (case k13_2 => kit_is)
    (case k13_3 => kit_is)
    (case k13_4 => kit_is)
    (case k13_5 => kit_is)
    (case k13_6 => kit_is)
    (case k13_7 => kit_is)
    (case k13_8 => kit_is)
    (case k13_9 => kit_is)
    (case k13_10 => kit_is)
    (case k13_11 => kit_is)
    (case k13_12 => kit_is)
    (case k13_13 => kit_is)
    (case k13_14 => kit_is)
    (case k13_15 => kit_is)
    (case kc13 => kit_is)
    (case kv13 => kit_is)
    (case ei13 => k_is)
    (case es13 => k_is)
    (case et13 => k_is)
    (case xt13 => first | kernel_rfl | exact rfl)
    (case ef13 => k_is)
    (case eq13 => k_is)
    (case ec14 => first | kernel_rfl | exact rfl)
    (case ea14 => k_is)
    (case en14 => k_is)
    (case el14 => k_is)
    (case eb14 => k_is)
    (case eo14 => k_is)
    (case xm14 => first | kernel_rfl | exact rfl)
    (case ek14 => k_is)
    (case k14_0 => kit_is)
    (case k14_1 => kit_is)
    (case k14_2 => kit_is)
    (case k14_3 => kit_is)
    (case k14_4 => kit_is)
    (case k14_5 => kit_is)
    (case k14_6 => kit_is)
    (case k14_7 => kit_is)
    (case k14_8 => kit_is)
    (case k14_9 => kit_is)
    (case k14_10 => kit_is)
    (case k14_11 => kit_is)
    (case k14_12 => kit_is)
    (case k14_13 => kit_is)
    (case k14_14 => kit_is)
    (case k14_15 => kit_is)
    (case kc14 => kit_is)
    (case kv14 => kit_is)
    (case ei14 => k_is)
    (case es14 => k_is)
    (case et14 => k_is)
    (case xt14 => first | kernel_rfl | exact rfl)
    (case ef14 => k_is)
    (case eq14 => k_is)
    (case ec15 => first | kernel_rfl | exact rfl)
    (case ea15 => k_is)
    (case en15 => k_is)
    (case el15 => k_is)
    (case eb15 => k_is)
    (case eo15 => k_is)
    (case xm15 => first | kernel_rfl | exact rfl)
    (case ek15 => k_is)
    (case k15_0 => kit_is)
    (case k15_1 => kit_is)
    (case k15_2 => kit_is)
    (case k15_3 => kit_is)
    (case k15_4 => kit_is)
    (case k15_5 => kit_is)
    (case k15_6 => kit_is)
    (case k15_7 => kit_is)
    (case k15_8 => kit_is)
    (case k15_9 => kit_is)
    (case k15_10 => kit_is)
    (case k15_11 => kit_is)
    (case k15_12 => kit_is)
    (case k15_13 => kit_is)
    (case k15_14 => kit_is)
    (case k15_15 => kit_is)
    (case kc15 => kit_is)
    (case kv15 => kit_is)
    (case es15 => k_is)
    (case et15 => k_is)
    (case xt15 => first | kernel_rfl | exact rfl)
    (case ef15 => k_is)
    (case eq15 => k_is)
#print axioms PySem.Challenge.cw_callbinds_k15_refusals_holds
